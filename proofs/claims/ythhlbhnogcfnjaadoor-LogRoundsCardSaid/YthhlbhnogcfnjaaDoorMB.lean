/-
  Layer 2 in memory: a row of blocks; a disk behind its pointer; what a call on a disk leaves as it was.
-/
import Derived.Test.YthhlbhnogcfnjaaDoorRows
import Derived.Test.YthhlbhnogcfnjaaDoorMA
import Derived.ProofKit
import Derived.Maps.AppendAt
import Derived.WalkLawsBesides
import Derived.Deep.MidRow
import Derived.Deep.RegionHeld
import Derived.BigRegion
import Derived.Lib.Strings
import Derived.Laws.AppendOwnNone
namespace Go.Proofs.YthhlbhnogcfnjaaDoor
open Go.RowKit

/-- A fact that the walk is not to use by itself. -/
theorem hid {p : Prop} (h : p) : Hid p := h

/-- A row of the call's own: blocks of m cells each, one behind the other. -/
def Blocks (w : World) (base : Nat) (e : TypeId) (m : Nat) (v : Value) (bl : List (List Value)) : Prop :=
  (∀ b ∈ bl, b.length = m) ∧ w.ownsRow base e m v bl.length bl.flatten

theorem lt_of_cell {w : World} {b o : Nat} {v : Value} (h : w.cell? ⟨b, o, none⟩ = some v) : b < w.heap.size := by
  rcases Nat.lt_or_ge b w.heap.size with hb | hb
  · exact hb
  · have : w.heap[b]? = none := by simpa using hb
    simp [World.cell?, this] at h
theorem lt_of_heap {w : World} {b : Nat} {o : Obj} (h : w.heap[b]? = some o) : b < w.heap.size := (Array.getElem?_eq_some_iff.1 h).1

/-- The row that is owned lies at or behind the base. -/
theorem own_base {w : World} {base : Nat} {e : TypeId} {size : Nat} {v : Value} {n : Nat} {xs : List Value} (h : w.ownsRow base e size v n xs) : ∀ k, v.ownBlock = some k → base ≤ k := fun k hk => (h.lt k hk).1
theorem own_heap {w : World} {base : Nat} {e : TypeId} {size : Nat} {v : Value} {n : Nat} {xs : List Value} (h : w.ownsRow base e size v n xs) {k : Nat} (hk : v.ownBlock = some k) : ∃ c, w.heap[k]? = some (.cells c e (0, 0)) := by
  rcases h.2 with ⟨rfl, _⟩ | ⟨g, cap, cur, rfl, hg, hh, _⟩
  · simp [Value.ownBlock] at hk
  · simp [Value.ownBlock] at hk; subst hk; exact ⟨cur, hh⟩
theorem own_same {w w' : World} {base : Nat} {e : TypeId} {size : Nat} {v : Value} {n : Nat} {xs : List Value} (h : w.ownsRow base e size v n xs) (hk : ∀ k, v.ownBlock = some k → w'.heap[k]? = w.heap[k]?) : w'.ownsRow base e size v n xs := by
  refine ⟨h.1, ?_⟩
  rcases h.2 with hn | ⟨g, cap, cur, rfl, hg, hh, rest⟩
  · exact .inl hn
  · exact .inr ⟨g, cap, cur, rfl, hg, by rw [hk g rfl]; exact hh, rest⟩
theorem own_below {w w' : World} {base : Nat} {e : TypeId} {size : Nat} {v : Value} {n : Nat} {xs : List Value} (h : w.ownsRow base e size v n xs) (hb : Below w.heap.size w w') : w'.ownsRow base e size v n xs :=
  own_same h fun k hk => hb.block k (h.lt k hk).2
theorem own_mono {W : World} {b1 b2 : Nat} {e : TypeId} {size : Nat} {v : Value} {n : Nat} {xs : List Value} (h : W.ownsRow b1 e size v n xs) (hb : b2 ≤ b1) : W.ownsRow b2 e size v n xs := by
  refine ⟨h.1, ?_⟩
  rcases h.2 with hn | ⟨g, cap, cur, rfl, hg, rest⟩
  · exact .inl hn
  · exact .inr ⟨g, cap, cur, rfl, Nat.le_trans hb hg, rest⟩
theorem Blocks.same {w w' : World} {base : Nat} {e : TypeId} {m : Nat} {v : Value} {bl : List (List Value)} (h : Blocks w base e m v bl) (hk : ∀ k, v.ownBlock = some k → w'.heap[k]? = w.heap[k]?) : Blocks w' base e m v bl := ⟨h.1, own_same h.2 hk⟩
theorem Blocks.below {w w' : World} {base : Nat} {e : TypeId} {m : Nat} {v : Value} {bl : List (List Value)} (h : Blocks w base e m v bl) (hb : Below w.heap.size w w') : Blocks w' base e m v bl := ⟨h.1, own_below h.2 hb⟩
theorem Blocks.mono {w : World} {b1 b2 : Nat} {e : TypeId} {m : Nat} {v : Value} {bl : List (List Value)} (h : Blocks w b1 e m v bl) (hb : b2 ≤ b1) : Blocks w b2 e m v bl := ⟨h.1, own_mono h.2 hb⟩

/-- Block number i, out of the row. -/
theorem Blocks.range {w : World} {base g n cap : Nat} {e : TypeId} {m : Nat} {bl : List (List Value)} (h : Blocks w base e m (.slice (some ⟨g, 0, none⟩) n cap) bl) (hn : n = bl.length) {i : Nat} (hi : i < bl.length) : w.rangeAt g (i * m) (bl.getD i []) := by
  subst hn
  intro j v hv
  have hlen : (bl.getD i []).length = m := h.1 _ (by simp [List.getD, hi])
  have hj : j < m := by rw [← hlen]; exact (List.getElem?_eq_some_iff.1 hv).1
  have hlt : i * m + j < bl.length * m := by
    have : (i + 1) * m ≤ bl.length * m := Nat.mul_le_mul_right _ hi
    rw [Nat.succ_mul] at this; omega
  rw [h.2.cellAt (i * m + j) hlt, flatten_at bl i j hi h.1 hj, hv]
theorem Blocks.there {w : World} {base g n cap : Nat} {e : TypeId} {m : Nat} {bl : List (List Value)} (h : Blocks w base e m (.slice (some ⟨g, 0, none⟩) n cap) bl) (hn : n = bl.length) {i : Nat} (hi : i < bl.length) : w.there g (i * m) m := by
  have hr := h.range hn hi
  subst hn
  have hlen : (bl.getD i []).length = m := h.1 _ (by simp [List.getD, hi])
  intro j hj
  exact ⟨hr.isSome j (by omega), h.2.frozenAt _⟩
theorem stored_many {base g n cap : Nat} {e : TypeId} {size : Nat} : ∀ (vs : List Value) (o : Nat) (w : World) (xs : List Value), w.ownsRow base e size (.slice (some ⟨g, 0, none⟩) n cap) n xs → (w.setCells g o vs).ownsRow base e size (.slice (some ⟨g, 0, none⟩) n cap) n (setAll xs o vs)
  | [], _, _, _, h => h
  | v :: r, o, _w, _xs, h => stored_many r (o + 1) _ _ (h.stored o v).1
theorem Blocks.set {w : World} {base g n cap : Nat} {e : TypeId} {m : Nat} {bl : List (List Value)} (h : Blocks w base e m (.slice (some ⟨g, 0, none⟩) n cap) bl) (hn : n = bl.length) {i : Nat} (hi : i < bl.length) {b : List Value} (hb : b.length = m) : Blocks (w.setCells g (i * m) b) base e m (.slice (some ⟨g, 0, none⟩) n cap) (bl.set i b) := by
  subst hn
  refine ⟨fun x hx => ?_, ?_⟩
  · rcases List.mem_or_eq_of_mem_set hx with hx | hx
    · exact h.1 x hx
    · rw [hx]; exact hb
  · rw [flatten_set bl i b hi h.1 hb, List.length_set]
    exact stored_many b (i * m) w _ h.2

/-- The cells of a sector, of a Write that waits. -/
def secV (s : List Int) : List Value := s.map (Value.int .u8)
def wrV (x : Nat × List Int) : List Value := .int .i64 x.1 :: secV x.2
theorem secV_len {s : List Int} (h : Sec s) : (secV s).length = 64 := by simp [secV, h.1]
theorem wrV_len {x : Nat × List Int} (h : Sec x.2) : (wrV x).length = 65 := by simp [wrV, secV_len h]
theorem secV_one (s : List Int) : ∀ v ∈ secV s, v.oneCell' = true := by
  intro v hv
  simp only [secV, List.mem_map] at hv
  obtain ⟨a, _, rfl⟩ := hv
  rfl
theorem wrV_one (x : Nat × List Int) : ∀ v ∈ wrV x, v.oneCell' = true := by
  intro v hv
  rcases List.mem_cons.1 hv with rfl | hv
  · rfl
  · exact secV_one _ v hv

/-- What a call on a disk from 'base' on leaves as it was: all below base, and all that is no disk's. -/
structure Kd (base : Nat) (w w' : World) : Prop where
  below : Below base w w'
  keep : ∀ (k : Nat) (c : Array Value) (t : TypeId) (f : Nat × Nat), w.heap[k]? = some (Obj.cells c t f) → t ≠ 46 → t ≠ 67 → t ≠ 69 → w'.heap[k]? = w.heap[k]?
  others : ∀ (k : Nat) (o : Obj), w.heap[k]? = some o → (∀ c t f, o ≠ .cells c t f) → w'.heap[k]? = some o
theorem Kd.refl (base : Nat) (w : World) : Kd base w w := ⟨Below.refl _ _, fun _ _ _ _ _ _ _ _ => rfl, fun _ _ h _ => h⟩
theorem Kd.trans {base : Nat} {a b c : World} (h : Kd base a b) (k : Kd base b c) : Kd base a c :=
  ⟨h.below.trans k.below, fun i x t f hx h1 h2 h3 => by
    have e := h.keep i x t f hx h1 h2 h3
    exact (k.keep i x t f (e.trans hx) h1 h2 h3).trans e, fun i o hi ho => k.others i o (h.others i o hi ho) ho⟩
theorem Kd.mono {b1 b2 : Nat} {w w' : World} (h : Kd b1 w w') (hb : b2 ≤ b1) : Kd b2 w w' := ⟨h.below.mono hb, h.keep, h.others⟩
theorem Kd.fresh {base : Nat} {w w' : World} (h : Below w.heap.size w w') (hb : base ≤ w.heap.size) : Kd base w w' :=
  ⟨h.mono hb, fun k _ _ _ hk _ _ _ => h.block k (lt_of_heap hk), fun k _ hk _ => (h.block k (lt_of_heap hk)).trans hk⟩
theorem Kd.size {base : Nat} {w w' : World} (h : Kd base w w') : w.heap.size ≤ w'.heap.size := h.below.size
theorem Kd.drew {base : Nat} {a w : World} (h : Kd base a w) : Kd base a w.drew := ⟨h.below.drew, h.keep, h.others⟩
/-- A step that turns one row of a disk's. -/
theorem Kd.row {base : Nat} {w w' : World} {g : Nat} {c : Array Value} {t : TypeId} {f : Nat × Nat} (hg : w.grownBy w' (some g)) (hb : base ≤ g) (hs : base ≤ w.heap.size) (hh : w.heap[g]? = some (.cells c t f)) (ht : t = 46 ∨ t = 67 ∨ t = 69) : Kd base w w' :=
  ⟨(Below.refl base w).grown hg hs (fun k e => by cases e; exact hb), fun k c' t' f' hk h1 h2 h3 => hg.block k (lt_of_heap hk) (fun e => by
    injection e with e
    subst e
    rw [hh] at hk
    injection hk with e
    injection e with _ e _
    subst e
    rcases ht with h | h | h
    · exact h1 h
    · exact h2 h
    · exact h3 h), fun k o hk ho => (hg.block k (lt_of_heap hk) (fun e => by
    injection e with e
    subst e
    rw [hh] at hk
    injection hk with e
    exact ho _ _ _ e.symm)).trans hk⟩
theorem grown_setCells (g : Nat) : ∀ (vs : List Value) (o : Nat) (w : World), w.grownBy (w.setCells g o vs) (some g)
  | [], _, w => ⟨rfl, rfl, rfl, Nat.le_refl _, fun _ _ _ => rfl⟩
  | v :: r, o, w => by
    have h := grown_setCells g r (o + 1) (w.setCell ⟨g, o, none⟩ v)
    refine ⟨h.os, h.tape, h.output, by have := h.size; simpa [World.setCells, World.setCell] using this, fun k hk hne => ?_⟩
    rw [World.setCells, h.block k (by simpa [World.setCell] using hk) hne]
    exact Below.heap_setCell w ⟨g, o, none⟩ v k (fun e => hne (by rw [e]))
theorem grown_setCell (w : World) (g o : Nat) (v : Value) : w.grownBy (w.setCell ⟨g, o, none⟩ v) (some g) := grown_setCells g [v] o w

/-- The disk d of n sectors behind the pointer to block B; all that is its own lies from base on. -/
def DiskIs (w : World) (base B n : Nat) (d : Dk) : Prop :=
  d.Ok n ∧ (8 ≤ n ∧ n ≤ 65536) ∧ base ≤ B ∧ ∃ gl cl gn cn vw,
    w.heap[B]? = some (.cells #[.slice (some ⟨gl, 0, none⟩) n cl, .slice (some ⟨gn, 0, none⟩) n cn, vw, .int .i64 d.writes, .int .i64 d.left] 46 (0, 0)) ∧ gl ≠ gn ∧
    Blocks w base 67 64 (.slice (some ⟨gl, 0, none⟩) n cl) (d.last.map secV) ∧ Blocks w base 67 64 (.slice (some ⟨gn, 0, none⟩) n cn) (d.now.map secV) ∧
    Blocks w base 69 65 vw (d.wait.map wrV)
theorem DiskIs.ok {w : World} {base B n : Nat} {d : Dk} (h : DiskIs w base B n d) : d.Ok n := h.1
theorem DiskIs.lt {w : World} {base B n : Nat} {d : Dk} (h : DiskIs w base B n d) : B < w.heap.size := by
  obtain ⟨_, _, _, _, _, _, _, _, hh, _⟩ := h
  exact lt_of_heap hh
theorem DiskIs.base_le {w : World} {base B n : Nat} {d : Dk} (h : DiskIs w base B n d) : base ≤ w.heap.size := by have := h.lt; have := h.2.2.1; omega
theorem DiskIs.below {w w' : World} {base B n : Nat} {d : Dk} (h : DiskIs w base B n d) (hb : Below w.heap.size w w') : DiskIs w' base B n d := by
  obtain ⟨ho, hn, hB, gl, cl, gn, cn, vw, hh, hne, h1, h2, h3⟩ := h
  exact ⟨ho, hn, hB, gl, cl, gn, cn, vw, by rw [hb.block B (lt_of_heap hh)]; exact hh, hne, h1.below hb, h2.below hb, h3.below hb⟩
theorem DiskIs.mono {w : World} {b1 b2 B n : Nat} {d : Dk} (h : DiskIs w b1 B n d) (hb : b2 ≤ b1) : DiskIs w b2 B n d := by
  obtain ⟨ho, hn, hB, gl, cl, gn, cn, vw, hh, hne, h1, h2, h3⟩ := h
  exact ⟨ho, hn, Nat.le_trans hb hB, gl, cl, gn, cn, vw, hh, hne, h1.mono hb, h2.mono hb, h3.mono hb⟩
theorem slice_of {w : World} {base : Nat} {e : TypeId} {m : Nat} {v : Value} {bl : List (List Value)} (h : Blocks w base e m v bl) : ∃ ao cap, v = .slice ao bl.length cap ∧ (1 ≤ bl.length → ∃ g, ao = some ⟨g, 0, none⟩) := by
  rcases h.2.2 with ⟨rfl, hn⟩ | ⟨g, cap, cur, rfl, _⟩
  · exact ⟨none, 0, by rw [hn], fun h1 => by omega⟩
  · exact ⟨_, cap, rfl, fun _ => ⟨g, rfl⟩⟩
end Go.Proofs.YthhlbhnogcfnjaaDoor

namespace Go.Proofs.YthhlbhnogcfnjaaDoor
open Go.RowKit

theorem dead_any {w : World} {base B n : Nat} {d : Dk} (h : DiskIs w base B n d) :
    Calls Tryd.prog 20 #[.pointer (some ⟨B, 0, none⟩)] w fun e w' => e = .returned (.bool (d.left == 0)) ∧ w' = w := by
  obtain ⟨ho, hn, hB, gl, cl, gn, cn, vw, hh, hne, h1, h2, h3⟩ := h
  have hc4 := cell_of_row w B 4 _ _ _ hh
  simp only [List.getElem?_toArray, List.getElem?_cons_succ, List.getElem?_cons_zero] at hc4
  clear ho hn hB hh hne h1 h2 h3
  go_enter Tryd.func20, Tryd.ntmps20
  go_wp2
  go_ret
  exact ⟨rfl, rfl⟩

























theorem sectors_any {w : World} {base B n : Nat} {d : Dk} (h : DiskIs w base B n d) :
    Calls Tryd.prog 15 #[.pointer (some ⟨B, 0, none⟩)] w fun e w' => e = .returned (.int .i64 n) ∧ w' = w := by
  obtain ⟨ho, hn, hB, gl, cl, gn, cn, vw, hh, hne, h1, h2, h3⟩ := h
  have hc4 := cell_of_row w B 1 _ _ _ hh
  simp only [List.getElem?_toArray, List.getElem?_cons_succ, List.getElem?_cons_zero] at hc4
  clear ho hn hB hh hne h1 h2 h3
  go_enter Tryd.func15, Tryd.ntmps15
  go_wp2
  go_ret
  exact ⟨rfl, rfl⟩
theorem has_any {w : World} {base B n : Nat} {d : Dk} (h : DiskIs w base B n d) (i : Int) :
    Calls Tryd.prog 44 #[.pointer (some ⟨B, 0, none⟩), .int .i64 i] w fun e w' => e = .returned (.bool (decide (0 ≤ i ∧ i < n))) ∧ w' = w := by
  obtain ⟨ho, hn, hB, gl, cl, gn, cn, vw, hh, hne, h1, h2, h3⟩ := h
  have hc4 := cell_of_row w B 1 _ _ _ hh
  simp only [List.getElem?_toArray, List.getElem?_cons_succ, List.getElem?_cons_zero] at hc4
  clear ho hn hB hh hne h1 h2 h3
  by_cases h0 : 0 ≤ i
  · have hd : decide (0 ≤ i ∧ i < (n : Int)) = decide (i < (n : Int)) := by simp [h0]
    rw [hd]
    clear hd
    go_enter Tryd.func44, Tryd.ntmps44
    go_wp2
    go_ret
    exact ⟨rfl, rfl⟩
  · have hd : decide (0 ≤ i ∧ i < (n : Int)) = false := by simp [h0]
    rw [hd]
    clear hd
    have hd2 : decide (0 ≤ i) = false := by simp [h0]
    go_enter Tryd.func44, Tryd.ntmps44
    go_wp2
    go_ret
    exact ⟨rfl, rfl⟩

/-- The struct's block, one of its last two fields turned. -/
theorem DiskIs.left {w : World} {base B n : Nat} {d : Dk} (h : DiskIs w base B n d) {x : Int} (h0 : -1 ≤ x) (h1 : x ≤ 9223372036854775807) :
    DiskIs (w.setCell ⟨B, 4, none⟩ (.int .i64 x)) base B n ⟨d.last, d.wait, d.writes, x⟩ ∧ Kd base w (w.setCell ⟨B, 4, none⟩ (.int .i64 x)) := by
  have hs := h.base_le
  obtain ⟨ho, hn, hB, gl, cl, gn, cn, vw, hh, hne, b1, b2, b3⟩ := h
  have hg := grown_setCell w B 4 (.int .i64 x)
  have other : ∀ (v : Value) (e : TypeId) (m : Nat) (bl : List (List Value)), Blocks w base e m v bl → e ≠ 46 → Blocks (w.setCell ⟨B, 4, none⟩ (.int .i64 x)) base e m v bl := fun v e m bl hb he =>
    hb.same fun k hk => by
      obtain ⟨c, hc⟩ := own_heap hb.2 hk
      refine hg.block k (lt_of_heap hc) (fun e' => ?_)
      injection e' with e'
      subst e'
      rw [hh] at hc
      injection hc with e1
      injection e1 with _ e2 _
      exact he e2.symm
  refine ⟨⟨⟨ho.len, ho.secs, ho.waits, h0, h1, ho.w0⟩, hn, hB, gl, cl, gn, cn, vw, ?_, hne, other _ _ _ _ b1 (by decide), other _ _ _ _ b2 (by decide), other _ _ _ _ b3 (by decide)⟩, Kd.row hg hB hs hh (.inl rfl)⟩
  rw [heap_setCell_same w B 4 _ _ _ hh]
  rfl
theorem burn_any {w : World} {base B n : Nat} {d : Dk} (h : DiskIs w base B n d) (hd : d.left ≠ 0) :
    Calls Tryd.prog 45 #[.pointer (some ⟨B, 0, none⟩)] w fun e w' => (∃ v, e = .returned v) ∧ DiskIs w' base B n ⟨d.last, d.wait, d.writes, burn d.left⟩ ∧ Kd base w w' := by
  have H := hid h
  have hb := burn_bounds h.ok.left0 h.ok.left1 hd
  have hl0 := h.ok.left0
  have hl1 := h.ok.left1
  obtain ⟨ho, hn, hB, gl, cl, gn, cn, vw, hh, hne, h1, h2, h3⟩ := h
  have hc4 := cell_of_row w B 4 _ _ _ hh
  have hf4 := frozen_of_row w B 4 _ _ hh
  simp only [List.getElem?_toArray, List.getElem?_cons_succ, List.getElem?_cons_zero] at hc4
  have HD := hid hd
  have HB := hid hb
  clear ho hn hB hh hne h1 h2 h3 hb
  by_cases he : d.left = -1
  · have HE := hid he
    have ht : (d.left != -1) = false := by simp [he]
    clear he hd
    go_enter Tryd.func45, Tryd.ntmps45
    go_wp2
    go_end0
    refine ⟨⟨_, rfl⟩, ?_, Kd.refl _ _⟩
    have : burn d.left = d.left := by unfold burn; rw [if_pos HE.out, HE.out]
    rw [this]
    exact H.out
  · have HE := hid he
    have ht : (d.left != -1) = true := by simpa using he
    have hl2 : 0 < d.left := by omega
    clear he hd
    go_enter Tryd.func45, Tryd.ntmps45
    go_wp2
    go_end0
    refine ⟨⟨_, rfl⟩, ?_⟩
    have e : burn d.left = d.left - 1 := by unfold burn; rw [if_neg HE.out]
    have := H.out.left (x := burn d.left) HB.out.1 HB.out.2
    rw [e] at this ⊢
    exact this






































end Go.Proofs.YthhlbhnogcfnjaaDoor

namespace Go.Proofs.YthhlbhnogcfnjaaDoor
open Go.RowKit

theorem heap_new (w : World) (o : Obj) : (w.alloc o).heap[w.heap.size]? = some o := by
  show (w.heap.push o)[w.heap.size]? = some o
  simp
theorem infoSec : (Tryd.prog.info? 67).map (fun i => (i.zero, i.size, i.bytes)) = some (some (.agg (Array.replicate 64 (.int .u8 0))), 64, 64) := by kernel_rfl

theorem made_noughts (n : Nat) : (madeCells (Array.replicate 64 (Value.int .u8 0)) (n * 64)).toList = ((List.replicate n nought).map secV).flatten := by
  have h1 : ((List.replicate n nought).map secV).flatten = List.replicate (n * 64) (Value.int .u8 0) := by
    simp only [secV, nought, List.map_replicate, List.flatten_replicate_replicate]
  rw [h1]
  apply List.ext_getElem (by simp [madeCells])
  intro i h2 h3
  simp [madeCells, getElem!_pos, Nat.mod_lt]

theorem new_bad (k : Int) (w : World) (h : ¬ (8 ≤ k ∧ k ≤ 65536)) :
    Calls Tryd.prog 4 #[.int .i64 k] w fun e w' => e = .returned (.tuple #[.pointer none, .int .i64 1]) ∧ w' = w := by
  by_cases h8 : k < 8
  · go_enter Tryd.func4, Tryd.ntmps4
    go_wp2
    go_ret2
    exact ⟨rfl, rfl⟩
  · have h9 : (65536 : Int) < k := by omega
    have hd : decide (k < 8) = false := by simpa using h8
    go_enter Tryd.func4, Tryd.ntmps4
    go_wp2
    go_ret2
    exact ⟨rfl, rfl⟩

/-- The three blocks of a new disk. -/
theorem new_is (w w3 : World) (n : Nat) (hn : 8 ≤ n ∧ n ≤ 65536) (C : Array Value) (hC : C.toList = ((List.replicate n nought).map secV).flatten) {gl gn : Nat} (hg : (gl = w.heap.size ∧ gn = w.heap.size + 1) ∨ (gl = w.heap.size + 1 ∧ gn = w.heap.size))
    (hw0 : w3 = (((w.alloc (.cells C 67)).alloc (.cells C 67)).alloc (.cells #[.slice (some ⟨gl, 0, none⟩) n n, .slice (some ⟨gn, 0, none⟩) n n, .slice none 0 0, .int .i64 0, .int .i64 (-1)] 46)).drew) :
    DiskIs w3 w.heap.size (w.heap.size + 2) n (Dk.new n) ∧ Below w.heap.size w w3 := by
  have hw : w3.heap = (((w.alloc (.cells C 67)).alloc (.cells C 67)).alloc (.cells #[.slice (some ⟨gl, 0, none⟩) n n, .slice (some ⟨gn, 0, none⟩) n n, .slice none 0 0, .int .i64 0, .int .i64 (-1)] 46)).heap := by rw [hw0]; rfl
  have hsz : ((w.alloc (.cells C 67)).alloc (.cells C 67)).heap.size = w.heap.size + 2 := by simp
  have hl : C.size = n * 64 := by
    have := congrArg List.length hC
    simp only [secV, nought, List.map_replicate, List.flatten_replicate_replicate, List.length_replicate, Array.length_toList] at this
    exact this
  have hb0 : w3.heap[w.heap.size]? = some (.cells C 67 (0, 0)) := by
    rw [hw, Below.heap_alloc _ _ _ (by rw [hsz]; omega), Below.heap_alloc _ _ _ (by simp)]
    exact heap_new w _
  have hb1 : w3.heap[w.heap.size + 1]? = some (.cells C 67 (0, 0)) := by
    rw [hw, Below.heap_alloc _ _ _ (by rw [hsz]; omega)]
    have := heap_new (w.alloc (.cells C 67)) (.cells C 67)
    simpa using this
  have hb2 : w3.heap[w.heap.size + 2]? = some (.cells #[.slice (some ⟨gl, 0, none⟩) n n, .slice (some ⟨gn, 0, none⟩) n n, .slice none 0 0, .int .i64 0, .int .i64 (-1)] 46 (0, 0)) := by
    rw [hw, ← hsz]
    exact heap_new _ _
  have row : ∀ g, g = w.heap.size ∨ g = w.heap.size + 1 → Blocks w3 w.heap.size 67 64 (.slice (some ⟨g, 0, none⟩) n n) ((List.replicate n nought).map secV) := fun g hg' => by
    refine ⟨fun b hb => ?_, ?_⟩
    · simp [List.map_replicate] at hb; rw [hb.2]; exact secV_len sec_nought
    · refine ⟨?_, .inr ⟨g, n, C, by simp, by omega, ?_, by simp, by unfold maxLen; omega, hl, ?_⟩⟩
      · rw [← hC]; simpa using hl
      · rcases hg' with rfl | rfl
        · exact hb0
        · exact hb1
      · rw [← hC, List.take_of_length_le (by simp; omega)]
  refine ⟨⟨Dk.ok_new n, hn, by omega, gl, n, gn, n, .slice none 0 0, hb2, by omega, row gl (by omega), row gn (by omega), ⟨fun b hb => by simp [Dk.new] at hb, ?_⟩⟩, ?_⟩
  · simp [Dk.new]; exact World.ownsRow_nil _ _ _ _
  · rw [hw0]
    exact ((((Below.refl _ w).alloc (Nat.le_refl _) _).alloc (by simp) _).alloc (by rw [hsz]; omega) _).drew

theorem new_any (n : Nat) (w : World) (hn : 8 ≤ n ∧ n ≤ 65536) :
    Calls Tryd.prog 4 #[.int .i64 n] w fun e w' => ∃ B, e = .returned (.tuple #[.pointer (some ⟨B, 0, none⟩), .int .i64 0]) ∧ DiskIs w' w.heap.size B n (Dk.new n) ∧ Below w.heap.size w w' := by
  obtain ⟨i0, hi, hz0, hz1, hz2⟩ := info_parts infoSec
  obtain ⟨C, hC⟩ : ∃ C, C = madeCells (Array.replicate 64 (Value.int .u8 0)) (n * 64) := ⟨_, rfl⟩
  have hmk : ∀ wx : World, (Instr.makeSlice 43 (.int .i64 (n : Int)) (.int .i64 (n : Int))).run Tryd.prog wx = .ok (.slice (some ⟨wx.heap.size, 0, none⟩) n n) (wx.alloc (.cells C 67)) := fun wx => by
    have := run_make (P := Tryd.prog) wx 43 67 i0 _ Tryd.underlying43 hi hz0 .i64 .i64 n n (by omega) (by omega) (by rw [hz2]; omega) (by omega)
    rw [hz1] at this
    rw [this, hC]
    simp [Value.cells]
  have HC := hid (hC ▸ made_noughts n)
  clear hC hi hz0 hz1 hz2
  have h8 : ¬ ((n : Int) < 8) := by omega
  have h9 : ¬ ((65536 : Int) < (n : Int)) := by omega
  have HN := hid hn
  clear hn
  obtain ⟨N, hN⟩ : ∃ N : Int, N = n := ⟨_, rfl⟩
  go_enter Tryd.func4, Tryd.ntmps4
  go_wp2
  go_region
  all_goals
    go_wp2
    go_ret2
    first
      | exact ⟨_, rfl, new_is w _ n HN.out C HC.out (.inl ⟨rfl, rfl⟩) rfl⟩
      | exact ⟨_, rfl, new_is w _ n HN.out C HC.out (.inr ⟨rfl, rfl⟩) rfl⟩
end Go.Proofs.YthhlbhnogcfnjaaDoor

namespace Go.Proofs.YthhlbhnogcfnjaaDoor
open Go.RowKit

/-- The slice v holds the bytes zs. -/
def Has (w : World) (v : Value) (zs : List Int) : Prop :=
  ∃ b off cap, v = .slice (some ⟨b, off, none⟩) zs.length cap ∧ zs.length ≤ cap ∧ ∀ j, j < zs.length → w.cell? ⟨b, off + j, none⟩ = some (.int .u8 (zs.getD j 0))
theorem Has.below {w w' : World} {v : Value} {zs : List Int} (h : Has w v zs) (h1 : 1 ≤ zs.length) (hb : Below w.heap.size w w') : Has w' v zs := by
  obtain ⟨b, off, cap, rfl, hcap, hc⟩ := h
  have hlt := lt_of_cell (hc 0 (by omega))
  exact ⟨b, off, cap, rfl, hcap, fun j hj => by rw [hb.cell (p := ⟨b, off + j, none⟩) hlt]; exact hc j hj⟩
theorem has_of_own {w : World} {base n : Nat} {v : Value} {l : List Int} (h : w.ownsRow base 5 1 v n (secV l)) (hn : 1 ≤ n) : Has w v l := by
  have hl : l.length = n := by simpa [secV] using h.1
  rcases h.2 with ⟨rfl, h0⟩ | ⟨g, cap, cur, rfl, hg, hh, hnc, hcm, hcs, ht⟩
  · omega
  · refine ⟨g, 0, cap, by rw [hl], by omega, fun j hj => ?_⟩
    have := h.cellAt j (by omega)
    rw [Nat.zero_add, this]
    simp [secV, List.getElem?_eq_getElem hj]
theorem Has.conv {w : World} {v : Value} {zs : List Int} (h : Has w v zs) : (convert 32 9 v).run Tryd.prog w = .ok (.string (strOfNums zs)) w := by
  obtain ⟨b, off, cap, rfl, _, hc⟩ := h
  exact run_convert_bytes_arg w 32 5 Tryd.underlying32 Tryd.underlying5 b off _ cap zs rfl hc 9 Tryd.underlying9

theorem infoU8 : (Tryd.prog.info? 5).map (fun i => (i.zero, i.size, i.bytes)) = some (some (.int .u8 0), 1, 1) := by kernel_rfl

theorem has_at {w : World} {b off cap : Nat} {s : List Int} (h : w.rangeAt b off (secV s)) (hc : s.length ≤ cap) : Has w (.slice (some ⟨b, off, none⟩) s.length cap) s :=
  ⟨b, off, cap, rfl, hc, fun j hj => h j _ (by simp [secV, List.getElem?_eq_getElem hj])⟩

theorem clone_any {w : World} {v : Value} {zs : List Int} (h : Has w v zs) (h1 : 1 ≤ zs.length) (hl : zs.length ≤ 65536) :
    Calls Tryd.prog 22 #[v] w fun e w' => ∃ v', e = .returned v' ∧ w'.ownsRow w.heap.size 5 1 v' zs.length (secV zs) ∧ Below w.heap.size w w' := by
  obtain ⟨i0, hi, hz0, hz1, hz2⟩ := info_parts infoU8
  have hb0 : Below w.heap.size w (w.alloc (.cells #[] 5)) := (Below.refl _ _).alloc (Nat.le_refl _) _
  obtain ⟨b, off, cap, rfl, hcap, hc⟩ := h.below h1 hb0
  have HC := hid hc
  have hnil : ∀ (wx : World) (a : Option Addr) (n c : Nat), (binOp .eql 32 (.slice a n c) (.slice none 0 0)).run Tryd.prog wx = .ok (.bool a.isNone) wx := fun wx a n c => Lib.run_eql_slice_nil wx _ _ a n c 0 0 Tryd.underlying32
  have hown : (w.alloc (.cells #[] 5)).ownsRow w.heap.size 5 1 (.slice (some ⟨w.heap.size, 0, none⟩) 0 0) 0 [] := World.ownsRow_lit w #[] 0 (Nat.le_refl _) (by unfold maxLen; omega) (by simp)
  have HOW := hid hown
  clear h hc hown
  go_enter Tryd.func22, Tryd.ntmps22
  go_wp2_with (at_builtin; refine wpList_append_own _ rfl (.tmp 5) (.tmp 6) 32 rfl w.heap.size 5 i0 (.int .u8 0) 1 1 Tryd.underlying32 hi hz0 hz1 hz2 rfl (by decide) (.slice (some ⟨w.heap.size, 0, none⟩) 0 0) 0 [] rfl HOW.out ⟨b, off, none⟩ zs.length cap (secV zs) rfl (by simp [secV]) (fun j u hj => by
      have hjl : j < zs.length := by have := (List.getElem?_eq_some_iff.1 hj).1; simpa [secV] using this
      rw [Addr.add_lit, HC.out j hjl, ← hj]; simp [secV, hjl]) (secV_one zs) (by unfold maxLen; omega) (by omega) (by simp) ?_; intro v2 w2 hown2 hgrow2 _; have hB2 : Below w.heap.size w w2 := hb0.grown hgrow2 (by simp) (own_base HOW.out))
  go_ret
  exact ⟨_, rfl, by simpa using hown2, hB2⟩

/-- Read, where there is no such sector; where the disk is dead. -/
theorem read_bad {w : World} {base B n : Nat} {d : Dk} (h : DiskIs w base B n d) {i : Int} (hi : ¬ (0 ≤ i ∧ i < n)) :
    Calls Tryd.prog 34 #[.pointer (some ⟨B, 0, none⟩), .int .i64 i] w fun e w' => e = .returned (.tuple #[.slice none 0 0, .int .i64 1]) ∧ w' = w := by
  have HH := hid (has_any h i)
  have hd : decide (0 ≤ i ∧ i < (n : Int)) = false := by simpa using hi
  rw [hd] at HH
  clear h hi hd
  go_enter Tryd.func34, Tryd.ntmps34
  go_wp2_with (go_at_call 44; refine HH.out.mono ?_; rintro e w2 ⟨rfl, hw⟩; have hw' := hw.symm; clear hw; subst hw')
  go_ret2
  exact ⟨rfl, rfl⟩
theorem read_dead {w : World} {base B n : Nat} {d : Dk} (h : DiskIs w base B n d) {i : Int} (hi : 0 ≤ i ∧ i < n) (hd : d.left = 0) :
    Calls Tryd.prog 34 #[.pointer (some ⟨B, 0, none⟩), .int .i64 i] w fun e w' => e = .returned (.tuple #[.slice none 0 0, .int .i64 50]) ∧ w' = w := by
  have HH := hid (has_any h i)
  have hd' : decide (0 ≤ i ∧ i < (n : Int)) = true := by simpa using hi
  have HD := hid (dead_any h)
  have hd2 : (d.left == 0) = true := by simpa using hd
  rw [hd'] at HH
  rw [hd2] at HD
  clear h hi hd hd' hd2
  go_enter Tryd.func34, Tryd.ntmps34
  go_wp2_with (first | (go_at_call 44; refine HH.out.mono ?_; rintro e w2 ⟨rfl, hw⟩; have hw' := hw.symm; clear hw; subst hw') | (go_at_call 20; refine HD.out.mono ?_; rintro e w2 ⟨rfl, hw⟩; have hw' := hw.symm; clear hw; subst hw'))
  go_ret2
  exact ⟨rfl, rfl⟩
theorem getD_map_secV (l : List (List Int)) (i : Nat) (hi : i < l.length) : (l.map secV).getD i [] = secV (l.getD i []) := by simp [List.getD, hi]
theorem read_any {w : World} {base B n : Nat} {d : Dk} (h : DiskIs w base B n d) {i : Nat} (hi : i < n) (hd : d.left ≠ 0) :
    Calls Tryd.prog 34 #[.pointer (some ⟨B, 0, none⟩), .int .i64 i] w fun e w' => ∃ v, e = .returned (.tuple #[v, .int .i64 0]) ∧ w'.ownsRow w.heap.size 5 1 v 64 (secV (d.now.getD i [])) ∧ Below w.heap.size w w' := by
  have HH := hid (has_any h i)
  have hd' : decide (0 ≤ (i : Int) ∧ (i : Int) < (n : Int)) = true := by simp; omega
  have HD := hid (dead_any h)
  have hd2 : (d.left == 0) = false := by simpa using hd
  rw [hd'] at HH
  rw [hd2] at HD
  clear hd hd' hd2
  obtain ⟨ho, hn, hB, gl, cl, gn, cn, vw, hh, hne, h1, h2, h3⟩ := h
  have hc1 := cell_of_row w B 1 _ _ _ hh
  simp only [List.getElem?_toArray, List.getElem?_cons_succ, List.getElem?_cons_zero] at hc1
  have hlen : d.now.length = n := ho.now_len
  have hsec : Sec (d.now.getD i []) := ho.now_secs _ (by simp [List.getD, hlen, hi])
  have hr := h2.range (by simp [hlen]) (i := i) (by simp [hlen, hi])
  rw [getD_map_secV _ _ (by omega)] at hr
  have hHas := has_at hr (cap := 64) (by rw [hsec.1]; omega)
  have HC := hid (clone_any hHas (by rw [hsec.1]; omega) (by rw [hsec.1]; omega))
  rw [hsec.1] at HC
  have HI := hid hi
  clear ho hn hB hh hne h1 h2 h3 hlen hsec hr hHas
  have hiI : (i : Int) < (n : Int) := by omega
  go_enter Tryd.func34, Tryd.ntmps34
  go_wp2_with (first | (go_at_call 44; refine HH.out.mono ?_; rintro e w2 ⟨rfl, hw⟩; have hw' := hw.symm; clear hw; subst hw') | (go_at_call 20; refine HD.out.mono ?_; rintro e w2 ⟨rfl, hw⟩; have hw' := hw.symm; clear hw; subst hw') | (go_at_call 22; refine HC.out.mono ?_; rintro e w2 ⟨v2, rfl, hown2, hb2⟩))
  go_ret2
  exact ⟨_, rfl, hown2, hb2⟩
end Go.Proofs.YthhlbhnogcfnjaaDoor
