/-
  Layer 2 in memory: a row of blocks; a disk behind its pointer; what a call on a disk leaves as it was.
-/
import Derived.Test.YtafopokcfkgjiaaDoorRows
import Derived.Test.YtafopokcfkgjiaaDoorDPlain
import Derived.ProofKit
import Derived.Maps.AppendAt
import Derived.WalkLawsBesides
import Derived.Deep.MidRow
import Derived.Deep.RegionHeld
namespace Go.Proofs.YtafopokcfkgjiaaDoor
open Go.RowKit

/-- A fact that the walk is not to use by itself. -/
theorem hid {p : Prop} (h : p) : Hid p := h

/-- A row of the call's own: blocks of m cells each, one behind the other. -/
def Blocks (w : World) (base : Nat) (e : TypeId) (m : Nat) (v : Value) (bl : List (List Value)) : Prop :=
  (∀ b ∈ bl, b.length = m) ∧ w.ownsRow base e m v bl.length bl.flatten

theorem lt_of_cell {w : World} {b o : Nat} {v : Value} (h : w.cell? ⟨b, o, none⟩ = some v) : b < w.heap.size := by
  rcases Nat.lt_or_ge b w.heap.size with hb | hb
  · exact hb
  · have : w.heap[b]? = none := by simpa using hb
    simp [World.cell?, this] at h
theorem lt_of_heap {w : World} {b : Nat} {o : Obj} (h : w.heap[b]? = some o) : b < w.heap.size := (Array.getElem?_eq_some_iff.1 h).1

/-- The row that is owned lies at or behind the base. -/
theorem own_base {w : World} {base : Nat} {e : TypeId} {size : Nat} {v : Value} {n : Nat} {xs : List Value} (h : w.ownsRow base e size v n xs) : ∀ k, v.ownBlock = some k → base ≤ k := fun k hk => (h.lt k hk).1
theorem own_heap {w : World} {base : Nat} {e : TypeId} {size : Nat} {v : Value} {n : Nat} {xs : List Value} (h : w.ownsRow base e size v n xs) {k : Nat} (hk : v.ownBlock = some k) : ∃ c, w.heap[k]? = some (.cells c e (0, 0)) := by
  rcases h.2 with ⟨rfl, _⟩ | ⟨g, cap, cur, rfl, hg, hh, _⟩
  · simp [Value.ownBlock] at hk
  · simp [Value.ownBlock] at hk; subst hk; exact ⟨cur, hh⟩
theorem own_same {w w' : World} {base : Nat} {e : TypeId} {size : Nat} {v : Value} {n : Nat} {xs : List Value} (h : w.ownsRow base e size v n xs) (hk : ∀ k, v.ownBlock = some k → w'.heap[k]? = w.heap[k]?) : w'.ownsRow base e size v n xs := by
  refine ⟨h.1, ?_⟩
  rcases h.2 with hn | ⟨g, cap, cur, rfl, hg, hh, rest⟩
  · exact .inl hn
  · exact .inr ⟨g, cap, cur, rfl, hg, by rw [hk g rfl]; exact hh, rest⟩
theorem own_below {w w' : World} {base : Nat} {e : TypeId} {size : Nat} {v : Value} {n : Nat} {xs : List Value} (h : w.ownsRow base e size v n xs) (hb : Below w.heap.size w w') : w'.ownsRow base e size v n xs :=
  own_same h fun k hk => hb.block k (h.lt k hk).2
theorem own_mono {W : World} {b1 b2 : Nat} {e : TypeId} {size : Nat} {v : Value} {n : Nat} {xs : List Value} (h : W.ownsRow b1 e size v n xs) (hb : b2 ≤ b1) : W.ownsRow b2 e size v n xs := by
  refine ⟨h.1, ?_⟩
  rcases h.2 with hn | ⟨g, cap, cur, rfl, hg, rest⟩
  · exact .inl hn
  · exact .inr ⟨g, cap, cur, rfl, Nat.le_trans hb hg, rest⟩
theorem Blocks.same {w w' : World} {base : Nat} {e : TypeId} {m : Nat} {v : Value} {bl : List (List Value)} (h : Blocks w base e m v bl) (hk : ∀ k, v.ownBlock = some k → w'.heap[k]? = w.heap[k]?) : Blocks w' base e m v bl := ⟨h.1, own_same h.2 hk⟩
theorem Blocks.below {w w' : World} {base : Nat} {e : TypeId} {m : Nat} {v : Value} {bl : List (List Value)} (h : Blocks w base e m v bl) (hb : Below w.heap.size w w') : Blocks w' base e m v bl := ⟨h.1, own_below h.2 hb⟩
theorem Blocks.mono {w : World} {b1 b2 : Nat} {e : TypeId} {m : Nat} {v : Value} {bl : List (List Value)} (h : Blocks w b1 e m v bl) (hb : b2 ≤ b1) : Blocks w b2 e m v bl := ⟨h.1, own_mono h.2 hb⟩

/-- Block number i, out of the row. -/
theorem Blocks.range {w : World} {base g n cap : Nat} {e : TypeId} {m : Nat} {bl : List (List Value)} (h : Blocks w base e m (.slice (some ⟨g, 0, none⟩) n cap) bl) (hn : n = bl.length) {i : Nat} (hi : i < bl.length) : w.rangeAt g (i * m) (bl.getD i []) := by
  subst hn
  intro j v hv
  have hlen : (bl.getD i []).length = m := h.1 _ (by simp [List.getD, hi])
  have hj : j < m := by rw [← hlen]; exact (List.getElem?_eq_some_iff.1 hv).1
  have hlt : i * m + j < bl.length * m := by
    have : (i + 1) * m ≤ bl.length * m := Nat.mul_le_mul_right _ hi
    rw [Nat.succ_mul] at this; omega
  rw [h.2.cellAt (i * m + j) hlt, flatten_at bl i j hi h.1 hj, hv]
theorem Blocks.there {w : World} {base g n cap : Nat} {e : TypeId} {m : Nat} {bl : List (List Value)} (h : Blocks w base e m (.slice (some ⟨g, 0, none⟩) n cap) bl) (hn : n = bl.length) {i : Nat} (hi : i < bl.length) : w.there g (i * m) m := by
  have hr := h.range hn hi
  subst hn
  have hlen : (bl.getD i []).length = m := h.1 _ (by simp [List.getD, hi])
  intro j hj
  exact ⟨hr.isSome j (by omega), h.2.frozenAt _⟩
theorem stored_many {base g n cap : Nat} {e : TypeId} {size : Nat} : ∀ (vs : List Value) (o : Nat) (w : World) (xs : List Value), w.ownsRow base e size (.slice (some ⟨g, 0, none⟩) n cap) n xs → (w.setCells g o vs).ownsRow base e size (.slice (some ⟨g, 0, none⟩) n cap) n (setAll xs o vs)
  | [], _, _, _, h => h
  | v :: r, o, _w, _xs, h => stored_many r (o + 1) _ _ (h.stored o v).1
theorem Blocks.set {w : World} {base g n cap : Nat} {e : TypeId} {m : Nat} {bl : List (List Value)} (h : Blocks w base e m (.slice (some ⟨g, 0, none⟩) n cap) bl) (hn : n = bl.length) {i : Nat} (hi : i < bl.length) {b : List Value} (hb : b.length = m) : Blocks (w.setCells g (i * m) b) base e m (.slice (some ⟨g, 0, none⟩) n cap) (bl.set i b) := by
  subst hn
  refine ⟨fun x hx => ?_, ?_⟩
  · rcases List.mem_or_eq_of_mem_set hx with hx | hx
    · exact h.1 x hx
    · rw [hx]; exact hb
  · rw [flatten_set bl i b hi h.1 hb, List.length_set]
    exact stored_many b (i * m) w _ h.2

/-- The cells of a sector, of a Write that waits. -/
def secV (s : List Int) : List Value := s.map (Value.int .u8)
def wrV (x : Nat × List Int) : List Value := .int .i64 x.1 :: secV x.2
theorem secV_len {s : List Int} (h : Sec s) : (secV s).length = 64 := by simp [secV, h.1]
theorem wrV_len {x : Nat × List Int} (h : Sec x.2) : (wrV x).length = 65 := by simp [wrV, secV_len h]
theorem secV_one (s : List Int) : ∀ v ∈ secV s, v.oneCell' = true := by
  intro v hv
  simp only [secV, List.mem_map] at hv
  obtain ⟨a, _, rfl⟩ := hv
  rfl
theorem wrV_one (x : Nat × List Int) : ∀ v ∈ wrV x, v.oneCell' = true := by
  intro v hv
  rcases List.mem_cons.1 hv with rfl | hv
  · rfl
  · exact secV_one _ v hv

/-- What a call on a disk from 'base' on leaves as it was: all below base, and all that is no disk's. -/
structure Kd (base : Nat) (w w' : World) : Prop where
  below : Below base w w'
  keep : ∀ (k : Nat) (c : Array Value) (t : TypeId) (f : Nat × Nat), w.heap[k]? = some (Obj.cells c t f) → t ≠ 47 → t ≠ 62 → t ≠ 64 → w'.heap[k]? = w.heap[k]?
  others : ∀ (k : Nat) (o : Obj), w.heap[k]? = some o → (∀ c t f, o ≠ .cells c t f) → w'.heap[k]? = some o
theorem Kd.refl (base : Nat) (w : World) : Kd base w w := ⟨Below.refl _ _, fun _ _ _ _ _ _ _ _ => rfl, fun _ _ h _ => h⟩
theorem Kd.trans {base : Nat} {a b c : World} (h : Kd base a b) (k : Kd base b c) : Kd base a c :=
  ⟨h.below.trans k.below, fun i x t f hx h1 h2 h3 => by
    have e := h.keep i x t f hx h1 h2 h3
    exact (k.keep i x t f (e.trans hx) h1 h2 h3).trans e, fun i o hi ho => k.others i o (h.others i o hi ho) ho⟩
theorem Kd.mono {b1 b2 : Nat} {w w' : World} (h : Kd b1 w w') (hb : b2 ≤ b1) : Kd b2 w w' := ⟨h.below.mono hb, h.keep, h.others⟩
theorem Kd.fresh {base : Nat} {w w' : World} (h : Below w.heap.size w w') (hb : base ≤ w.heap.size) : Kd base w w' :=
  ⟨h.mono hb, fun k _ _ _ hk _ _ _ => h.block k (lt_of_heap hk), fun k _ hk _ => (h.block k (lt_of_heap hk)).trans hk⟩
theorem Kd.size {base : Nat} {w w' : World} (h : Kd base w w') : w.heap.size ≤ w'.heap.size := h.below.size
theorem Kd.drew {base : Nat} {a w : World} (h : Kd base a w) : Kd base a w.drew := ⟨h.below.drew, h.keep, h.others⟩
/-- A step that turns one row of a disk's. -/
theorem Kd.row {base : Nat} {w w' : World} {g : Nat} {c : Array Value} {t : TypeId} {f : Nat × Nat} (hg : w.grownBy w' (some g)) (hb : base ≤ g) (hs : base ≤ w.heap.size) (hh : w.heap[g]? = some (.cells c t f)) (ht : t = 47 ∨ t = 62 ∨ t = 64) : Kd base w w' :=
  ⟨(Below.refl base w).grown hg hs (fun k e => by cases e; exact hb), fun k c' t' f' hk h1 h2 h3 => hg.block k (lt_of_heap hk) (fun e => by
    injection e with e
    subst e
    rw [hh] at hk
    injection hk with e
    injection e with _ e _
    subst e
    rcases ht with h | h | h
    · exact h1 h
    · exact h2 h
    · exact h3 h), fun k o hk ho => (hg.block k (lt_of_heap hk) (fun e => by
    injection e with e
    subst e
    rw [hh] at hk
    injection hk with e
    exact ho _ _ _ e.symm)).trans hk⟩
theorem grown_setCells (g : Nat) : ∀ (vs : List Value) (o : Nat) (w : World), w.grownBy (w.setCells g o vs) (some g)
  | [], _, w => ⟨rfl, rfl, rfl, Nat.le_refl _, fun _ _ _ => rfl⟩
  | v :: r, o, w => by
    have h := grown_setCells g r (o + 1) (w.setCell ⟨g, o, none⟩ v)
    refine ⟨h.os, h.tape, h.output, by have := h.size; simpa [World.setCells, World.setCell] using this, fun k hk hne => ?_⟩
    rw [World.setCells, h.block k (by simpa [World.setCell] using hk) hne]
    exact Below.heap_setCell w ⟨g, o, none⟩ v k (fun e => hne (by rw [e]))
theorem grown_setCell (w : World) (g o : Nat) (v : Value) : w.grownBy (w.setCell ⟨g, o, none⟩ v) (some g) := grown_setCells g [v] o w

/-- The disk d of n sectors behind the pointer to block B; all that is its own lies from base on. -/
def DiskIs (w : World) (base B n : Nat) (d : Dk) : Prop :=
  d.Ok n ∧ (8 ≤ n ∧ n ≤ 65536) ∧ base ≤ B ∧ ∃ gl cl gn cn vw,
    w.heap[B]? = some (.cells #[.slice (some ⟨gl, 0, none⟩) n cl, .slice (some ⟨gn, 0, none⟩) n cn, vw, .int .i64 d.writes, .int .i64 d.left] 47 (0, 0)) ∧ gl ≠ gn ∧
    Blocks w base 62 64 (.slice (some ⟨gl, 0, none⟩) n cl) (d.last.map secV) ∧ Blocks w base 62 64 (.slice (some ⟨gn, 0, none⟩) n cn) (d.now.map secV) ∧
    Blocks w base 64 65 vw (d.wait.map wrV)
theorem DiskIs.ok {w : World} {base B n : Nat} {d : Dk} (h : DiskIs w base B n d) : d.Ok n := h.1
theorem DiskIs.lt {w : World} {base B n : Nat} {d : Dk} (h : DiskIs w base B n d) : B < w.heap.size := by
  obtain ⟨_, _, _, _, _, _, _, _, hh, _⟩ := h
  exact lt_of_heap hh
theorem DiskIs.base_le {w : World} {base B n : Nat} {d : Dk} (h : DiskIs w base B n d) : base ≤ w.heap.size := by have := h.lt; have := h.2.2.1; omega
theorem DiskIs.below {w w' : World} {base B n : Nat} {d : Dk} (h : DiskIs w base B n d) (hb : Below w.heap.size w w') : DiskIs w' base B n d := by
  obtain ⟨ho, hn, hB, gl, cl, gn, cn, vw, hh, hne, h1, h2, h3⟩ := h
  exact ⟨ho, hn, hB, gl, cl, gn, cn, vw, by rw [hb.block B (lt_of_heap hh)]; exact hh, hne, h1.below hb, h2.below hb, h3.below hb⟩
theorem DiskIs.mono {w : World} {b1 b2 B n : Nat} {d : Dk} (h : DiskIs w b1 B n d) (hb : b2 ≤ b1) : DiskIs w b2 B n d := by
  obtain ⟨ho, hn, hB, gl, cl, gn, cn, vw, hh, hne, h1, h2, h3⟩ := h
  exact ⟨ho, hn, Nat.le_trans hb hB, gl, cl, gn, cn, vw, hh, hne, h1.mono hb, h2.mono hb, h3.mono hb⟩
theorem slice_of {w : World} {base : Nat} {e : TypeId} {m : Nat} {v : Value} {bl : List (List Value)} (h : Blocks w base e m v bl) : ∃ ao cap, v = .slice ao bl.length cap ∧ (1 ≤ bl.length → ∃ g, ao = some ⟨g, 0, none⟩) := by
  rcases h.2.2 with ⟨rfl, hn⟩ | ⟨g, cap, cur, rfl, _⟩
  · exact ⟨none, 0, by rw [hn], fun h1 => by omega⟩
  · exact ⟨_, cap, rfl, fun _ => ⟨g, rfl⟩⟩
end Go.Proofs.YtafopokcfkgjiaaDoor
