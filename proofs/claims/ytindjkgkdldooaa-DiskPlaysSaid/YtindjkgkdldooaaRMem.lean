/-
  The document's own disk in memory (terrierref1.Disk): what stands behind its pointer; what a call on it leaves as it was.
-/
import Derived.Test.YtindjkgkdldooaaDCopy
namespace Go.Proofs.Ytindjkgkdldooaa
open Go.RowKit

def strV (s : List Int) : Value := .string (strOfNums s)
def oneV (x : Nat × List Int) : List Value := [.int .i64 x.1, strV x.2]
theorem oneV_len (x : Nat × List Int) : (oneV x).length = 2 := rfl
theorem ones_len (l : List (Nat × List Int)) : ∀ b ∈ l.map oneV, b.length = 2 := fun b hb => by
  obtain ⟨x, _, rfl⟩ := List.mem_map.1 hb
  rfl

/-- What a call on the document's disk from 'base' on leaves as it was. -/
structure Kr (base : Nat) (w w' : World) : Prop where
  below : Below base w w'
  keep : ∀ (k : Nat) (c : Array Value) (t : TypeId) (f : Nat × Nat), w.heap[k]? = some (Obj.cells c t f) → t ≠ 76 → t ≠ 9 → t ≠ 78 → w'.heap[k]? = w.heap[k]?
theorem Kr.refl (base : Nat) (w : World) : Kr base w w := ⟨Below.refl _ _, fun _ _ _ _ _ _ _ _ => rfl⟩
theorem Kr.trans {base : Nat} {a b c : World} (h : Kr base a b) (k : Kr base b c) : Kr base a c :=
  ⟨h.below.trans k.below, fun i x t f hx h1 h2 h3 => by
    have e := h.keep i x t f hx h1 h2 h3
    exact (k.keep i x t f (e.trans hx) h1 h2 h3).trans e⟩
theorem Kr.fresh {base : Nat} {w w' : World} (h : Below w.heap.size w w') (hb : base ≤ w.heap.size) : Kr base w w' :=
  ⟨h.mono hb, fun k _ _ _ hk _ _ _ => h.block k (lt_of_heap hk)⟩
theorem Kr.drew {base : Nat} {a w : World} (h : Kr base a w) : Kr base a w.drew := ⟨h.below.drew, h.keep⟩
theorem Kr.row {base : Nat} {w w' : World} {g : Nat} {c : Array Value} {t : TypeId} {f : Nat × Nat} (hg : w.grownBy w' (some g)) (hb : base ≤ g) (hs : base ≤ w.heap.size) (hh : w.heap[g]? = some (.cells c t f)) (ht : t = 76 ∨ t = 9 ∨ t = 78) : Kr base w w' :=
  ⟨(Below.refl base w).grown hg hs (fun k e => by cases e; exact hb), fun k c' t' f' hk h1 h2 h3 => hg.block k (lt_of_heap hk) (fun e => by
    injection e with e
    subst e
    rw [hh] at hk
    injection hk with e
    injection e with _ e _
    subst e
    rcases ht with h | h | h
    · exact h1 h
    · exact h2 h
    · exact h3 h)⟩

/-- The document's disk behind the pointer to block R: it stands as d does; f is its fuse. -/
def RefIs (w : World) (base R n : Nat) (d : Dk) (f : Int) : Prop :=
  d.Ok n ∧ (8 ≤ n ∧ n ≤ 65536) ∧ base ≤ R ∧ (d.left ≠ 0 → f = d.left) ∧ (-1 ≤ f ∧ f ≤ 9223372036854775807) ∧ ∃ gs cs vw,
    w.heap[R]? = some (.cells #[.slice (some ⟨gs, 0, none⟩) n cs, vw, .int .i64 d.writes, .int .i64 f, .bool (d.left == 0)] 76 (0, 0)) ∧
    w.ownsRow base 9 1 (.slice (some ⟨gs, 0, none⟩) n cs) n (d.last.map strV) ∧ Blocks w base 78 2 vw (d.wait.map oneV)
theorem RefIs.lt {w : World} {base R n : Nat} {d : Dk} {f : Int} (h : RefIs w base R n d f) : R < w.heap.size := by
  obtain ⟨_, _, _, _, _, _, _, _, hh, _⟩ := h
  exact lt_of_heap hh
theorem RefIs.base_le {w : World} {base R n : Nat} {d : Dk} {f : Int} (h : RefIs w base R n d f) : base ≤ w.heap.size := by have := h.lt; have := h.2.2.1; omega
theorem RefIs.same {w w' : World} {base R n : Nat} {d : Dk} {f : Int} (h : RefIs w base R n d f) (hk : ∀ (k : Nat) c t x, w.heap[k]? = some (Obj.cells c t x) → t = 76 ∨ t = 9 ∨ t = 78 → w'.heap[k]? = w.heap[k]?) : RefIs w' base R n d f := by
  obtain ⟨ho, hn, hR, hf, hf0, gs, cs, vw, hh, b1, b2⟩ := h
  refine ⟨ho, hn, hR, hf, hf0, gs, cs, vw, (hk _ _ _ _ hh (.inl rfl)).trans hh, own_same b1 fun k hk' => ?_, b2.same fun k hk' => ?_⟩
  · obtain ⟨c, hc⟩ := own_heap b1 hk'
    exact hk k _ _ _ hc (.inr (.inl rfl))
  · obtain ⟨c, hc⟩ := own_heap b2.2 hk'
    exact hk k _ _ _ hc (.inr (.inr rfl))
theorem RefIs.mono {w : World} {b1 b2 R n : Nat} {d : Dk} {f : Int} (h : RefIs w b1 R n d f) (hb : b2 ≤ b1) : RefIs w b2 R n d f := by
  obtain ⟨ho, hn, hR, hf, hf0, gs, cs, vw, hh, c1, c2⟩ := h
  exact ⟨ho, hn, Nat.le_trans hb hR, hf, hf0, gs, cs, vw, hh, own_mono c1 hb, c2.mono hb⟩
theorem RefIs.below {w w' : World} {base R n : Nat} {d : Dk} {f : Int} (h : RefIs w base R n d f) (hb : Below w.heap.size w w') : RefIs w' base R n d f := h.same fun k _ _ _ hk _ => hb.block k (lt_of_heap hk)
theorem RefIs.kd {w w' : World} {base b0 R n : Nat} {d : Dk} {f : Int} (h : RefIs w base R n d f) (hk : Kd b0 w w') : RefIs w' base R n d f := h.same fun k c t x hc ht => by
  rcases ht with rfl | rfl | rfl
  · exact hk.keep k _ _ _ hc (by decide) (by decide) (by decide)
  · exact hk.keep k _ _ _ hc (by decide) (by decide) (by decide)
  · exact hk.keep k _ _ _ hc (by decide) (by decide) (by decide)
theorem DiskIs.kr {w w' : World} {base b0 B n : Nat} {d : Dk} (h : DiskIs w base B n d) (hk : Kr b0 w w') : DiskIs w' base B n d := by
  obtain ⟨ho, hn, hB, gl, cl, gn, cn, vw, hh, hne, b1, b2, b3⟩ := h
  have row' : ∀ (e : TypeId) (m : Nat) (v : Value) (bl : List (List Value)), e ≠ 76 → e ≠ 9 → e ≠ 78 → Blocks w base e m v bl → Blocks w' base e m v bl := fun e m v bl h1 h2 h3 hb => hb.same fun k hk' => by
    obtain ⟨c, hc⟩ := own_heap hb.2 hk'
    exact hk.keep k _ _ _ hc h1 h2 h3
  exact ⟨ho, hn, hB, gl, cl, gn, cn, vw, (hk.keep _ _ _ _ hh (by decide) (by decide) (by decide)).trans hh, hne, row' _ _ _ _ (by decide) (by decide) (by decide) b1, row' _ _ _ _ (by decide) (by decide) (by decide) b2, row' _ _ _ _ (by decide) (by decide) (by decide) b3⟩
/-- The struct's own block has turned, its rows have not. -/
theorem RefIs.turn {w W : World} {base R n : Nat} {d d' : Dk} {f f' : Int} (h : RefIs w base R n d f) (hg : w.grownBy W (some R)) (hl : d'.last = d.last) (hw : d'.wait = d.wait) (ho' : d'.Ok n) (hf' : d'.left ≠ 0 → f' = d'.left) (hf0' : -1 ≤ f' ∧ f' ≤ 9223372036854775807)
    (hR' : ∀ sl vw, w.heap[R]? = some (.cells #[sl, vw, .int .i64 d.writes, .int .i64 f, .bool (d.left == 0)] 76 (0, 0)) → W.heap[R]? = some (.cells #[sl, vw, .int .i64 d'.writes, .int .i64 f', .bool (d'.left == 0)] 76 (0, 0))) : RefIs W base R n d' f' ∧ Kr base w W := by
  have hs := h.base_le
  obtain ⟨ho, hn, hR, hf, hf0, gs, cs, vw, hh, b1, b2⟩ := h
  refine ⟨⟨ho', hn, hR, hf', hf0', gs, cs, vw, hR' _ _ hh, ?_, ?_⟩, Kr.row hg hR hs hh (.inl rfl)⟩
  · rw [hl]
    refine own_same b1 fun k hk => ?_
    obtain ⟨c, hc⟩ := own_heap b1 hk
    exact hg.block k (lt_of_heap hc) (fun e => by injection e with e; exact ne_of_type hh hc (by decide) e.symm)
  · rw [hw]
    refine b2.same fun k hk => ?_
    obtain ⟨c, hc⟩ := own_heap b2.2 hk
    exact hg.block k (lt_of_heap hc) (fun e => by injection e with e; exact ne_of_type hh hc (by decide) e.symm)
end Go.Proofs.Ytindjkgkdldooaa
