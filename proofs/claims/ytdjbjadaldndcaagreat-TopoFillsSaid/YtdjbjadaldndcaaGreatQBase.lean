/-
  What all texts of the geometry lean on: the nearest number of the grid, a point as a value, in a block of its own, in a slice.
-/
import Derived.Test.YtdjbjadaldndcaaGreatRows
import Derived.Test.YtdjbjadaldndcaaGreatHTail
import Derived.WalkKit
import Derived.ProofKit
import Derived.BigQuiet
import Derived.Outline
import Derived.PlainAid
import Derived.WalkMore
import Derived.Deep.RegionHeld
namespace Go.Proofs.YtdjbjadaldndcaaGreat
open Go.RowKit Go.Sort

theorem hid {p : Prop} (h : p) : Hid p := h
/-- The nearest number of the grid. -/
def near (x : Int) : Int := if x < -1048576 then -1048576 else if 1048576 < x then 1048576 else x
theorem near_lo (x : Int) : -1048576 ≤ near x := by unfold near; split <;> (try split) <;> omega
theorem near_hi (x : Int) : near x ≤ 1048576 := by unfold near; split <;> (try split) <;> omega
theorem near_in {x : Int} (h0 : -1048576 ≤ x) (h1 : x ≤ 1048576) : near x = x := by unfold near; rw [if_neg (by omega), if_neg (by omega)]
theorem near_near (x : Int) : near (near x) = near x := near_in (near_lo x) (near_hi x)
/-- A point as a value. -/
abbrev pv (x y : Int) : Value := .agg #[.int .i64 x, .int .i64 y]
/-- A point in a block of its own. -/
def Pt (w : World) (b : Nat) (x y : Int) : Prop := w.heap[b]? = some (.cells #[.int .i64 x, .int .i64 y] 27 (0, 0))
theorem lt_of_heap {w : World} {b : Nat} {o : Obj} (h : w.heap[b]? = some o) : b < w.heap.size := (Array.getElem?_eq_some_iff.1 h).1
theorem Pt.lt {w : World} {b : Nat} {x y : Int} (h : Pt w b x y) : b < w.heap.size := lt_of_heap h
theorem Pt.c0 {w : World} {b : Nat} {x y : Int} (h : Pt w b x y) : w.cell? ⟨b, 0, none⟩ = some (.int .i64 x) := by
  unfold Pt at h; simp [World.cell?, h]
theorem Pt.c1 {w : World} {b : Nat} {x y : Int} (h : Pt w b x y) : w.cell? ⟨b, 1, none⟩ = some (.int .i64 y) := by
  unfold Pt at h; simp [World.cell?, h]
theorem Pt.f0 {w : World} {b : Nat} {x y : Int} (h : Pt w b x y) : w.frozen? ⟨b, 0, none⟩ = false := by
  unfold Pt at h; simp [World.frozen?, h]
theorem Pt.f1 {w : World} {b : Nat} {x y : Int} (h : Pt w b x y) : w.frozen? ⟨b, 1, none⟩ = false := by
  unfold Pt at h; simp [World.frozen?, h]
theorem Pt.below {w w' : World} {b n : Nat} {x y : Int} (h : Pt w b x y) (hb : Below n w w') (hl : b < n) : Pt w' b x y := (hb.block b hl).trans h
theorem Pt.alloc {w : World} {b : Nat} {x y : Int} (h : Pt w b x y) (o : Obj) : Pt (w.alloc o) b x y := (Below.heap_alloc _ _ _ h.lt).trans h
theorem Pt.new (w : World) (x y : Int) : Pt (w.alloc (.cells #[.int .i64 x, .int .i64 y] 27)) w.heap.size x y := by
  unfold Pt World.alloc; simp
theorem below_set2 {w W : World} {n b : Nat} {u v : Value} (h : Below n w W) (hb : n ≤ b) : Below n w ((W.setCell ⟨b, 0, none⟩ u).setCell ⟨b, 1, none⟩ v) :=
  (h.setCell (p := ⟨b, 0, none⟩) hb _).setCell (p := ⟨b, 1, none⟩) hb _
/-- The sign of a number. -/
def sgn (t : Int) : Int := if t < 0 then -1 else if 0 < t then 1 else 0
/-- The worlds behind three and four boxes. -/
theorem box4 {w wA wB wC wD : World} {a0 a1 b0 b1 c0 c1 d0 d1 : Int} (hA : w.alloc (.cells #[.int .i64 a0, .int .i64 a1] 27) = wA) (hB : wA.alloc (.cells #[.int .i64 b0, .int .i64 b1] 27) = wB)
    (hC : wB.alloc (.cells #[.int .i64 c0, .int .i64 c1] 27) = wC) (hD : wC.alloc (.cells #[.int .i64 d0, .int .i64 d1] 27) = wD) :
    Pt wD w.heap.size a0 a1 ∧ Pt wD (w.heap.size + 1) b0 b1 ∧ Pt wD (w.heap.size + 2) c0 c1 ∧ Pt wD (w.heap.size + 3) d0 d1 ∧ Below w.heap.size w wD ∧ wD.heap.size = w.heap.size + 4 ∧ wA.heap.size = w.heap.size + 1 ∧ wB.heap.size = w.heap.size + 2 ∧ wC.heap.size = w.heap.size + 3 := by
  have hszA : wA.heap.size = w.heap.size + 1 := by rw [← hA]; simp
  have hszB : wB.heap.size = w.heap.size + 2 := by rw [← hB]; simp [hszA]
  have hszC : wC.heap.size = w.heap.size + 3 := by rw [← hC]; simp [hszB]
  have hszD : wD.heap.size = w.heap.size + 4 := by rw [← hD]; simp [hszC]
  refine ⟨?_, ?_, ?_, ?_, ?_, hszD, hszA, hszB, hszC⟩
  · rw [← hD, ← hC, ← hB, ← hA]; exact (((Pt.new w a0 a1).alloc _).alloc _).alloc _
  · rw [← hD, ← hC, ← hB, ← hszA]; exact ((Pt.new wA b0 b1).alloc _).alloc _
  · rw [← hD, ← hC, ← hszB]; exact (Pt.new wB c0 c1).alloc _
  · rw [← hD, ← hszC]; exact Pt.new wC d0 d1
  · rw [← hD, ← hC, ← hB, ← hA]; exact ((((Below.refl _ w).alloc (Nat.le_refl _) _).alloc (by simp) _).alloc (by simp; omega) _).alloc (by simp; omega) _
theorem box3 {w wA wB wC : World} {a0 a1 b0 b1 c0 c1 : Int} (hA : w.alloc (.cells #[.int .i64 a0, .int .i64 a1] 27) = wA) (hB : wA.alloc (.cells #[.int .i64 b0, .int .i64 b1] 27) = wB)
    (hC : wB.alloc (.cells #[.int .i64 c0, .int .i64 c1] 27) = wC) :
    Pt wC w.heap.size a0 a1 ∧ Pt wC (w.heap.size + 1) b0 b1 ∧ Pt wC (w.heap.size + 2) c0 c1 ∧ Below w.heap.size w wC ∧ wC.heap.size = w.heap.size + 3 ∧ wA.heap.size = w.heap.size + 1 ∧ wB.heap.size = w.heap.size + 2 := by
  have hszA : wA.heap.size = w.heap.size + 1 := by rw [← hA]; simp
  have hszB : wB.heap.size = w.heap.size + 2 := by rw [← hB]; simp [hszA]
  have hszC : wC.heap.size = w.heap.size + 3 := by rw [← hC]; simp [hszB]
  refine ⟨?_, ?_, ?_, ?_, hszC, hszA, hszB⟩
  · rw [← hC, ← hB, ← hA]; exact ((Pt.new w a0 a1).alloc _).alloc _
  · rw [← hC, ← hB, ← hszA]; exact (Pt.new wA b0 b1).alloc _
  · rw [← hC, ← hszB]; exact Pt.new wB c0 c1
  · rw [← hC, ← hB, ← hA]; exact (((Below.refl _ w).alloc (Nat.le_refl _) _).alloc (by simp) _).alloc (by simp; omega) _
theorem box2 {w wA wB : World} {a0 a1 b0 b1 : Int} (hA : w.alloc (.cells #[.int .i64 a0, .int .i64 a1] 27) = wA) (hB : wA.alloc (.cells #[.int .i64 b0, .int .i64 b1] 27) = wB) :
    Pt wB w.heap.size a0 a1 ∧ Pt wB (w.heap.size + 1) b0 b1 ∧ Below w.heap.size w wB ∧ wB.heap.size = w.heap.size + 2 ∧ wA.heap.size = w.heap.size + 1 := by
  have hszA : wA.heap.size = w.heap.size + 1 := by rw [← hA]; simp
  have hszB : wB.heap.size = w.heap.size + 2 := by rw [← hB]; simp [hszA]
  refine ⟨?_, ?_, ?_, hszB, hszA⟩
  · rw [← hB, ← hA]; exact (Pt.new w a0 a1).alloc _
  · rw [← hB, ← hszA]; exact Pt.new wA b0 b1
  · rw [← hB, ← hA]; exact ((Below.refl _ w).alloc (Nat.le_refl _) _).alloc (by simp) _
theorem box1 {w wA : World} {a0 a1 : Int} (hA : w.alloc (.cells #[.int .i64 a0, .int .i64 a1] 27) = wA) : Pt wA w.heap.size a0 a1 ∧ Below w.heap.size w wA ∧ wA.heap.size = w.heap.size + 1 := by
  refine ⟨?_, ?_, ?_⟩
  · rw [← hA]; exact Pt.new w a0 a1
  · rw [← hA]; exact (Below.refl _ w).alloc (Nat.le_refl _) _
  · rw [← hA]; simp
theorem Pt.set {w : World} {b : Nat} {x y : Int} (h : Pt w b x y) (x' y' : Int) : Pt ((w.setCell ⟨b, 0, none⟩ (.int .i64 x')).setCell ⟨b, 1, none⟩ (.int .i64 y')) b x' y' := by
  have h1 := heap_setCell_same w b 0 _ _ (.int .i64 x') h
  have h2 := heap_setCell_same _ b 1 _ _ (.int .i64 y') h1
  exact h2
theorem Pt.far {w : World} {b c : Nat} {x y : Int} (h : Pt w c x y) (hne : c ≠ b) (u v : Value) : Pt ((w.setCell ⟨b, 0, none⟩ u).setCell ⟨b, 1, none⟩ v) c x y := by
  unfold Pt
  rw [Below.heap_setCell _ _ _ _ (by exact hne), Below.heap_setCell _ _ _ _ (by exact hne)]
  exact h
/-- A slice of points. -/
def Pts (w : World) (v : Value) (ps : List (Int × Int)) : Prop :=
  ∃ a cap, v = .slice a ps.length cap ∧ (1 ≤ ps.length → ∃ b off, a = some ⟨b, off, none⟩ ∧ ∀ k p, ps[k]? = some p → w.cell? ⟨b, off + k * 2, none⟩ = some (.int .i64 p.1) ∧ w.cell? ⟨b, off + k * 2 + 1, none⟩ = some (.int .i64 p.2))
abbrev Pp : Type := Int × Int
theorem sgn_neg (t : Int) : sgn (-t) = -sgn t := by
  unfold sgn
  split <;> split <;> (try split) <;> omega
/-- A number of 64 bits. -/
def I64 (x : Int) : Prop := -9223372036854775808 ≤ x ∧ x ≤ 9223372036854775807
def P64 (p : Pp) : Prop := I64 p.1 ∧ I64 p.2
end Go.Proofs.YtdjbjadaldndcaaGreat
