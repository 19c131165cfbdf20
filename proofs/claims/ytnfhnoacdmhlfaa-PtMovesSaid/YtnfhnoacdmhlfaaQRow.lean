/-
  Three points in one block.
-/
import Derived.Test.YtnfhnoacdmhlfaaQBox
namespace Go.Proofs.Ytnfhnoacdmhlfaa
open Go.RowKit Go.Sort

/-- Three points in a block of its own: an array of three, or what a slice of three stands on. -/
def Row (w : World) (b : Nat) (t : TypeId) (x0 y0 x1 y1 x2 y2 : Int) : Prop := w.heap[b]? = some (.cells #[.int .i64 x0, .int .i64 y0, .int .i64 x1, .int .i64 y1, .int .i64 x2, .int .i64 y2] t (0, 0))
section
variable {w : World} {b : Nat} {t : TypeId} {x0 y0 x1 y1 x2 y2 : Int}
theorem Row.lt (h : Row w b t x0 y0 x1 y1 x2 y2) : b < w.heap.size := lt_of_heap h
theorem Row.c0 (h : Row w b t x0 y0 x1 y1 x2 y2) : w.cell? ⟨b, 0, none⟩ = some (.int .i64 x0) := by unfold Row at h; simp [World.cell?, h]
theorem Row.f0 (h : Row w b t x0 y0 x1 y1 x2 y2) : w.frozen? ⟨b, 0, none⟩ = false := by unfold Row at h; simp [World.frozen?, h]
theorem Row.c1 (h : Row w b t x0 y0 x1 y1 x2 y2) : w.cell? ⟨b, 1, none⟩ = some (.int .i64 y0) := by unfold Row at h; simp [World.cell?, h]
theorem Row.f1 (h : Row w b t x0 y0 x1 y1 x2 y2) : w.frozen? ⟨b, 1, none⟩ = false := by unfold Row at h; simp [World.frozen?, h]
theorem Row.c2 (h : Row w b t x0 y0 x1 y1 x2 y2) : w.cell? ⟨b, 2, none⟩ = some (.int .i64 x1) := by unfold Row at h; simp [World.cell?, h]
theorem Row.f2 (h : Row w b t x0 y0 x1 y1 x2 y2) : w.frozen? ⟨b, 2, none⟩ = false := by unfold Row at h; simp [World.frozen?, h]
theorem Row.c3 (h : Row w b t x0 y0 x1 y1 x2 y2) : w.cell? ⟨b, 3, none⟩ = some (.int .i64 y1) := by unfold Row at h; simp [World.cell?, h]
theorem Row.f3 (h : Row w b t x0 y0 x1 y1 x2 y2) : w.frozen? ⟨b, 3, none⟩ = false := by unfold Row at h; simp [World.frozen?, h]
theorem Row.c4 (h : Row w b t x0 y0 x1 y1 x2 y2) : w.cell? ⟨b, 4, none⟩ = some (.int .i64 x2) := by unfold Row at h; simp [World.cell?, h]
theorem Row.f4 (h : Row w b t x0 y0 x1 y1 x2 y2) : w.frozen? ⟨b, 4, none⟩ = false := by unfold Row at h; simp [World.frozen?, h]
theorem Row.c5 (h : Row w b t x0 y0 x1 y1 x2 y2) : w.cell? ⟨b, 5, none⟩ = some (.int .i64 y2) := by unfold Row at h; simp [World.cell?, h]
theorem Row.f5 (h : Row w b t x0 y0 x1 y1 x2 y2) : w.frozen? ⟨b, 5, none⟩ = false := by unfold Row at h; simp [World.frozen?, h]
theorem Row.below {w' : World} {n : Nat} (h : Row w b t x0 y0 x1 y1 x2 y2) (hb : Below n w w') (hl : b < n) : Row w' b t x0 y0 x1 y1 x2 y2 := (hb.block b hl).trans h
theorem Row.alloc (h : Row w b t x0 y0 x1 y1 x2 y2) (o : Obj) : Row (w.alloc o) b t x0 y0 x1 y1 x2 y2 := (Below.heap_alloc _ _ _ h.lt).trans h
theorem Row.new (w : World) (t : TypeId) (x0 y0 x1 y1 x2 y2 : Int) : Row (w.alloc (.cells #[.int .i64 x0, .int .i64 y0, .int .i64 x1, .int .i64 y1, .int .i64 x2, .int .i64 y2] t)) w.heap.size t x0 y0 x1 y1 x2 y2 := by
  unfold Row World.alloc; simp
theorem Row.far {c i j : Nat} (h : Row w c t x0 y0 x1 y1 x2 y2) (hne : c ≠ b) (u v : Value) : Row ((w.setCell ⟨b, i, none⟩ u).setCell ⟨b, j, none⟩ v) c t x0 y0 x1 y1 x2 y2 := by
  unfold Row
  rw [Below.heap_setCell _ _ _ _ (by exact hne), Below.heap_setCell _ _ _ _ (by exact hne)]
  exact h
theorem Row.set0 (h : Row w b t x0 y0 x1 y1 x2 y2) (x y : Int) : Row ((w.setCell ⟨b, 0, none⟩ (.int .i64 x)).setCell ⟨b, 1, none⟩ (.int .i64 y)) b t x y x1 y1 x2 y2 := by
  have h1 := heap_setCell_same w b 0 _ _ (.int .i64 x) h
  have h2 := heap_setCell_same _ b 1 _ _ (.int .i64 y) h1
  exact h2
theorem Row.set1 (h : Row w b t x0 y0 x1 y1 x2 y2) (x y : Int) : Row ((w.setCell ⟨b, 2, none⟩ (.int .i64 x)).setCell ⟨b, 3, none⟩ (.int .i64 y)) b t x0 y0 x y x2 y2 := by
  have h1 := heap_setCell_same w b 2 _ _ (.int .i64 x) h
  have h2 := heap_setCell_same _ b 3 _ _ (.int .i64 y) h1
  exact h2
theorem Row.set2 (h : Row w b t x0 y0 x1 y1 x2 y2) (x y : Int) : Row ((w.setCell ⟨b, 4, none⟩ (.int .i64 x)).setCell ⟨b, 5, none⟩ (.int .i64 y)) b t x0 y0 x1 y1 x y := by
  have h1 := heap_setCell_same w b 4 _ _ (.int .i64 x) h
  have h2 := heap_setCell_same _ b 5 _ _ (.int .i64 y) h1
  exact h2
end
theorem below_setAny {w W : World} {n b i j : Nat} (h : Below n w W) (hb : n ≤ b) (u v : Value) : Below n w ((W.setCell ⟨b, i, none⟩ u).setCell ⟨b, j, none⟩ v) :=
  (h.setCell (p := ⟨b, i, none⟩) hb _).setCell (p := ⟨b, j, none⟩) hb _
end Go.Proofs.Ytnfhnoacdmhlfaa
