/-
  Four points in one block.
-/
import Derived.Test.YthalnfnfnaknnaaQBox
namespace Go.Proofs.Ythalnfnfnaknnaa
open Go.RowKit Go.Sort

/-- Four points in a block of its own. -/
def Row4 (w : World) (b : Nat) (t : TypeId) (x0 y0 x1 y1 x2 y2 x3 y3 : Int) : Prop := w.heap[b]? = some (.cells #[.int .i64 x0, .int .i64 y0, .int .i64 x1, .int .i64 y1, .int .i64 x2, .int .i64 y2, .int .i64 x3, .int .i64 y3] t (0, 0))
section
variable {w : World} {b : Nat} {t : TypeId} {x0 y0 x1 y1 x2 y2 x3 y3 : Int}
theorem Row4.lt (h : Row4 w b t x0 y0 x1 y1 x2 y2 x3 y3) : b < w.heap.size := lt_of_heap h
theorem Row4.c0 (h : Row4 w b t x0 y0 x1 y1 x2 y2 x3 y3) : w.cell? ⟨b, 0, none⟩ = some (.int .i64 x0) := by unfold Row4 at h; simp [World.cell?, h]
theorem Row4.f0 (h : Row4 w b t x0 y0 x1 y1 x2 y2 x3 y3) : w.frozen? ⟨b, 0, none⟩ = false := by unfold Row4 at h; simp [World.frozen?, h]
theorem Row4.c1 (h : Row4 w b t x0 y0 x1 y1 x2 y2 x3 y3) : w.cell? ⟨b, 1, none⟩ = some (.int .i64 y0) := by unfold Row4 at h; simp [World.cell?, h]
theorem Row4.f1 (h : Row4 w b t x0 y0 x1 y1 x2 y2 x3 y3) : w.frozen? ⟨b, 1, none⟩ = false := by unfold Row4 at h; simp [World.frozen?, h]
theorem Row4.c2 (h : Row4 w b t x0 y0 x1 y1 x2 y2 x3 y3) : w.cell? ⟨b, 2, none⟩ = some (.int .i64 x1) := by unfold Row4 at h; simp [World.cell?, h]
theorem Row4.f2 (h : Row4 w b t x0 y0 x1 y1 x2 y2 x3 y3) : w.frozen? ⟨b, 2, none⟩ = false := by unfold Row4 at h; simp [World.frozen?, h]
theorem Row4.c3 (h : Row4 w b t x0 y0 x1 y1 x2 y2 x3 y3) : w.cell? ⟨b, 3, none⟩ = some (.int .i64 y1) := by unfold Row4 at h; simp [World.cell?, h]
theorem Row4.f3 (h : Row4 w b t x0 y0 x1 y1 x2 y2 x3 y3) : w.frozen? ⟨b, 3, none⟩ = false := by unfold Row4 at h; simp [World.frozen?, h]
theorem Row4.c4 (h : Row4 w b t x0 y0 x1 y1 x2 y2 x3 y3) : w.cell? ⟨b, 4, none⟩ = some (.int .i64 x2) := by unfold Row4 at h; simp [World.cell?, h]
theorem Row4.f4 (h : Row4 w b t x0 y0 x1 y1 x2 y2 x3 y3) : w.frozen? ⟨b, 4, none⟩ = false := by unfold Row4 at h; simp [World.frozen?, h]
theorem Row4.c5 (h : Row4 w b t x0 y0 x1 y1 x2 y2 x3 y3) : w.cell? ⟨b, 5, none⟩ = some (.int .i64 y2) := by unfold Row4 at h; simp [World.cell?, h]
theorem Row4.f5 (h : Row4 w b t x0 y0 x1 y1 x2 y2 x3 y3) : w.frozen? ⟨b, 5, none⟩ = false := by unfold Row4 at h; simp [World.frozen?, h]
theorem Row4.c6 (h : Row4 w b t x0 y0 x1 y1 x2 y2 x3 y3) : w.cell? ⟨b, 6, none⟩ = some (.int .i64 x3) := by unfold Row4 at h; simp [World.cell?, h]
theorem Row4.f6 (h : Row4 w b t x0 y0 x1 y1 x2 y2 x3 y3) : w.frozen? ⟨b, 6, none⟩ = false := by unfold Row4 at h; simp [World.frozen?, h]
theorem Row4.c7 (h : Row4 w b t x0 y0 x1 y1 x2 y2 x3 y3) : w.cell? ⟨b, 7, none⟩ = some (.int .i64 y3) := by unfold Row4 at h; simp [World.cell?, h]
theorem Row4.f7 (h : Row4 w b t x0 y0 x1 y1 x2 y2 x3 y3) : w.frozen? ⟨b, 7, none⟩ = false := by unfold Row4 at h; simp [World.frozen?, h]
theorem Row4.below {w' : World} {n : Nat} (h : Row4 w b t x0 y0 x1 y1 x2 y2 x3 y3) (hb : Below n w w') (hl : b < n) : Row4 w' b t x0 y0 x1 y1 x2 y2 x3 y3 := (hb.block b hl).trans h
theorem Row4.alloc (h : Row4 w b t x0 y0 x1 y1 x2 y2 x3 y3) (o : Obj) : Row4 (w.alloc o) b t x0 y0 x1 y1 x2 y2 x3 y3 := (Below.heap_alloc _ _ _ h.lt).trans h
theorem Row4.new (w : World) (t : TypeId) (x0 y0 x1 y1 x2 y2 x3 y3 : Int) : Row4 (w.alloc (.cells #[.int .i64 x0, .int .i64 y0, .int .i64 x1, .int .i64 y1, .int .i64 x2, .int .i64 y2, .int .i64 x3, .int .i64 y3] t)) w.heap.size t x0 y0 x1 y1 x2 y2 x3 y3 := by
  unfold Row4 World.alloc; simp
theorem Row4.far {c i j : Nat} (h : Row4 w c t x0 y0 x1 y1 x2 y2 x3 y3) (hne : c ≠ b) (u v : Value) : Row4 ((w.setCell ⟨b, i, none⟩ u).setCell ⟨b, j, none⟩ v) c t x0 y0 x1 y1 x2 y2 x3 y3 := by
  unfold Row4
  rw [Below.heap_setCell _ _ _ _ (by exact hne), Below.heap_setCell _ _ _ _ (by exact hne)]
  exact h
theorem Row4.set0 (h : Row4 w b t x0 y0 x1 y1 x2 y2 x3 y3) (x y : Int) : Row4 ((w.setCell ⟨b, 0, none⟩ (.int .i64 x)).setCell ⟨b, 1, none⟩ (.int .i64 y)) b t x y x1 y1 x2 y2 x3 y3 := by
  have h1 := heap_setCell_same w b 0 _ _ (.int .i64 x) h
  have h2 := heap_setCell_same _ b 1 _ _ (.int .i64 y) h1
  exact h2
theorem Row4.set1 (h : Row4 w b t x0 y0 x1 y1 x2 y2 x3 y3) (x y : Int) : Row4 ((w.setCell ⟨b, 2, none⟩ (.int .i64 x)).setCell ⟨b, 3, none⟩ (.int .i64 y)) b t x0 y0 x y x2 y2 x3 y3 := by
  have h1 := heap_setCell_same w b 2 _ _ (.int .i64 x) h
  have h2 := heap_setCell_same _ b 3 _ _ (.int .i64 y) h1
  exact h2
theorem Row4.set2 (h : Row4 w b t x0 y0 x1 y1 x2 y2 x3 y3) (x y : Int) : Row4 ((w.setCell ⟨b, 4, none⟩ (.int .i64 x)).setCell ⟨b, 5, none⟩ (.int .i64 y)) b t x0 y0 x1 y1 x y x3 y3 := by
  have h1 := heap_setCell_same w b 4 _ _ (.int .i64 x) h
  have h2 := heap_setCell_same _ b 5 _ _ (.int .i64 y) h1
  exact h2
theorem Row4.set3 (h : Row4 w b t x0 y0 x1 y1 x2 y2 x3 y3) (x y : Int) : Row4 ((w.setCell ⟨b, 6, none⟩ (.int .i64 x)).setCell ⟨b, 7, none⟩ (.int .i64 y)) b t x0 y0 x1 y1 x2 y2 x y := by
  have h1 := heap_setCell_same w b 6 _ _ (.int .i64 x) h
  have h2 := heap_setCell_same _ b 7 _ _ (.int .i64 y) h1
  exact h2
end
theorem below_setAny {w W : World} {n b i j : Nat} (h : Below n w W) (hb : n ≤ b) (u v : Value) : Below n w ((W.setCell ⟨b, i, none⟩ u).setCell ⟨b, j, none⟩ v) :=
  (h.setCell (p := ⟨b, i, none⟩) hb _).setCell (p := ⟨b, j, none⟩) hb _
end Go.Proofs.Ythalnfnfnaknnaa
