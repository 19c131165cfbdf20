/-
  PtMoves: what exact numbers say of a triangle that is moved, mirrored, turned, and the walk with it.
-/
import Derived.Test.YtnfhnoacdmhlfaaQLine
import Derived.Test.YtnfhnoacdmhlfaaQMoves
namespace Go.Proofs.Ytnfhnoacdmhlfaa
open Go.RowKit Go.Sort

theorem area_move (ax ay bx by' cx cy x y : Int) : area (ax + x) (ay + y) (bx + x) (by' + y) (cx + x) (cy + y) = area ax ay bx by' cx cy := by
  unfold area
  rw [show bx + x - (ax + x) = bx - ax by omega, show cy + y - (ay + y) = cy - ay by omega, show by' + y - (ay + y) = by' - ay by omega, show cx + x - (ax + x) = cx - ax by omega]
theorem area_mirror (ax ay bx by' cx cy : Int) : area ay ax by' bx cy cx = -area ax ay bx by' cx cy := by
  unfold area
  omega
theorem area_quarter (ax ay bx by' cx cy : Int) : area (-ay) ax (-by') bx (-cy) cx = area ax ay bx by' cx cy := by
  unfold area
  rw [show -by' - -ay = -(by' - ay) by omega, show -cy - -ay = -(cy - ay) by omega, Int.neg_mul, Int.mul_neg]
  omega

theorem ptMoves_walk (w : World) (ax ay : Int) (_ : -9223372036854775808 ≤ ax ∧ ax ≤ 9223372036854775807) (_ : -9223372036854775808 ≤ ay ∧ ay ≤ 9223372036854775807)
    (bx by' : Int) (_ : -9223372036854775808 ≤ bx ∧ bx ≤ 9223372036854775807) (_ : -9223372036854775808 ≤ by' ∧ by' ≤ 9223372036854775807)
    (cx cy : Int) (_ : -9223372036854775808 ≤ cx ∧ cx ≤ 9223372036854775807) (_ : -9223372036854775808 ≤ cy ∧ cy ≤ 9223372036854775807)
    (dx : Int) (_ : -9223372036854775808 ≤ dx) (_ : dx ≤ 9223372036854775807) (dy : Int) (_ : -9223372036854775808 ≤ dy) (_ : dy ≤ 9223372036854775807) :
    Calls Try.prog 3 #[pv ax ay, pv bx by', pv cx cy, .int .i64 dx, .int .i64 dy] w fun e w' => e = .returned (.bool true) ∧ Below w.heap.size w w' := by
  have b0 := tmod_both ax (m := 1000) (by omega)
  have b1 := tmod_both ay (m := 1000) (by omega)
  have b2 := tmod_both bx (m := 1000) (by omega)
  have b3 := tmod_both by' (m := 1000) (by omega)
  have b4 := tmod_both cx (m := 1000) (by omega)
  have b5 := tmod_both cy (m := 1000) (by omega)
  have bX := tmod_both dx (m := 10000) (by omega)
  have bY := tmod_both dy (m := 10000) (by omega)
  obtain ⟨x0, h0⟩ : ∃ PX, ax.tmod 1000 = PX := ⟨_, rfl⟩
  obtain ⟨y0, h1⟩ : ∃ PX, ay.tmod 1000 = PX := ⟨_, rfl⟩
  obtain ⟨x1, h2⟩ : ∃ PX, bx.tmod 1000 = PX := ⟨_, rfl⟩
  obtain ⟨y1, h3⟩ : ∃ PX, by'.tmod 1000 = PX := ⟨_, rfl⟩
  obtain ⟨x2, h4⟩ : ∃ PX, cx.tmod 1000 = PX := ⟨_, rfl⟩
  obtain ⟨y2, h5⟩ : ∃ PX, cy.tmod 1000 = PX := ⟨_, rfl⟩
  obtain ⟨X, hX⟩ : ∃ PX, dx.tmod 10000 = PX := ⟨_, rfl⟩
  obtain ⟨Y, hY⟩ : ∃ PX, dy.tmod 10000 = PX := ⟨_, rfl⟩
  rw [h0] at b0; rw [h1] at b1; rw [h2] at b2; rw [h3] at b3; rw [h4] at b4; rw [h5] at b5; rw [hX] at bX; rw [hY] at bY
  have HA1 := hid (fun W => area2_any x0 y0 x1 y1 x2 y2 W)
  rw [near_in (x := x0) (by omega) (by omega), near_in (x := y0) (by omega) (by omega), near_in (x := x1) (by omega) (by omega), near_in (x := y1) (by omega) (by omega), near_in (x := x2) (by omega) (by omega), near_in (x := y2) (by omega) (by omega)] at HA1
  have HA2 := hid (fun W => area2_any (x0 + X) (y0 + Y) (x1 + X) (y1 + Y) (x2 + X) (y2 + Y) W)
  rw [near_in (x := x0 + X) (by omega) (by omega), near_in (x := y0 + Y) (by omega) (by omega), near_in (x := x1 + X) (by omega) (by omega), near_in (x := y1 + Y) (by omega) (by omega), near_in (x := x2 + X) (by omega) (by omega), near_in (x := y2 + Y) (by omega) (by omega), area_move] at HA2
  have HA3 := hid (fun W => area2_any y0 x0 y1 x1 y2 x2 W)
  rw [near_in (x := x0) (by omega) (by omega), near_in (x := y0) (by omega) (by omega), near_in (x := x1) (by omega) (by omega), near_in (x := y1) (by omega) (by omega), near_in (x := x2) (by omega) (by omega), near_in (x := y2) (by omega) (by omega), area_mirror] at HA3
  have HA4 := hid (fun W => area2_any (-y0) x0 (-y1) x1 (-y2) x2 W)
  rw [near_in (x := x0) (by omega) (by omega), near_in (x := -y0) (by omega) (by omega), near_in (x := x1) (by omega) (by omega), near_in (x := -y1) (by omega) (by omega), near_in (x := x2) (by omega) (by omega), near_in (x := -y2) (by omega) (by omega), area_quarter] at HA4
  have bA := area_bound (ax := x0) (ay := y0) (bx := x1) (by' := y1) (cx := x2) (cy := y2) (by omega) (by omega) (by omega) (by omega) (by omega) (by omega) (by omega) (by omega) (by omega) (by omega) (by omega) (by omega)
  exact ptMoves_core w ax ay bx by' cx cy dx dy x0 y0 x1 y1 x2 y2 X Y _ h0 h1 h2 h3 h4 h5 hX hY b0 b1 b2 b3 b4 b5 bX bY bA HA1 HA2 HA3 HA4
end Go.Proofs.Ytnfhnoacdmhlfaa
