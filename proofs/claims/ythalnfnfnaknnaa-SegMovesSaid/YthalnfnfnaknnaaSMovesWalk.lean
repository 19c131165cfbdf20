/-
  SegMoves: what exact numbers say of segments that are moved, mirrored, turned, and the walk with it.
-/
import Derived.Test.YthalnfnfnaknnaaQLine
import Derived.Test.YthalnfnfnaknnaaSMoves
namespace Go.Proofs.Ythalnfnfnaknnaa
open Go.RowKit Go.Sort

theorem segMoves_walkC (H : SegC) (w : World) (ax ay : Int) (_ : -9223372036854775808 ≤ ax ∧ ax ≤ 9223372036854775807) (_ : -9223372036854775808 ≤ ay ∧ ay ≤ 9223372036854775807) (bx by' : Int) (_ : -9223372036854775808 ≤ bx ∧ bx ≤ 9223372036854775807) (_ : -9223372036854775808 ≤ by' ∧ by' ≤ 9223372036854775807) (cx cy : Int) (_ : -9223372036854775808 ≤ cx ∧ cx ≤ 9223372036854775807) (_ : -9223372036854775808 ≤ cy ∧ cy ≤ 9223372036854775807) (dx dy : Int) (_ : -9223372036854775808 ≤ dx ∧ dx ≤ 9223372036854775807) (_ : -9223372036854775808 ≤ dy ∧ dy ≤ 9223372036854775807) (sx : Int) (_ : -9223372036854775808 ≤ sx) (_ : sx ≤ 9223372036854775807) (sy : Int) (_ : -9223372036854775808 ≤ sy) (_ : sy ≤ 9223372036854775807) :
    Calls Try.prog 3 #[pv ax ay, pv bx by', pv cx cy, pv dx dy, .int .i64 sx, .int .i64 sy] w fun e w' => e = .returned (.bool true) ∧ Below w.heap.size w w' := by
  have b0 := tmod_both ax (m := 100) (by omega)
  obtain ⟨x0, h0⟩ : ∃ x, ax.tmod 100 = x := ⟨_, rfl⟩
  rw [h0] at b0
  have b1 := tmod_both ay (m := 100) (by omega)
  obtain ⟨y0, h1⟩ : ∃ x, ay.tmod 100 = x := ⟨_, rfl⟩
  rw [h1] at b1
  have b2 := tmod_both bx (m := 100) (by omega)
  obtain ⟨x1, h2⟩ : ∃ x, bx.tmod 100 = x := ⟨_, rfl⟩
  rw [h2] at b2
  have b3 := tmod_both by' (m := 100) (by omega)
  obtain ⟨y1, h3⟩ : ∃ x, by'.tmod 100 = x := ⟨_, rfl⟩
  rw [h3] at b3
  have b4 := tmod_both cx (m := 100) (by omega)
  obtain ⟨x2, h4⟩ : ∃ x, cx.tmod 100 = x := ⟨_, rfl⟩
  rw [h4] at b4
  have b5 := tmod_both cy (m := 100) (by omega)
  obtain ⟨y2, h5⟩ : ∃ x, cy.tmod 100 = x := ⟨_, rfl⟩
  rw [h5] at b5
  have b6 := tmod_both dx (m := 100) (by omega)
  obtain ⟨x3, h6⟩ : ∃ x, dx.tmod 100 = x := ⟨_, rfl⟩
  rw [h6] at b6
  have b7 := tmod_both dy (m := 100) (by omega)
  obtain ⟨y3, h7⟩ : ∃ x, dy.tmod 100 = x := ⟨_, rfl⟩
  rw [h7] at b7
  have bX := tmod_both sx (m := 10000) (by omega)
  have bY := tmod_both sy (m := 10000) (by omega)
  obtain ⟨X, hX⟩ : ∃ x, sx.tmod 10000 = x := ⟨_, rfl⟩
  obtain ⟨Y, hY⟩ : ∃ x, sy.tmod 10000 = x := ⟨_, rfl⟩
  rw [hX] at bX
  rw [hY] at bY
  have HA1 := hid (fun W => H.rel x0 y0 x1 y1 x2 y2 x3 y3 W)
  rw [near_in (x := x0) (by omega) (by omega), near_in (x := y0) (by omega) (by omega), near_in (x := x1) (by omega) (by omega), near_in (x := y1) (by omega) (by omega), near_in (x := x2) (by omega) (by omega), near_in (x := y2) (by omega) (by omega), near_in (x := x3) (by omega) (by omega), near_in (x := y3) (by omega) (by omega)] at HA1
  have HA2 := hid (fun W => H.rel (x0 + X) (y0 + Y) (x1 + X) (y1 + Y) (x2 + X) (y2 + Y) (x3 + X) (y3 + Y) W)
  rw [near_in (x := x0 + X) (by omega) (by omega), near_in (x := y0 + Y) (by omega) (by omega), near_in (x := x1 + X) (by omega) (by omega), near_in (x := y1 + Y) (by omega) (by omega), near_in (x := x2 + X) (by omega) (by omega), near_in (x := y2 + Y) (by omega) (by omega), near_in (x := x3 + X) (by omega) (by omega), near_in (x := y3 + Y) (by omega) (by omega)] at HA2
  rw [relP_move X Y (x0, y0) (x1, y1) (x2, y2) (x3, y3)] at HA2
  have HA3 := hid (fun W => H.rel y0 x0 y1 x1 y2 x2 y3 x3 W)
  rw [near_in (x := x0) (by omega) (by omega), near_in (x := y0) (by omega) (by omega), near_in (x := x1) (by omega) (by omega), near_in (x := y1) (by omega) (by omega), near_in (x := x2) (by omega) (by omega), near_in (x := y2) (by omega) (by omega), near_in (x := x3) (by omega) (by omega), near_in (x := y3) (by omega) (by omega)] at HA3
  rw [relP_mirror (x0, y0) (x1, y1) (x2, y2) (x3, y3)] at HA3
  have HA4 := hid (fun W => H.rel (-y0) x0 (-y1) x1 (-y2) x2 (-y3) x3 W)
  rw [near_in (x := -y0) (by omega) (by omega), near_in (x := x0) (by omega) (by omega), near_in (x := -y1) (by omega) (by omega), near_in (x := x1) (by omega) (by omega), near_in (x := -y2) (by omega) (by omega), near_in (x := x2) (by omega) (by omega), near_in (x := -y3) (by omega) (by omega), near_in (x := x3) (by omega) (by omega)] at HA4
  rw [relP_quarter (x0, y0) (x1, y1) (x2, y2) (x3, y3)] at HA4
  exact segMoves_core H w ax ay bx by' cx cy dx dy sx sy x0 y0 x1 y1 x2 y2 x3 y3 X Y _ h0 b0 h1 b1 h2 b2 h3 b3 h4 b4 h5 b5 h6 b6 h7 b7 hX hY bX bY HA1 HA2 HA3 HA4
end Go.Proofs.Ythalnfnfnaknnaa
