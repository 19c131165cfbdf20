/-
  SegMoves: the walk.
-/
import Derived.Test.YthalnfnfnaknnaaSRow4
import Derived.Test.YthalnfnfnaknnaaSLaw
namespace Go.Proofs.Ythalnfnfnaknnaa
open Go.RowKit Go.Sort

set_option maxRecDepth 100000 in
set_option maxHeartbeats 8000000 in
theorem segMoves_core (H : SegC) (w : World) (ax ay bx by' cx cy dx dy sx sy x0 y0 x1 y1 x2 y2 x3 y3 X Y K : Int) (h0 : ax.tmod 100 = x0) (b0 : -100 < x0 ∧ x0 < 100) (h1 : ay.tmod 100 = y0) (b1 : -100 < y0 ∧ y0 < 100) (h2 : bx.tmod 100 = x1) (b2 : -100 < x1 ∧ x1 < 100) (h3 : by'.tmod 100 = y1) (b3 : -100 < y1 ∧ y1 < 100) (h4 : cx.tmod 100 = x2) (b4 : -100 < x2 ∧ x2 < 100) (h5 : cy.tmod 100 = y2) (b5 : -100 < y2 ∧ y2 < 100) (h6 : dx.tmod 100 = x3) (b6 : -100 < x3 ∧ x3 < 100) (h7 : dy.tmod 100 = y3) (b7 : -100 < y3 ∧ y3 < 100) (hX : sx.tmod 10000 = X) (hY : sy.tmod 10000 = Y) (bX : -10000 < X ∧ X < 10000) (bY : -10000 < Y ∧ Y < 10000)
    (HA1 : Hid (∀ W, Calls Try.prog 8 #[pv x0 y0, pv x1 y1, pv x2 y2, pv x3 y3] W fun e w' => e = .returned (.int .i64 K) ∧ Below W.heap.size W w'))
    (HA2 : Hid (∀ W, Calls Try.prog 8 #[pv (x0 + X) (y0 + Y), pv (x1 + X) (y1 + Y), pv (x2 + X) (y2 + Y), pv (x3 + X) (y3 + Y)] W fun e w' => e = .returned (.int .i64 K) ∧ Below W.heap.size W w'))
    (HA3 : Hid (∀ W, Calls Try.prog 8 #[pv y0 x0, pv y1 x1, pv y2 x2, pv y3 x3] W fun e w' => e = .returned (.int .i64 K) ∧ Below W.heap.size W w'))
    (HA4 : Hid (∀ W, Calls Try.prog 8 #[pv (-y0) x0, pv (-y1) x1, pv (-y2) x2, pv (-y3) x3] W fun e w' => e = .returned (.int .i64 K) ∧ Below W.heap.size W w')) :
    Calls Try.prog 3 #[pv ax ay, pv bx by', pv cx cy, pv dx dy, .int .i64 sx, .int .i64 sy] w fun e w' => e = .returned (.bool true) ∧ Below w.heap.size w w' := by
  obtain ⟨wA, hwA⟩ : ∃ wA, w.alloc (.cells #[.int .i64 ax, .int .i64 ay] 23) = wA := ⟨_, rfl⟩
  obtain ⟨wB, hwB⟩ : ∃ wB, wA.alloc (.cells #[.int .i64 bx, .int .i64 by'] 23) = wB := ⟨_, rfl⟩
  obtain ⟨wC, hwC⟩ : ∃ wC, wB.alloc (.cells #[.int .i64 cx, .int .i64 cy] 23) = wC := ⟨_, rfl⟩
  obtain ⟨wD, hwD⟩ : ∃ wD, wC.alloc (.cells #[.int .i64 dx, .int .i64 dy] 23) = wD := ⟨_, rfl⟩
  obtain ⟨hA, hB, hC, hD, hBL, hszD, hszA, hszB, hszC⟩ := box4 hwA hwB hwC hwD
  have a0 := hA.c0; have a1 := hA.c1; have p0 := hB.c0; have p1 := hB.c1; have q0 := hC.c0; have q1 := hC.c1; have r0 := hD.c0; have r1 := hD.c1
  obtain ⟨wL, hwL⟩ : ∃ wL, wD.alloc (.cells #[.int .i64 ax, .int .i64 ay, .int .i64 bx, .int .i64 by', .int .i64 cx, .int .i64 cy, .int .i64 dx, .int .i64 dy] 23) = wL := ⟨_, rfl⟩
  obtain ⟨wM, hwM⟩ : ∃ wX, wL.alloc (.cells #[.int .i64 0, .int .i64 0, .int .i64 0, .int .i64 0, .int .i64 0, .int .i64 0, .int .i64 0, .int .i64 0] 25) = wX := ⟨_, rfl⟩
  obtain ⟨wN, hwN⟩ : ∃ wX, wM.alloc (.cells #[.int .i64 0, .int .i64 0, .int .i64 0, .int .i64 0, .int .i64 0, .int .i64 0, .int .i64 0, .int .i64 0] 25) = wX := ⟨_, rfl⟩
  obtain ⟨wO, hwO⟩ : ∃ wX, wN.alloc (.cells #[.int .i64 0, .int .i64 0, .int .i64 0, .int .i64 0, .int .i64 0, .int .i64 0, .int .i64 0, .int .i64 0] 25) = wX := ⟨_, rfl⟩
  have hszL : wL.heap.size = w.heap.size + 5 := by rw [← hwL]; simp [hszD]
  have hszM : wM.heap.size = w.heap.size + 6 := by rw [← hwM]; simp [hszL]
  have hszN : wN.heap.size = w.heap.size + 7 := by rw [← hwN]; simp [hszM]
  have HRL := hid (show Row4 wO (w.heap.size + 4) 23 ax ay bx by' cx cy dx dy by rw [← hwO, ← hwN, ← hwM, ← hwL, ← hszD]; exact (((Row4.new ..).alloc _).alloc _).alloc _)
  have HRM := hid (show Row4 wO (w.heap.size + 5) 25 0 0 0 0 0 0 0 0 by rw [← hwO, ← hwN, ← hwM, ← hszL]; exact ((Row4.new ..).alloc _).alloc _)
  have HRN := hid (show Row4 wO (w.heap.size + 6) 25 0 0 0 0 0 0 0 0 by rw [← hwO, ← hwN, ← hszM]; exact (Row4.new ..).alloc _)
  have HRO := hid (show Row4 wO (w.heap.size + 7) 25 0 0 0 0 0 0 0 0 by rw [← hwO, ← hszN]; exact Row4.new ..)
  have HB := hid (show Below w.heap.size w wO by rw [← hwO, ← hwN, ← hwM, ← hwL]; exact ((((hBL.alloc (by omega) _).alloc (by simp; omega) _).alloc (by simp; omega) _).alloc (by simp; omega) _))
  clear hA hB hC hD hBL
  go_enter Try.func3, Try.ntmps3
  go_wp2
  go_loopw [17] (fun t wr => (t = .int .i64 0 ∧ Below w.heap.size w wr ∧ Row4 wr (w.heap.size + 4) 23 ax ay bx by' cx cy dx dy ∧ Row4 wr (w.heap.size + 5) 25 0 0 0 0 0 0 0 0 ∧ Row4 wr (w.heap.size + 6) 25 0 0 0 0 0 0 0 0 ∧ Row4 wr (w.heap.size + 7) 25 0 0 0 0 0 0 0 0) ∨ (t = .int .i64 1 ∧ Below w.heap.size w wr ∧ Row4 wr (w.heap.size + 4) 23 x0 y0 bx by' cx cy dx dy ∧ Row4 wr (w.heap.size + 5) 25 (x0 + X) (y0 + Y) 0 0 0 0 0 0 ∧ Row4 wr (w.heap.size + 6) 25 y0 x0 0 0 0 0 0 0 ∧ Row4 wr (w.heap.size + 7) 25 (-y0) x0 0 0 0 0 0 0) ∨ (t = .int .i64 2 ∧ Below w.heap.size w wr ∧ Row4 wr (w.heap.size + 4) 23 x0 y0 x1 y1 cx cy dx dy ∧ Row4 wr (w.heap.size + 5) 25 (x0 + X) (y0 + Y) (x1 + X) (y1 + Y) 0 0 0 0 ∧ Row4 wr (w.heap.size + 6) 25 y0 x0 y1 x1 0 0 0 0 ∧ Row4 wr (w.heap.size + 7) 25 (-y0) x0 (-y1) x1 0 0 0 0) ∨ (t = .int .i64 3 ∧ Below w.heap.size w wr ∧ Row4 wr (w.heap.size + 4) 23 x0 y0 x1 y1 x2 y2 dx dy ∧ Row4 wr (w.heap.size + 5) 25 (x0 + X) (y0 + Y) (x1 + X) (y1 + Y) (x2 + X) (y2 + Y) 0 0 ∧ Row4 wr (w.heap.size + 6) 25 y0 x0 y1 x1 y2 x2 0 0 ∧ Row4 wr (w.heap.size + 7) 25 (-y0) x0 (-y1) x1 (-y2) x2 0 0) ∨ (t = .int .i64 4 ∧ Below w.heap.size w wr ∧ Row4 wr (w.heap.size + 4) 23 x0 y0 x1 y1 x2 y2 x3 y3 ∧ Row4 wr (w.heap.size + 5) 25 (x0 + X) (y0 + Y) (x1 + X) (y1 + Y) (x2 + X) (y2 + Y) (x3 + X) (y3 + Y) ∧ Row4 wr (w.heap.size + 6) 25 y0 x0 y1 x1 y2 x2 y3 x3 ∧ Row4 wr (w.heap.size + 7) 25 (-y0) x0 (-y1) x1 (-y2) x2 (-y3) x3)) (fun t _ => 4 - (intOf t).toNat)
  case atStart => exact .inl ⟨rfl, HB.out, HRL.out, HRM.out, HRN.out, HRO.out⟩
  case round =>
    clear HB HRL HRM HRN HRO
    rcases hrel with hk | hk | hk | hk | hk
    · obtain ⟨rfl, hbr, hL, hM, hN, hO⟩ := hk
      have HB := hid hbr
      have HRL := hid hL
      have HRM := hid hM
      have HRN := hid hN
      have HRO := hid hO
      clear hbr hL hM hN hO
      go_wp2
      have k0 := cell_regrown HRL.out.c0
      have k1 := cell_regrown HRL.out.c1
      have k2 := cell_regrown HRL.out.c2
      have k3 := cell_regrown HRL.out.c3
      have k4 := cell_regrown HRL.out.c4
      have k5 := cell_regrown HRL.out.c5
      have k6 := cell_regrown HRL.out.c6
      have k7 := cell_regrown HRL.out.c7
      refine wp_region_tail (C := fun w' => ∃ p : Regrown, w' = grow (redrawn wr p.d) p.os) 16 (by kernel_rfl) (by kernel_rfl) ⟨⟨wr.drawn + 1, #[]⟩, by rw [grow_empty]; rfl⟩ ?_
      simp only [List.take, List.drop]
      go_big_quiet_step (fail)
      go_big_quiet_step (fail)
      go_big_quiet_step (fail)
      go_big_quiet_step (fail)
      go_big_quiet_step (fail)
      go_big_quiet_step (fail)
      go_big_quiet_step (fail)
      go_big_quiet_step (fail)
      go_big_quiet_step (fail)
      go_big_quiet_step (fail)
      go_big_quiet_step (fail)
      go_big_quiet_step (fail)
      go_big_quiet_step (fail)
      go_big_quiet_step (fail)
      go_big_quiet_step (fail)
      go_big_quiet_step (fail)
      refine wpQuiet_nil ?_
      intro W6 hW'
      obtain ⟨⟨dq, osq⟩, hW⟩ := hW'
      have hb : Below wr.heap.size wr W6 := by rw [hW]; exact below_regrown _ _ _
      clear hW k0 k1 k2 k3 k4 k5 k6 k7
      replace HRL := hid (HRL.out.below hb HRL.out.lt)
      replace HRM := hid (HRM.out.below hb HRM.out.lt)
      replace HRN := hid (HRN.out.below hb HRN.out.lt)
      replace HRO := hid (HRO.out.below hb HRO.out.lt)
      replace HB := hid (HB.out.trans (hb.mono HB.out.size))
      clear hb
      have d0 := HRL.out.c0; have d1 := HRL.out.c1; have d2 := HRL.out.c2; have d3 := HRL.out.c3; have d4 := HRL.out.c4; have d5 := HRL.out.c5; have d6 := HRL.out.c6; have d7 := HRL.out.c7
      have g0 := HRL.out.f0; have g1 := HRL.out.f1; have g2 := HRL.out.f2; have g3 := HRL.out.f3; have g4 := HRL.out.f4; have g5 := HRL.out.f5; have g6 := HRL.out.f6; have g7 := HRL.out.f7
      obtain ⟨V6, hV6⟩ : ∃ V, (W6.setCell ⟨w.heap.size + 4, 0, none⟩ (.int .i64 x0)).setCell ⟨w.heap.size + 4, 1, none⟩ (.int .i64 y0) = V := ⟨_, rfl⟩
      replace HRL := hid (show Row4 V6 _ _ _ _ _ _ _ _ _ _ by rw [← hV6]; exact HRL.out.set0 _ _)
      replace HRM := hid (show Row4 V6 _ _ _ _ _ _ _ _ _ _ by rw [← hV6]; exact HRM.out.far (by omega) _ _)
      replace HRN := hid (show Row4 V6 _ _ _ _ _ _ _ _ _ _ by rw [← hV6]; exact HRN.out.far (by omega) _ _)
      replace HRO := hid (show Row4 V6 _ _ _ _ _ _ _ _ _ _ by rw [← hV6]; exact HRO.out.far (by omega) _ _)
      replace HB := hid (show Below w.heap.size w V6 by rw [← hV6]; exact below_setAny HB.out (by omega) _ _)
      go_wp2
      clear d0 g0 d1 g1 d2 g2 d3 g3 d4 g4 d5 g5 d6 g6 d7 g7
      have k0 := cell_regrown HRL.out.c0
      have k1 := cell_regrown HRL.out.c1
      have k2 := cell_regrown HRL.out.c2
      have k3 := cell_regrown HRL.out.c3
      have k4 := cell_regrown HRL.out.c4
      have k5 := cell_regrown HRL.out.c5
      have k6 := cell_regrown HRL.out.c6
      have k7 := cell_regrown HRL.out.c7
      refine wp_region_tail (C := fun w' => ∃ p : Regrown, w' = grow (redrawn V6 p.d) p.os) 19 (by kernel_rfl) (by kernel_rfl) ⟨⟨V6.drawn + 1, #[]⟩, by rw [grow_empty]; rfl⟩ ?_
      simp only [List.take, List.drop]
      go_big_quiet_step (fail)
      go_big_quiet_step (fail)
      go_big_quiet_step (fail)
      go_big_quiet_step (fail)
      go_big_quiet_step (fail)
      go_big_quiet_step (fail)
      go_big_quiet_step (fail)
      go_big_quiet_step (fail)
      go_big_quiet_step (fail)
      go_big_quiet_step (fail)
      go_big_quiet_step (fail)
      go_big_quiet_step (fail)
      go_big_quiet_step (fail)
      go_big_quiet_step (fail)
      go_big_quiet_step (fail)
      go_big_quiet_step (fail)
      go_big_quiet_step (fail)
      go_big_quiet_step (fail)
      go_big_quiet_step (fail)
      refine wpQuiet_nil ?_
      intro W7 hW'
      obtain ⟨⟨dq, osq⟩, hW⟩ := hW'
      have hb : Below V6.heap.size V6 W7 := by rw [hW]; exact below_regrown _ _ _
      clear hW k0 k1 k2 k3 k4 k5 k6 k7
      replace HRL := hid (HRL.out.below hb HRL.out.lt)
      replace HRM := hid (HRM.out.below hb HRM.out.lt)
      replace HRN := hid (HRN.out.below hb HRN.out.lt)
      replace HRO := hid (HRO.out.below hb HRO.out.lt)
      replace HB := hid (HB.out.trans (hb.mono HB.out.size))
      clear hb
      have d0 := HRM.out.c0; have d1 := HRM.out.c1; have d2 := HRM.out.c2; have d3 := HRM.out.c3; have d4 := HRM.out.c4; have d5 := HRM.out.c5; have d6 := HRM.out.c6; have d7 := HRM.out.c7
      have g0 := HRM.out.f0; have g1 := HRM.out.f1; have g2 := HRM.out.f2; have g3 := HRM.out.f3; have g4 := HRM.out.f4; have g5 := HRM.out.f5; have g6 := HRM.out.f6; have g7 := HRM.out.f7
      obtain ⟨V7, hV7⟩ : ∃ V, (W7.setCell ⟨w.heap.size + 5, 0, none⟩ (.int .i64 (x0 + X))).setCell ⟨w.heap.size + 5, 1, none⟩ (.int .i64 (y0 + Y)) = V := ⟨_, rfl⟩
      replace HRL := hid (show Row4 V7 _ _ _ _ _ _ _ _ _ _ by rw [← hV7]; exact HRL.out.far (by omega) _ _)
      replace HRM := hid (show Row4 V7 _ _ _ _ _ _ _ _ _ _ by rw [← hV7]; exact HRM.out.set0 _ _)
      replace HRN := hid (show Row4 V7 _ _ _ _ _ _ _ _ _ _ by rw [← hV7]; exact HRN.out.far (by omega) _ _)
      replace HRO := hid (show Row4 V7 _ _ _ _ _ _ _ _ _ _ by rw [← hV7]; exact HRO.out.far (by omega) _ _)
      replace HB := hid (show Below w.heap.size w V7 by rw [← hV7]; exact below_setAny HB.out (by omega) _ _)
      go_wp2
      clear d0 g0 d1 g1 d2 g2 d3 g3 d4 g4 d5 g5 d6 g6 d7 g7
      have k0 := cell_regrown HRL.out.c0
      have k1 := cell_regrown HRL.out.c1
      have k2 := cell_regrown HRL.out.c2
      have k3 := cell_regrown HRL.out.c3
      have k4 := cell_regrown HRL.out.c4
      have k5 := cell_regrown HRL.out.c5
      have k6 := cell_regrown HRL.out.c6
      have k7 := cell_regrown HRL.out.c7
      refine wp_region_tail (C := fun w' => ∃ p : Regrown, w' = grow (redrawn V7 p.d) p.os) 13 (by kernel_rfl) (by kernel_rfl) ⟨⟨V7.drawn + 1, #[]⟩, by rw [grow_empty]; rfl⟩ ?_
      simp only [List.take, List.drop]
      go_big_quiet_step (fail)
      go_big_quiet_step (fail)
      go_big_quiet_step (fail)
      go_big_quiet_step (fail)
      go_big_quiet_step (fail)
      go_big_quiet_step (fail)
      go_big_quiet_step (fail)
      go_big_quiet_step (fail)
      go_big_quiet_step (fail)
      go_big_quiet_step (fail)
      go_big_quiet_step (fail)
      go_big_quiet_step (fail)
      go_big_quiet_step (fail)
      refine wpQuiet_nil ?_
      intro W8 hW'
      obtain ⟨⟨dq, osq⟩, hW⟩ := hW'
      have hb : Below V7.heap.size V7 W8 := by rw [hW]; exact below_regrown _ _ _
      clear hW k0 k1 k2 k3 k4 k5 k6 k7
      replace HRL := hid (HRL.out.below hb HRL.out.lt)
      replace HRM := hid (HRM.out.below hb HRM.out.lt)
      replace HRN := hid (HRN.out.below hb HRN.out.lt)
      replace HRO := hid (HRO.out.below hb HRO.out.lt)
      replace HB := hid (HB.out.trans (hb.mono HB.out.size))
      clear hb
      have d0 := HRN.out.c0; have d1 := HRN.out.c1; have d2 := HRN.out.c2; have d3 := HRN.out.c3; have d4 := HRN.out.c4; have d5 := HRN.out.c5; have d6 := HRN.out.c6; have d7 := HRN.out.c7
      have g0 := HRN.out.f0; have g1 := HRN.out.f1; have g2 := HRN.out.f2; have g3 := HRN.out.f3; have g4 := HRN.out.f4; have g5 := HRN.out.f5; have g6 := HRN.out.f6; have g7 := HRN.out.f7
      obtain ⟨V8, hV8⟩ : ∃ V, (W8.setCell ⟨w.heap.size + 6, 0, none⟩ (.int .i64 y0)).setCell ⟨w.heap.size + 6, 1, none⟩ (.int .i64 x0) = V := ⟨_, rfl⟩
      replace HRL := hid (show Row4 V8 _ _ _ _ _ _ _ _ _ _ by rw [← hV8]; exact HRL.out.far (by omega) _ _)
      replace HRM := hid (show Row4 V8 _ _ _ _ _ _ _ _ _ _ by rw [← hV8]; exact HRM.out.far (by omega) _ _)
      replace HRN := hid (show Row4 V8 _ _ _ _ _ _ _ _ _ _ by rw [← hV8]; exact HRN.out.set0 _ _)
      replace HRO := hid (show Row4 V8 _ _ _ _ _ _ _ _ _ _ by rw [← hV8]; exact HRO.out.far (by omega) _ _)
      replace HB := hid (show Below w.heap.size w V8 by rw [← hV8]; exact below_setAny HB.out (by omega) _ _)
      go_wp2
      clear d0 g0 d1 g1 d2 g2 d3 g3 d4 g4 d5 g5 d6 g6 d7 g7
      have k0 := cell_regrown HRL.out.c0
      have k1 := cell_regrown HRL.out.c1
      have k2 := cell_regrown HRL.out.c2
      have k3 := cell_regrown HRL.out.c3
      have k4 := cell_regrown HRL.out.c4
      have k5 := cell_regrown HRL.out.c5
      have k6 := cell_regrown HRL.out.c6
      have k7 := cell_regrown HRL.out.c7
      refine wp_region_tail (C := fun w' => ∃ p : Regrown, w' = grow (redrawn V8 p.d) p.os) 14 (by kernel_rfl) (by kernel_rfl) ⟨⟨V8.drawn + 1, #[]⟩, by rw [grow_empty]; rfl⟩ ?_
      simp only [List.take, List.drop]
      go_big_quiet_step (fail)
      go_big_quiet_step (fail)
      go_big_quiet_step (fail)
      go_big_quiet_step (fail)
      go_big_quiet_step (fail)
      go_big_quiet_step (fail)
      go_big_quiet_step (fail)
      go_big_quiet_step (fail)
      go_big_quiet_step (fail)
      go_big_quiet_step (fail)
      go_big_quiet_step (fail)
      go_big_quiet_step (fail)
      go_big_quiet_step (fail)
      go_big_quiet_step (fail)
      refine wpQuiet_nil ?_
      intro W9 hW'
      obtain ⟨⟨dq, osq⟩, hW⟩ := hW'
      have hb : Below V8.heap.size V8 W9 := by rw [hW]; exact below_regrown _ _ _
      clear hW k0 k1 k2 k3 k4 k5 k6 k7
      replace HRL := hid (HRL.out.below hb HRL.out.lt)
      replace HRM := hid (HRM.out.below hb HRM.out.lt)
      replace HRN := hid (HRN.out.below hb HRN.out.lt)
      replace HRO := hid (HRO.out.below hb HRO.out.lt)
      replace HB := hid (HB.out.trans (hb.mono HB.out.size))
      clear hb
      have d0 := HRO.out.c0; have d1 := HRO.out.c1; have d2 := HRO.out.c2; have d3 := HRO.out.c3; have d4 := HRO.out.c4; have d5 := HRO.out.c5; have d6 := HRO.out.c6; have d7 := HRO.out.c7
      have g0 := HRO.out.f0; have g1 := HRO.out.f1; have g2 := HRO.out.f2; have g3 := HRO.out.f3; have g4 := HRO.out.f4; have g5 := HRO.out.f5; have g6 := HRO.out.f6; have g7 := HRO.out.f7
      obtain ⟨V9, hV9⟩ : ∃ V, (W9.setCell ⟨w.heap.size + 7, 0, none⟩ (.int .i64 (-y0))).setCell ⟨w.heap.size + 7, 1, none⟩ (.int .i64 x0) = V := ⟨_, rfl⟩
      replace HRL := hid (show Row4 V9 _ _ _ _ _ _ _ _ _ _ by rw [← hV9]; exact HRL.out.far (by omega) _ _)
      replace HRM := hid (show Row4 V9 _ _ _ _ _ _ _ _ _ _ by rw [← hV9]; exact HRM.out.far (by omega) _ _)
      replace HRN := hid (show Row4 V9 _ _ _ _ _ _ _ _ _ _ by rw [← hV9]; exact HRN.out.far (by omega) _ _)
      replace HRO := hid (show Row4 V9 _ _ _ _ _ _ _ _ _ _ by rw [← hV9]; exact HRO.out.set0 _ _)
      replace HB := hid (show Below w.heap.size w V9 by rw [← hV9]; exact below_setAny HB.out (by omega) _ _)
      go_wp2
      clear d0 g0 d1 g1 d2 g2 d3 g3 d4 g4 d5 g5 d6 g6 d7 g7
      go_roundw
      case rel =>
        refine .inr (.inl ⟨by go_num, HB.out, HRL.out, HRM.out, HRN.out, HRO.out⟩)
      case measure => simp [intOf]
    · obtain ⟨rfl, hbr, hL, hM, hN, hO⟩ := hk
      have HB := hid hbr
      have HRL := hid hL
      have HRM := hid hM
      have HRN := hid hN
      have HRO := hid hO
      clear hbr hL hM hN hO
      go_wp2
      have k0 := cell_regrown HRL.out.c0
      have k1 := cell_regrown HRL.out.c1
      have k2 := cell_regrown HRL.out.c2
      have k3 := cell_regrown HRL.out.c3
      have k4 := cell_regrown HRL.out.c4
      have k5 := cell_regrown HRL.out.c5
      have k6 := cell_regrown HRL.out.c6
      have k7 := cell_regrown HRL.out.c7
      refine wp_region_tail (C := fun w' => ∃ p : Regrown, w' = grow (redrawn wr p.d) p.os) 16 (by kernel_rfl) (by kernel_rfl) ⟨⟨wr.drawn + 1, #[]⟩, by rw [grow_empty]; rfl⟩ ?_
      simp only [List.take, List.drop]
      go_big_quiet_step (fail)
      go_big_quiet_step (fail)
      go_big_quiet_step (fail)
      go_big_quiet_step (fail)
      go_big_quiet_step (fail)
      go_big_quiet_step (fail)
      go_big_quiet_step (fail)
      go_big_quiet_step (fail)
      go_big_quiet_step (fail)
      go_big_quiet_step (fail)
      go_big_quiet_step (fail)
      go_big_quiet_step (fail)
      go_big_quiet_step (fail)
      go_big_quiet_step (fail)
      go_big_quiet_step (fail)
      go_big_quiet_step (fail)
      refine wpQuiet_nil ?_
      intro W6 hW'
      obtain ⟨⟨dq, osq⟩, hW⟩ := hW'
      have hb : Below wr.heap.size wr W6 := by rw [hW]; exact below_regrown _ _ _
      clear hW k0 k1 k2 k3 k4 k5 k6 k7
      replace HRL := hid (HRL.out.below hb HRL.out.lt)
      replace HRM := hid (HRM.out.below hb HRM.out.lt)
      replace HRN := hid (HRN.out.below hb HRN.out.lt)
      replace HRO := hid (HRO.out.below hb HRO.out.lt)
      replace HB := hid (HB.out.trans (hb.mono HB.out.size))
      clear hb
      have d0 := HRL.out.c0; have d1 := HRL.out.c1; have d2 := HRL.out.c2; have d3 := HRL.out.c3; have d4 := HRL.out.c4; have d5 := HRL.out.c5; have d6 := HRL.out.c6; have d7 := HRL.out.c7
      have g0 := HRL.out.f0; have g1 := HRL.out.f1; have g2 := HRL.out.f2; have g3 := HRL.out.f3; have g4 := HRL.out.f4; have g5 := HRL.out.f5; have g6 := HRL.out.f6; have g7 := HRL.out.f7
      obtain ⟨V6, hV6⟩ : ∃ V, (W6.setCell ⟨w.heap.size + 4, 2, none⟩ (.int .i64 x1)).setCell ⟨w.heap.size + 4, 3, none⟩ (.int .i64 y1) = V := ⟨_, rfl⟩
      replace HRL := hid (show Row4 V6 _ _ _ _ _ _ _ _ _ _ by rw [← hV6]; exact HRL.out.set1 _ _)
      replace HRM := hid (show Row4 V6 _ _ _ _ _ _ _ _ _ _ by rw [← hV6]; exact HRM.out.far (by omega) _ _)
      replace HRN := hid (show Row4 V6 _ _ _ _ _ _ _ _ _ _ by rw [← hV6]; exact HRN.out.far (by omega) _ _)
      replace HRO := hid (show Row4 V6 _ _ _ _ _ _ _ _ _ _ by rw [← hV6]; exact HRO.out.far (by omega) _ _)
      replace HB := hid (show Below w.heap.size w V6 by rw [← hV6]; exact below_setAny HB.out (by omega) _ _)
      go_wp2
      clear d0 g0 d1 g1 d2 g2 d3 g3 d4 g4 d5 g5 d6 g6 d7 g7
      have k0 := cell_regrown HRL.out.c0
      have k1 := cell_regrown HRL.out.c1
      have k2 := cell_regrown HRL.out.c2
      have k3 := cell_regrown HRL.out.c3
      have k4 := cell_regrown HRL.out.c4
      have k5 := cell_regrown HRL.out.c5
      have k6 := cell_regrown HRL.out.c6
      have k7 := cell_regrown HRL.out.c7
      refine wp_region_tail (C := fun w' => ∃ p : Regrown, w' = grow (redrawn V6 p.d) p.os) 19 (by kernel_rfl) (by kernel_rfl) ⟨⟨V6.drawn + 1, #[]⟩, by rw [grow_empty]; rfl⟩ ?_
      simp only [List.take, List.drop]
      go_big_quiet_step (fail)
      go_big_quiet_step (fail)
      go_big_quiet_step (fail)
      go_big_quiet_step (fail)
      go_big_quiet_step (fail)
      go_big_quiet_step (fail)
      go_big_quiet_step (fail)
      go_big_quiet_step (fail)
      go_big_quiet_step (fail)
      go_big_quiet_step (fail)
      go_big_quiet_step (fail)
      go_big_quiet_step (fail)
      go_big_quiet_step (fail)
      go_big_quiet_step (fail)
      go_big_quiet_step (fail)
      go_big_quiet_step (fail)
      go_big_quiet_step (fail)
      go_big_quiet_step (fail)
      go_big_quiet_step (fail)
      refine wpQuiet_nil ?_
      intro W7 hW'
      obtain ⟨⟨dq, osq⟩, hW⟩ := hW'
      have hb : Below V6.heap.size V6 W7 := by rw [hW]; exact below_regrown _ _ _
      clear hW k0 k1 k2 k3 k4 k5 k6 k7
      replace HRL := hid (HRL.out.below hb HRL.out.lt)
      replace HRM := hid (HRM.out.below hb HRM.out.lt)
      replace HRN := hid (HRN.out.below hb HRN.out.lt)
      replace HRO := hid (HRO.out.below hb HRO.out.lt)
      replace HB := hid (HB.out.trans (hb.mono HB.out.size))
      clear hb
      have d0 := HRM.out.c0; have d1 := HRM.out.c1; have d2 := HRM.out.c2; have d3 := HRM.out.c3; have d4 := HRM.out.c4; have d5 := HRM.out.c5; have d6 := HRM.out.c6; have d7 := HRM.out.c7
      have g0 := HRM.out.f0; have g1 := HRM.out.f1; have g2 := HRM.out.f2; have g3 := HRM.out.f3; have g4 := HRM.out.f4; have g5 := HRM.out.f5; have g6 := HRM.out.f6; have g7 := HRM.out.f7
      obtain ⟨V7, hV7⟩ : ∃ V, (W7.setCell ⟨w.heap.size + 5, 2, none⟩ (.int .i64 (x1 + X))).setCell ⟨w.heap.size + 5, 3, none⟩ (.int .i64 (y1 + Y)) = V := ⟨_, rfl⟩
      replace HRL := hid (show Row4 V7 _ _ _ _ _ _ _ _ _ _ by rw [← hV7]; exact HRL.out.far (by omega) _ _)
      replace HRM := hid (show Row4 V7 _ _ _ _ _ _ _ _ _ _ by rw [← hV7]; exact HRM.out.set1 _ _)
      replace HRN := hid (show Row4 V7 _ _ _ _ _ _ _ _ _ _ by rw [← hV7]; exact HRN.out.far (by omega) _ _)
      replace HRO := hid (show Row4 V7 _ _ _ _ _ _ _ _ _ _ by rw [← hV7]; exact HRO.out.far (by omega) _ _)
      replace HB := hid (show Below w.heap.size w V7 by rw [← hV7]; exact below_setAny HB.out (by omega) _ _)
      go_wp2
      clear d0 g0 d1 g1 d2 g2 d3 g3 d4 g4 d5 g5 d6 g6 d7 g7
      have k0 := cell_regrown HRL.out.c0
      have k1 := cell_regrown HRL.out.c1
      have k2 := cell_regrown HRL.out.c2
      have k3 := cell_regrown HRL.out.c3
      have k4 := cell_regrown HRL.out.c4
      have k5 := cell_regrown HRL.out.c5
      have k6 := cell_regrown HRL.out.c6
      have k7 := cell_regrown HRL.out.c7
      refine wp_region_tail (C := fun w' => ∃ p : Regrown, w' = grow (redrawn V7 p.d) p.os) 13 (by kernel_rfl) (by kernel_rfl) ⟨⟨V7.drawn + 1, #[]⟩, by rw [grow_empty]; rfl⟩ ?_
      simp only [List.take, List.drop]
      go_big_quiet_step (fail)
      go_big_quiet_step (fail)
      go_big_quiet_step (fail)
      go_big_quiet_step (fail)
      go_big_quiet_step (fail)
      go_big_quiet_step (fail)
      go_big_quiet_step (fail)
      go_big_quiet_step (fail)
      go_big_quiet_step (fail)
      go_big_quiet_step (fail)
      go_big_quiet_step (fail)
      go_big_quiet_step (fail)
      go_big_quiet_step (fail)
      refine wpQuiet_nil ?_
      intro W8 hW'
      obtain ⟨⟨dq, osq⟩, hW⟩ := hW'
      have hb : Below V7.heap.size V7 W8 := by rw [hW]; exact below_regrown _ _ _
      clear hW k0 k1 k2 k3 k4 k5 k6 k7
      replace HRL := hid (HRL.out.below hb HRL.out.lt)
      replace HRM := hid (HRM.out.below hb HRM.out.lt)
      replace HRN := hid (HRN.out.below hb HRN.out.lt)
      replace HRO := hid (HRO.out.below hb HRO.out.lt)
      replace HB := hid (HB.out.trans (hb.mono HB.out.size))
      clear hb
      have d0 := HRN.out.c0; have d1 := HRN.out.c1; have d2 := HRN.out.c2; have d3 := HRN.out.c3; have d4 := HRN.out.c4; have d5 := HRN.out.c5; have d6 := HRN.out.c6; have d7 := HRN.out.c7
      have g0 := HRN.out.f0; have g1 := HRN.out.f1; have g2 := HRN.out.f2; have g3 := HRN.out.f3; have g4 := HRN.out.f4; have g5 := HRN.out.f5; have g6 := HRN.out.f6; have g7 := HRN.out.f7
      obtain ⟨V8, hV8⟩ : ∃ V, (W8.setCell ⟨w.heap.size + 6, 2, none⟩ (.int .i64 y1)).setCell ⟨w.heap.size + 6, 3, none⟩ (.int .i64 x1) = V := ⟨_, rfl⟩
      replace HRL := hid (show Row4 V8 _ _ _ _ _ _ _ _ _ _ by rw [← hV8]; exact HRL.out.far (by omega) _ _)
      replace HRM := hid (show Row4 V8 _ _ _ _ _ _ _ _ _ _ by rw [← hV8]; exact HRM.out.far (by omega) _ _)
      replace HRN := hid (show Row4 V8 _ _ _ _ _ _ _ _ _ _ by rw [← hV8]; exact HRN.out.set1 _ _)
      replace HRO := hid (show Row4 V8 _ _ _ _ _ _ _ _ _ _ by rw [← hV8]; exact HRO.out.far (by omega) _ _)
      replace HB := hid (show Below w.heap.size w V8 by rw [← hV8]; exact below_setAny HB.out (by omega) _ _)
      go_wp2
      clear d0 g0 d1 g1 d2 g2 d3 g3 d4 g4 d5 g5 d6 g6 d7 g7
      have k0 := cell_regrown HRL.out.c0
      have k1 := cell_regrown HRL.out.c1
      have k2 := cell_regrown HRL.out.c2
      have k3 := cell_regrown HRL.out.c3
      have k4 := cell_regrown HRL.out.c4
      have k5 := cell_regrown HRL.out.c5
      have k6 := cell_regrown HRL.out.c6
      have k7 := cell_regrown HRL.out.c7
      refine wp_region_tail (C := fun w' => ∃ p : Regrown, w' = grow (redrawn V8 p.d) p.os) 14 (by kernel_rfl) (by kernel_rfl) ⟨⟨V8.drawn + 1, #[]⟩, by rw [grow_empty]; rfl⟩ ?_
      simp only [List.take, List.drop]
      go_big_quiet_step (fail)
      go_big_quiet_step (fail)
      go_big_quiet_step (fail)
      go_big_quiet_step (fail)
      go_big_quiet_step (fail)
      go_big_quiet_step (fail)
      go_big_quiet_step (fail)
      go_big_quiet_step (fail)
      go_big_quiet_step (fail)
      go_big_quiet_step (fail)
      go_big_quiet_step (fail)
      go_big_quiet_step (fail)
      go_big_quiet_step (fail)
      go_big_quiet_step (fail)
      refine wpQuiet_nil ?_
      intro W9 hW'
      obtain ⟨⟨dq, osq⟩, hW⟩ := hW'
      have hb : Below V8.heap.size V8 W9 := by rw [hW]; exact below_regrown _ _ _
      clear hW k0 k1 k2 k3 k4 k5 k6 k7
      replace HRL := hid (HRL.out.below hb HRL.out.lt)
      replace HRM := hid (HRM.out.below hb HRM.out.lt)
      replace HRN := hid (HRN.out.below hb HRN.out.lt)
      replace HRO := hid (HRO.out.below hb HRO.out.lt)
      replace HB := hid (HB.out.trans (hb.mono HB.out.size))
      clear hb
      have d0 := HRO.out.c0; have d1 := HRO.out.c1; have d2 := HRO.out.c2; have d3 := HRO.out.c3; have d4 := HRO.out.c4; have d5 := HRO.out.c5; have d6 := HRO.out.c6; have d7 := HRO.out.c7
      have g0 := HRO.out.f0; have g1 := HRO.out.f1; have g2 := HRO.out.f2; have g3 := HRO.out.f3; have g4 := HRO.out.f4; have g5 := HRO.out.f5; have g6 := HRO.out.f6; have g7 := HRO.out.f7
      obtain ⟨V9, hV9⟩ : ∃ V, (W9.setCell ⟨w.heap.size + 7, 2, none⟩ (.int .i64 (-y1))).setCell ⟨w.heap.size + 7, 3, none⟩ (.int .i64 x1) = V := ⟨_, rfl⟩
      replace HRL := hid (show Row4 V9 _ _ _ _ _ _ _ _ _ _ by rw [← hV9]; exact HRL.out.far (by omega) _ _)
      replace HRM := hid (show Row4 V9 _ _ _ _ _ _ _ _ _ _ by rw [← hV9]; exact HRM.out.far (by omega) _ _)
      replace HRN := hid (show Row4 V9 _ _ _ _ _ _ _ _ _ _ by rw [← hV9]; exact HRN.out.far (by omega) _ _)
      replace HRO := hid (show Row4 V9 _ _ _ _ _ _ _ _ _ _ by rw [← hV9]; exact HRO.out.set1 _ _)
      replace HB := hid (show Below w.heap.size w V9 by rw [← hV9]; exact below_setAny HB.out (by omega) _ _)
      go_wp2
      clear d0 g0 d1 g1 d2 g2 d3 g3 d4 g4 d5 g5 d6 g6 d7 g7
      go_roundw
      case rel =>
        refine .inr (.inr (.inl ⟨by go_num, HB.out, HRL.out, HRM.out, HRN.out, HRO.out⟩))
      case measure => simp [intOf]
    · obtain ⟨rfl, hbr, hL, hM, hN, hO⟩ := hk
      have HB := hid hbr
      have HRL := hid hL
      have HRM := hid hM
      have HRN := hid hN
      have HRO := hid hO
      clear hbr hL hM hN hO
      go_wp2
      have k0 := cell_regrown HRL.out.c0
      have k1 := cell_regrown HRL.out.c1
      have k2 := cell_regrown HRL.out.c2
      have k3 := cell_regrown HRL.out.c3
      have k4 := cell_regrown HRL.out.c4
      have k5 := cell_regrown HRL.out.c5
      have k6 := cell_regrown HRL.out.c6
      have k7 := cell_regrown HRL.out.c7
      refine wp_region_tail (C := fun w' => ∃ p : Regrown, w' = grow (redrawn wr p.d) p.os) 16 (by kernel_rfl) (by kernel_rfl) ⟨⟨wr.drawn + 1, #[]⟩, by rw [grow_empty]; rfl⟩ ?_
      simp only [List.take, List.drop]
      go_big_quiet_step (fail)
      go_big_quiet_step (fail)
      go_big_quiet_step (fail)
      go_big_quiet_step (fail)
      go_big_quiet_step (fail)
      go_big_quiet_step (fail)
      go_big_quiet_step (fail)
      go_big_quiet_step (fail)
      go_big_quiet_step (fail)
      go_big_quiet_step (fail)
      go_big_quiet_step (fail)
      go_big_quiet_step (fail)
      go_big_quiet_step (fail)
      go_big_quiet_step (fail)
      go_big_quiet_step (fail)
      go_big_quiet_step (fail)
      refine wpQuiet_nil ?_
      intro W6 hW'
      obtain ⟨⟨dq, osq⟩, hW⟩ := hW'
      have hb : Below wr.heap.size wr W6 := by rw [hW]; exact below_regrown _ _ _
      clear hW k0 k1 k2 k3 k4 k5 k6 k7
      replace HRL := hid (HRL.out.below hb HRL.out.lt)
      replace HRM := hid (HRM.out.below hb HRM.out.lt)
      replace HRN := hid (HRN.out.below hb HRN.out.lt)
      replace HRO := hid (HRO.out.below hb HRO.out.lt)
      replace HB := hid (HB.out.trans (hb.mono HB.out.size))
      clear hb
      have d0 := HRL.out.c0; have d1 := HRL.out.c1; have d2 := HRL.out.c2; have d3 := HRL.out.c3; have d4 := HRL.out.c4; have d5 := HRL.out.c5; have d6 := HRL.out.c6; have d7 := HRL.out.c7
      have g0 := HRL.out.f0; have g1 := HRL.out.f1; have g2 := HRL.out.f2; have g3 := HRL.out.f3; have g4 := HRL.out.f4; have g5 := HRL.out.f5; have g6 := HRL.out.f6; have g7 := HRL.out.f7
      obtain ⟨V6, hV6⟩ : ∃ V, (W6.setCell ⟨w.heap.size + 4, 4, none⟩ (.int .i64 x2)).setCell ⟨w.heap.size + 4, 5, none⟩ (.int .i64 y2) = V := ⟨_, rfl⟩
      replace HRL := hid (show Row4 V6 _ _ _ _ _ _ _ _ _ _ by rw [← hV6]; exact HRL.out.set2 _ _)
      replace HRM := hid (show Row4 V6 _ _ _ _ _ _ _ _ _ _ by rw [← hV6]; exact HRM.out.far (by omega) _ _)
      replace HRN := hid (show Row4 V6 _ _ _ _ _ _ _ _ _ _ by rw [← hV6]; exact HRN.out.far (by omega) _ _)
      replace HRO := hid (show Row4 V6 _ _ _ _ _ _ _ _ _ _ by rw [← hV6]; exact HRO.out.far (by omega) _ _)
      replace HB := hid (show Below w.heap.size w V6 by rw [← hV6]; exact below_setAny HB.out (by omega) _ _)
      go_wp2
      clear d0 g0 d1 g1 d2 g2 d3 g3 d4 g4 d5 g5 d6 g6 d7 g7
      have k0 := cell_regrown HRL.out.c0
      have k1 := cell_regrown HRL.out.c1
      have k2 := cell_regrown HRL.out.c2
      have k3 := cell_regrown HRL.out.c3
      have k4 := cell_regrown HRL.out.c4
      have k5 := cell_regrown HRL.out.c5
      have k6 := cell_regrown HRL.out.c6
      have k7 := cell_regrown HRL.out.c7
      refine wp_region_tail (C := fun w' => ∃ p : Regrown, w' = grow (redrawn V6 p.d) p.os) 19 (by kernel_rfl) (by kernel_rfl) ⟨⟨V6.drawn + 1, #[]⟩, by rw [grow_empty]; rfl⟩ ?_
      simp only [List.take, List.drop]
      go_big_quiet_step (fail)
      go_big_quiet_step (fail)
      go_big_quiet_step (fail)
      go_big_quiet_step (fail)
      go_big_quiet_step (fail)
      go_big_quiet_step (fail)
      go_big_quiet_step (fail)
      go_big_quiet_step (fail)
      go_big_quiet_step (fail)
      go_big_quiet_step (fail)
      go_big_quiet_step (fail)
      go_big_quiet_step (fail)
      go_big_quiet_step (fail)
      go_big_quiet_step (fail)
      go_big_quiet_step (fail)
      go_big_quiet_step (fail)
      go_big_quiet_step (fail)
      go_big_quiet_step (fail)
      go_big_quiet_step (fail)
      refine wpQuiet_nil ?_
      intro W7 hW'
      obtain ⟨⟨dq, osq⟩, hW⟩ := hW'
      have hb : Below V6.heap.size V6 W7 := by rw [hW]; exact below_regrown _ _ _
      clear hW k0 k1 k2 k3 k4 k5 k6 k7
      replace HRL := hid (HRL.out.below hb HRL.out.lt)
      replace HRM := hid (HRM.out.below hb HRM.out.lt)
      replace HRN := hid (HRN.out.below hb HRN.out.lt)
      replace HRO := hid (HRO.out.below hb HRO.out.lt)
      replace HB := hid (HB.out.trans (hb.mono HB.out.size))
      clear hb
      have d0 := HRM.out.c0; have d1 := HRM.out.c1; have d2 := HRM.out.c2; have d3 := HRM.out.c3; have d4 := HRM.out.c4; have d5 := HRM.out.c5; have d6 := HRM.out.c6; have d7 := HRM.out.c7
      have g0 := HRM.out.f0; have g1 := HRM.out.f1; have g2 := HRM.out.f2; have g3 := HRM.out.f3; have g4 := HRM.out.f4; have g5 := HRM.out.f5; have g6 := HRM.out.f6; have g7 := HRM.out.f7
      obtain ⟨V7, hV7⟩ : ∃ V, (W7.setCell ⟨w.heap.size + 5, 4, none⟩ (.int .i64 (x2 + X))).setCell ⟨w.heap.size + 5, 5, none⟩ (.int .i64 (y2 + Y)) = V := ⟨_, rfl⟩
      replace HRL := hid (show Row4 V7 _ _ _ _ _ _ _ _ _ _ by rw [← hV7]; exact HRL.out.far (by omega) _ _)
      replace HRM := hid (show Row4 V7 _ _ _ _ _ _ _ _ _ _ by rw [← hV7]; exact HRM.out.set2 _ _)
      replace HRN := hid (show Row4 V7 _ _ _ _ _ _ _ _ _ _ by rw [← hV7]; exact HRN.out.far (by omega) _ _)
      replace HRO := hid (show Row4 V7 _ _ _ _ _ _ _ _ _ _ by rw [← hV7]; exact HRO.out.far (by omega) _ _)
      replace HB := hid (show Below w.heap.size w V7 by rw [← hV7]; exact below_setAny HB.out (by omega) _ _)
      go_wp2
      clear d0 g0 d1 g1 d2 g2 d3 g3 d4 g4 d5 g5 d6 g6 d7 g7
      have k0 := cell_regrown HRL.out.c0
      have k1 := cell_regrown HRL.out.c1
      have k2 := cell_regrown HRL.out.c2
      have k3 := cell_regrown HRL.out.c3
      have k4 := cell_regrown HRL.out.c4
      have k5 := cell_regrown HRL.out.c5
      have k6 := cell_regrown HRL.out.c6
      have k7 := cell_regrown HRL.out.c7
      refine wp_region_tail (C := fun w' => ∃ p : Regrown, w' = grow (redrawn V7 p.d) p.os) 13 (by kernel_rfl) (by kernel_rfl) ⟨⟨V7.drawn + 1, #[]⟩, by rw [grow_empty]; rfl⟩ ?_
      simp only [List.take, List.drop]
      go_big_quiet_step (fail)
      go_big_quiet_step (fail)
      go_big_quiet_step (fail)
      go_big_quiet_step (fail)
      go_big_quiet_step (fail)
      go_big_quiet_step (fail)
      go_big_quiet_step (fail)
      go_big_quiet_step (fail)
      go_big_quiet_step (fail)
      go_big_quiet_step (fail)
      go_big_quiet_step (fail)
      go_big_quiet_step (fail)
      go_big_quiet_step (fail)
      refine wpQuiet_nil ?_
      intro W8 hW'
      obtain ⟨⟨dq, osq⟩, hW⟩ := hW'
      have hb : Below V7.heap.size V7 W8 := by rw [hW]; exact below_regrown _ _ _
      clear hW k0 k1 k2 k3 k4 k5 k6 k7
      replace HRL := hid (HRL.out.below hb HRL.out.lt)
      replace HRM := hid (HRM.out.below hb HRM.out.lt)
      replace HRN := hid (HRN.out.below hb HRN.out.lt)
      replace HRO := hid (HRO.out.below hb HRO.out.lt)
      replace HB := hid (HB.out.trans (hb.mono HB.out.size))
      clear hb
      have d0 := HRN.out.c0; have d1 := HRN.out.c1; have d2 := HRN.out.c2; have d3 := HRN.out.c3; have d4 := HRN.out.c4; have d5 := HRN.out.c5; have d6 := HRN.out.c6; have d7 := HRN.out.c7
      have g0 := HRN.out.f0; have g1 := HRN.out.f1; have g2 := HRN.out.f2; have g3 := HRN.out.f3; have g4 := HRN.out.f4; have g5 := HRN.out.f5; have g6 := HRN.out.f6; have g7 := HRN.out.f7
      obtain ⟨V8, hV8⟩ : ∃ V, (W8.setCell ⟨w.heap.size + 6, 4, none⟩ (.int .i64 y2)).setCell ⟨w.heap.size + 6, 5, none⟩ (.int .i64 x2) = V := ⟨_, rfl⟩
      replace HRL := hid (show Row4 V8 _ _ _ _ _ _ _ _ _ _ by rw [← hV8]; exact HRL.out.far (by omega) _ _)
      replace HRM := hid (show Row4 V8 _ _ _ _ _ _ _ _ _ _ by rw [← hV8]; exact HRM.out.far (by omega) _ _)
      replace HRN := hid (show Row4 V8 _ _ _ _ _ _ _ _ _ _ by rw [← hV8]; exact HRN.out.set2 _ _)
      replace HRO := hid (show Row4 V8 _ _ _ _ _ _ _ _ _ _ by rw [← hV8]; exact HRO.out.far (by omega) _ _)
      replace HB := hid (show Below w.heap.size w V8 by rw [← hV8]; exact below_setAny HB.out (by omega) _ _)
      go_wp2
      clear d0 g0 d1 g1 d2 g2 d3 g3 d4 g4 d5 g5 d6 g6 d7 g7
      have k0 := cell_regrown HRL.out.c0
      have k1 := cell_regrown HRL.out.c1
      have k2 := cell_regrown HRL.out.c2
      have k3 := cell_regrown HRL.out.c3
      have k4 := cell_regrown HRL.out.c4
      have k5 := cell_regrown HRL.out.c5
      have k6 := cell_regrown HRL.out.c6
      have k7 := cell_regrown HRL.out.c7
      refine wp_region_tail (C := fun w' => ∃ p : Regrown, w' = grow (redrawn V8 p.d) p.os) 14 (by kernel_rfl) (by kernel_rfl) ⟨⟨V8.drawn + 1, #[]⟩, by rw [grow_empty]; rfl⟩ ?_
      simp only [List.take, List.drop]
      go_big_quiet_step (fail)
      go_big_quiet_step (fail)
      go_big_quiet_step (fail)
      go_big_quiet_step (fail)
      go_big_quiet_step (fail)
      go_big_quiet_step (fail)
      go_big_quiet_step (fail)
      go_big_quiet_step (fail)
      go_big_quiet_step (fail)
      go_big_quiet_step (fail)
      go_big_quiet_step (fail)
      go_big_quiet_step (fail)
      go_big_quiet_step (fail)
      go_big_quiet_step (fail)
      refine wpQuiet_nil ?_
      intro W9 hW'
      obtain ⟨⟨dq, osq⟩, hW⟩ := hW'
      have hb : Below V8.heap.size V8 W9 := by rw [hW]; exact below_regrown _ _ _
      clear hW k0 k1 k2 k3 k4 k5 k6 k7
      replace HRL := hid (HRL.out.below hb HRL.out.lt)
      replace HRM := hid (HRM.out.below hb HRM.out.lt)
      replace HRN := hid (HRN.out.below hb HRN.out.lt)
      replace HRO := hid (HRO.out.below hb HRO.out.lt)
      replace HB := hid (HB.out.trans (hb.mono HB.out.size))
      clear hb
      have d0 := HRO.out.c0; have d1 := HRO.out.c1; have d2 := HRO.out.c2; have d3 := HRO.out.c3; have d4 := HRO.out.c4; have d5 := HRO.out.c5; have d6 := HRO.out.c6; have d7 := HRO.out.c7
      have g0 := HRO.out.f0; have g1 := HRO.out.f1; have g2 := HRO.out.f2; have g3 := HRO.out.f3; have g4 := HRO.out.f4; have g5 := HRO.out.f5; have g6 := HRO.out.f6; have g7 := HRO.out.f7
      obtain ⟨V9, hV9⟩ : ∃ V, (W9.setCell ⟨w.heap.size + 7, 4, none⟩ (.int .i64 (-y2))).setCell ⟨w.heap.size + 7, 5, none⟩ (.int .i64 x2) = V := ⟨_, rfl⟩
      replace HRL := hid (show Row4 V9 _ _ _ _ _ _ _ _ _ _ by rw [← hV9]; exact HRL.out.far (by omega) _ _)
      replace HRM := hid (show Row4 V9 _ _ _ _ _ _ _ _ _ _ by rw [← hV9]; exact HRM.out.far (by omega) _ _)
      replace HRN := hid (show Row4 V9 _ _ _ _ _ _ _ _ _ _ by rw [← hV9]; exact HRN.out.far (by omega) _ _)
      replace HRO := hid (show Row4 V9 _ _ _ _ _ _ _ _ _ _ by rw [← hV9]; exact HRO.out.set2 _ _)
      replace HB := hid (show Below w.heap.size w V9 by rw [← hV9]; exact below_setAny HB.out (by omega) _ _)
      go_wp2
      clear d0 g0 d1 g1 d2 g2 d3 g3 d4 g4 d5 g5 d6 g6 d7 g7
      go_roundw
      case rel =>
        refine .inr (.inr (.inr (.inl ⟨by go_num, HB.out, HRL.out, HRM.out, HRN.out, HRO.out⟩)))
      case measure => simp [intOf]
    · obtain ⟨rfl, hbr, hL, hM, hN, hO⟩ := hk
      have HB := hid hbr
      have HRL := hid hL
      have HRM := hid hM
      have HRN := hid hN
      have HRO := hid hO
      clear hbr hL hM hN hO
      go_wp2
      have k0 := cell_regrown HRL.out.c0
      have k1 := cell_regrown HRL.out.c1
      have k2 := cell_regrown HRL.out.c2
      have k3 := cell_regrown HRL.out.c3
      have k4 := cell_regrown HRL.out.c4
      have k5 := cell_regrown HRL.out.c5
      have k6 := cell_regrown HRL.out.c6
      have k7 := cell_regrown HRL.out.c7
      refine wp_region_tail (C := fun w' => ∃ p : Regrown, w' = grow (redrawn wr p.d) p.os) 16 (by kernel_rfl) (by kernel_rfl) ⟨⟨wr.drawn + 1, #[]⟩, by rw [grow_empty]; rfl⟩ ?_
      simp only [List.take, List.drop]
      go_big_quiet_step (fail)
      go_big_quiet_step (fail)
      go_big_quiet_step (fail)
      go_big_quiet_step (fail)
      go_big_quiet_step (fail)
      go_big_quiet_step (fail)
      go_big_quiet_step (fail)
      go_big_quiet_step (fail)
      go_big_quiet_step (fail)
      go_big_quiet_step (fail)
      go_big_quiet_step (fail)
      go_big_quiet_step (fail)
      go_big_quiet_step (fail)
      go_big_quiet_step (fail)
      go_big_quiet_step (fail)
      go_big_quiet_step (fail)
      refine wpQuiet_nil ?_
      intro W6 hW'
      obtain ⟨⟨dq, osq⟩, hW⟩ := hW'
      have hb : Below wr.heap.size wr W6 := by rw [hW]; exact below_regrown _ _ _
      clear hW k0 k1 k2 k3 k4 k5 k6 k7
      replace HRL := hid (HRL.out.below hb HRL.out.lt)
      replace HRM := hid (HRM.out.below hb HRM.out.lt)
      replace HRN := hid (HRN.out.below hb HRN.out.lt)
      replace HRO := hid (HRO.out.below hb HRO.out.lt)
      replace HB := hid (HB.out.trans (hb.mono HB.out.size))
      clear hb
      have d0 := HRL.out.c0; have d1 := HRL.out.c1; have d2 := HRL.out.c2; have d3 := HRL.out.c3; have d4 := HRL.out.c4; have d5 := HRL.out.c5; have d6 := HRL.out.c6; have d7 := HRL.out.c7
      have g0 := HRL.out.f0; have g1 := HRL.out.f1; have g2 := HRL.out.f2; have g3 := HRL.out.f3; have g4 := HRL.out.f4; have g5 := HRL.out.f5; have g6 := HRL.out.f6; have g7 := HRL.out.f7
      obtain ⟨V6, hV6⟩ : ∃ V, (W6.setCell ⟨w.heap.size + 4, 6, none⟩ (.int .i64 x3)).setCell ⟨w.heap.size + 4, 7, none⟩ (.int .i64 y3) = V := ⟨_, rfl⟩
      replace HRL := hid (show Row4 V6 _ _ _ _ _ _ _ _ _ _ by rw [← hV6]; exact HRL.out.set3 _ _)
      replace HRM := hid (show Row4 V6 _ _ _ _ _ _ _ _ _ _ by rw [← hV6]; exact HRM.out.far (by omega) _ _)
      replace HRN := hid (show Row4 V6 _ _ _ _ _ _ _ _ _ _ by rw [← hV6]; exact HRN.out.far (by omega) _ _)
      replace HRO := hid (show Row4 V6 _ _ _ _ _ _ _ _ _ _ by rw [← hV6]; exact HRO.out.far (by omega) _ _)
      replace HB := hid (show Below w.heap.size w V6 by rw [← hV6]; exact below_setAny HB.out (by omega) _ _)
      go_wp2
      clear d0 g0 d1 g1 d2 g2 d3 g3 d4 g4 d5 g5 d6 g6 d7 g7
      have k0 := cell_regrown HRL.out.c0
      have k1 := cell_regrown HRL.out.c1
      have k2 := cell_regrown HRL.out.c2
      have k3 := cell_regrown HRL.out.c3
      have k4 := cell_regrown HRL.out.c4
      have k5 := cell_regrown HRL.out.c5
      have k6 := cell_regrown HRL.out.c6
      have k7 := cell_regrown HRL.out.c7
      refine wp_region_tail (C := fun w' => ∃ p : Regrown, w' = grow (redrawn V6 p.d) p.os) 19 (by kernel_rfl) (by kernel_rfl) ⟨⟨V6.drawn + 1, #[]⟩, by rw [grow_empty]; rfl⟩ ?_
      simp only [List.take, List.drop]
      go_big_quiet_step (fail)
      go_big_quiet_step (fail)
      go_big_quiet_step (fail)
      go_big_quiet_step (fail)
      go_big_quiet_step (fail)
      go_big_quiet_step (fail)
      go_big_quiet_step (fail)
      go_big_quiet_step (fail)
      go_big_quiet_step (fail)
      go_big_quiet_step (fail)
      go_big_quiet_step (fail)
      go_big_quiet_step (fail)
      go_big_quiet_step (fail)
      go_big_quiet_step (fail)
      go_big_quiet_step (fail)
      go_big_quiet_step (fail)
      go_big_quiet_step (fail)
      go_big_quiet_step (fail)
      go_big_quiet_step (fail)
      refine wpQuiet_nil ?_
      intro W7 hW'
      obtain ⟨⟨dq, osq⟩, hW⟩ := hW'
      have hb : Below V6.heap.size V6 W7 := by rw [hW]; exact below_regrown _ _ _
      clear hW k0 k1 k2 k3 k4 k5 k6 k7
      replace HRL := hid (HRL.out.below hb HRL.out.lt)
      replace HRM := hid (HRM.out.below hb HRM.out.lt)
      replace HRN := hid (HRN.out.below hb HRN.out.lt)
      replace HRO := hid (HRO.out.below hb HRO.out.lt)
      replace HB := hid (HB.out.trans (hb.mono HB.out.size))
      clear hb
      have d0 := HRM.out.c0; have d1 := HRM.out.c1; have d2 := HRM.out.c2; have d3 := HRM.out.c3; have d4 := HRM.out.c4; have d5 := HRM.out.c5; have d6 := HRM.out.c6; have d7 := HRM.out.c7
      have g0 := HRM.out.f0; have g1 := HRM.out.f1; have g2 := HRM.out.f2; have g3 := HRM.out.f3; have g4 := HRM.out.f4; have g5 := HRM.out.f5; have g6 := HRM.out.f6; have g7 := HRM.out.f7
      obtain ⟨V7, hV7⟩ : ∃ V, (W7.setCell ⟨w.heap.size + 5, 6, none⟩ (.int .i64 (x3 + X))).setCell ⟨w.heap.size + 5, 7, none⟩ (.int .i64 (y3 + Y)) = V := ⟨_, rfl⟩
      replace HRL := hid (show Row4 V7 _ _ _ _ _ _ _ _ _ _ by rw [← hV7]; exact HRL.out.far (by omega) _ _)
      replace HRM := hid (show Row4 V7 _ _ _ _ _ _ _ _ _ _ by rw [← hV7]; exact HRM.out.set3 _ _)
      replace HRN := hid (show Row4 V7 _ _ _ _ _ _ _ _ _ _ by rw [← hV7]; exact HRN.out.far (by omega) _ _)
      replace HRO := hid (show Row4 V7 _ _ _ _ _ _ _ _ _ _ by rw [← hV7]; exact HRO.out.far (by omega) _ _)
      replace HB := hid (show Below w.heap.size w V7 by rw [← hV7]; exact below_setAny HB.out (by omega) _ _)
      go_wp2
      clear d0 g0 d1 g1 d2 g2 d3 g3 d4 g4 d5 g5 d6 g6 d7 g7
      have k0 := cell_regrown HRL.out.c0
      have k1 := cell_regrown HRL.out.c1
      have k2 := cell_regrown HRL.out.c2
      have k3 := cell_regrown HRL.out.c3
      have k4 := cell_regrown HRL.out.c4
      have k5 := cell_regrown HRL.out.c5
      have k6 := cell_regrown HRL.out.c6
      have k7 := cell_regrown HRL.out.c7
      refine wp_region_tail (C := fun w' => ∃ p : Regrown, w' = grow (redrawn V7 p.d) p.os) 13 (by kernel_rfl) (by kernel_rfl) ⟨⟨V7.drawn + 1, #[]⟩, by rw [grow_empty]; rfl⟩ ?_
      simp only [List.take, List.drop]
      go_big_quiet_step (fail)
      go_big_quiet_step (fail)
      go_big_quiet_step (fail)
      go_big_quiet_step (fail)
      go_big_quiet_step (fail)
      go_big_quiet_step (fail)
      go_big_quiet_step (fail)
      go_big_quiet_step (fail)
      go_big_quiet_step (fail)
      go_big_quiet_step (fail)
      go_big_quiet_step (fail)
      go_big_quiet_step (fail)
      go_big_quiet_step (fail)
      refine wpQuiet_nil ?_
      intro W8 hW'
      obtain ⟨⟨dq, osq⟩, hW⟩ := hW'
      have hb : Below V7.heap.size V7 W8 := by rw [hW]; exact below_regrown _ _ _
      clear hW k0 k1 k2 k3 k4 k5 k6 k7
      replace HRL := hid (HRL.out.below hb HRL.out.lt)
      replace HRM := hid (HRM.out.below hb HRM.out.lt)
      replace HRN := hid (HRN.out.below hb HRN.out.lt)
      replace HRO := hid (HRO.out.below hb HRO.out.lt)
      replace HB := hid (HB.out.trans (hb.mono HB.out.size))
      clear hb
      have d0 := HRN.out.c0; have d1 := HRN.out.c1; have d2 := HRN.out.c2; have d3 := HRN.out.c3; have d4 := HRN.out.c4; have d5 := HRN.out.c5; have d6 := HRN.out.c6; have d7 := HRN.out.c7
      have g0 := HRN.out.f0; have g1 := HRN.out.f1; have g2 := HRN.out.f2; have g3 := HRN.out.f3; have g4 := HRN.out.f4; have g5 := HRN.out.f5; have g6 := HRN.out.f6; have g7 := HRN.out.f7
      obtain ⟨V8, hV8⟩ : ∃ V, (W8.setCell ⟨w.heap.size + 6, 6, none⟩ (.int .i64 y3)).setCell ⟨w.heap.size + 6, 7, none⟩ (.int .i64 x3) = V := ⟨_, rfl⟩
      replace HRL := hid (show Row4 V8 _ _ _ _ _ _ _ _ _ _ by rw [← hV8]; exact HRL.out.far (by omega) _ _)
      replace HRM := hid (show Row4 V8 _ _ _ _ _ _ _ _ _ _ by rw [← hV8]; exact HRM.out.far (by omega) _ _)
      replace HRN := hid (show Row4 V8 _ _ _ _ _ _ _ _ _ _ by rw [← hV8]; exact HRN.out.set3 _ _)
      replace HRO := hid (show Row4 V8 _ _ _ _ _ _ _ _ _ _ by rw [← hV8]; exact HRO.out.far (by omega) _ _)
      replace HB := hid (show Below w.heap.size w V8 by rw [← hV8]; exact below_setAny HB.out (by omega) _ _)
      go_wp2
      clear d0 g0 d1 g1 d2 g2 d3 g3 d4 g4 d5 g5 d6 g6 d7 g7
      have k0 := cell_regrown HRL.out.c0
      have k1 := cell_regrown HRL.out.c1
      have k2 := cell_regrown HRL.out.c2
      have k3 := cell_regrown HRL.out.c3
      have k4 := cell_regrown HRL.out.c4
      have k5 := cell_regrown HRL.out.c5
      have k6 := cell_regrown HRL.out.c6
      have k7 := cell_regrown HRL.out.c7
      refine wp_region_tail (C := fun w' => ∃ p : Regrown, w' = grow (redrawn V8 p.d) p.os) 14 (by kernel_rfl) (by kernel_rfl) ⟨⟨V8.drawn + 1, #[]⟩, by rw [grow_empty]; rfl⟩ ?_
      simp only [List.take, List.drop]
      go_big_quiet_step (fail)
      go_big_quiet_step (fail)
      go_big_quiet_step (fail)
      go_big_quiet_step (fail)
      go_big_quiet_step (fail)
      go_big_quiet_step (fail)
      go_big_quiet_step (fail)
      go_big_quiet_step (fail)
      go_big_quiet_step (fail)
      go_big_quiet_step (fail)
      go_big_quiet_step (fail)
      go_big_quiet_step (fail)
      go_big_quiet_step (fail)
      go_big_quiet_step (fail)
      refine wpQuiet_nil ?_
      intro W9 hW'
      obtain ⟨⟨dq, osq⟩, hW⟩ := hW'
      have hb : Below V8.heap.size V8 W9 := by rw [hW]; exact below_regrown _ _ _
      clear hW k0 k1 k2 k3 k4 k5 k6 k7
      replace HRL := hid (HRL.out.below hb HRL.out.lt)
      replace HRM := hid (HRM.out.below hb HRM.out.lt)
      replace HRN := hid (HRN.out.below hb HRN.out.lt)
      replace HRO := hid (HRO.out.below hb HRO.out.lt)
      replace HB := hid (HB.out.trans (hb.mono HB.out.size))
      clear hb
      have d0 := HRO.out.c0; have d1 := HRO.out.c1; have d2 := HRO.out.c2; have d3 := HRO.out.c3; have d4 := HRO.out.c4; have d5 := HRO.out.c5; have d6 := HRO.out.c6; have d7 := HRO.out.c7
      have g0 := HRO.out.f0; have g1 := HRO.out.f1; have g2 := HRO.out.f2; have g3 := HRO.out.f3; have g4 := HRO.out.f4; have g5 := HRO.out.f5; have g6 := HRO.out.f6; have g7 := HRO.out.f7
      obtain ⟨V9, hV9⟩ : ∃ V, (W9.setCell ⟨w.heap.size + 7, 6, none⟩ (.int .i64 (-y3))).setCell ⟨w.heap.size + 7, 7, none⟩ (.int .i64 x3) = V := ⟨_, rfl⟩
      replace HRL := hid (show Row4 V9 _ _ _ _ _ _ _ _ _ _ by rw [← hV9]; exact HRL.out.far (by omega) _ _)
      replace HRM := hid (show Row4 V9 _ _ _ _ _ _ _ _ _ _ by rw [← hV9]; exact HRM.out.far (by omega) _ _)
      replace HRN := hid (show Row4 V9 _ _ _ _ _ _ _ _ _ _ by rw [← hV9]; exact HRN.out.far (by omega) _ _)
      replace HRO := hid (show Row4 V9 _ _ _ _ _ _ _ _ _ _ by rw [← hV9]; exact HRO.out.set3 _ _)
      replace HB := hid (show Below w.heap.size w V9 by rw [← hV9]; exact below_setAny HB.out (by omega) _ _)
      go_wp2
      clear d0 g0 d1 g1 d2 g2 d3 g3 d4 g4 d5 g5 d6 g6 d7 g7
      go_roundw
      case rel =>
        refine .inr (.inr (.inr (.inr (⟨by go_num, HB.out, HRL.out, HRM.out, HRN.out, HRO.out⟩))))
      case measure => simp [intOf]
    · obtain ⟨rfl, hbr, hL, hM, hN, hO⟩ := hk
      have HB := hid hbr
      have HRM := hid hM
      have HRN := hid hN
      have HRO := hid hO
      have k0 := cell_regrown hL.c0
      have k1 := cell_regrown hL.c1
      have k2 := cell_regrown hL.c2
      have k3 := cell_regrown hL.c3
      have k4 := cell_regrown hL.c4
      have k5 := cell_regrown hL.c5
      have k6 := cell_regrown hL.c6
      have k7 := cell_regrown hL.c7
      have ca := fun d os => HA1.out (grow (redrawn wr d) os)
      clear hbr hL hM hN hO
      go_wp2
      refine wp_region_quiet_below (by kernel_rfl) (by kernel_rfl) ?_
      go_big_quiet_step (fail)
      go_big_quiet_step (fail)
      go_big_quiet_step (fail)
      go_big_quiet_step (fail)
      go_big_quiet_step (fail)
      go_big_quiet_step (fail)
      go_big_quiet_step (fail)
      go_big_quiet_step (fail)
      go_big_quiet_step (fail)
      go_big_quiet_step (fail)
      go_big_quiet_step (fail)
      go_big_quiet_step (fail)
      go_big_quiet_step (exact Calls.regrown_of (ca _ _))
      go_big_quiet_step (fail)
      refine wpQuiet_nil ?_
      intro W hW'
      obtain ⟨⟨dq, osq⟩, hW⟩ := hW'
      have hb : Below wr.heap.size wr W := by rw [hW]; exact below_regrown _ _ _
      clear hW ca k0 k1 k2 k3 k4 k5 k6 k7
      replace HRM := hid (HRM.out.below hb HRM.out.lt)
      replace HRN := hid (HRN.out.below hb HRN.out.lt)
      replace HRO := hid (HRO.out.below hb HRO.out.lt)
      replace HB := hid (HB.out.trans (hb.mono HB.out.size))
      clear hb
      have m0 := HRM.out.c0; have m1 := HRM.out.c1; have m2 := HRM.out.c2; have m3 := HRM.out.c3; have m4 := HRM.out.c4; have m5 := HRM.out.c5; have m6 := HRM.out.c6; have m7 := HRM.out.c7
      have n0 := HRN.out.c0; have n1 := HRN.out.c1; have n2 := HRN.out.c2; have n3 := HRN.out.c3; have n4 := HRN.out.c4; have n5 := HRN.out.c5; have n6 := HRN.out.c6; have n7 := HRN.out.c7
      have o0 := HRO.out.c0; have o1 := HRO.out.c1; have o2 := HRO.out.c2; have o3 := HRO.out.c3; have o4 := HRO.out.c4; have o5 := HRO.out.c5; have o6 := HRO.out.c6; have o7 := HRO.out.c7
      go_wp2_with (first
        | (go_at_call 8; refine (HA2.out _).mono ?_; rintro e w5 ⟨rfl, hb5⟩; replace HRM := hid (HRM.out.below hb5 HRM.out.lt); replace HRN := hid (HRN.out.below hb5 HRN.out.lt); replace HRO := hid (HRO.out.below hb5 HRO.out.lt); replace HB := hid (HB.out.trans (hb5.mono HB.out.size)); have m50 := HRM.out.c0; have m51 := HRM.out.c1; have m52 := HRM.out.c2; have m53 := HRM.out.c3; have m54 := HRM.out.c4; have m55 := HRM.out.c5; have m56 := HRM.out.c6; have m57 := HRM.out.c7; have n50 := HRN.out.c0; have n51 := HRN.out.c1; have n52 := HRN.out.c2; have n53 := HRN.out.c3; have n54 := HRN.out.c4; have n55 := HRN.out.c5; have n56 := HRN.out.c6; have n57 := HRN.out.c7; have o50 := HRO.out.c0; have o51 := HRO.out.c1; have o52 := HRO.out.c2; have o53 := HRO.out.c3; have o54 := HRO.out.c4; have o55 := HRO.out.c5; have o56 := HRO.out.c6; have o57 := HRO.out.c7; clear hb5 HA2)
        | (go_at_call 8; refine (HA3.out _).mono ?_; rintro e w6 ⟨rfl, hb6⟩; replace HRM := hid (HRM.out.below hb6 HRM.out.lt); replace HRN := hid (HRN.out.below hb6 HRN.out.lt); replace HRO := hid (HRO.out.below hb6 HRO.out.lt); replace HB := hid (HB.out.trans (hb6.mono HB.out.size)); have m60 := HRM.out.c0; have m61 := HRM.out.c1; have m62 := HRM.out.c2; have m63 := HRM.out.c3; have m64 := HRM.out.c4; have m65 := HRM.out.c5; have m66 := HRM.out.c6; have m67 := HRM.out.c7; have n60 := HRN.out.c0; have n61 := HRN.out.c1; have n62 := HRN.out.c2; have n63 := HRN.out.c3; have n64 := HRN.out.c4; have n65 := HRN.out.c5; have n66 := HRN.out.c6; have n67 := HRN.out.c7; have o60 := HRO.out.c0; have o61 := HRO.out.c1; have o62 := HRO.out.c2; have o63 := HRO.out.c3; have o64 := HRO.out.c4; have o65 := HRO.out.c5; have o66 := HRO.out.c6; have o67 := HRO.out.c7; clear hb6 HA3)
        | (go_at_call 8; refine (HA4.out _).mono ?_; rintro e w7 ⟨rfl, hb7⟩; replace HRM := hid (HRM.out.below hb7 HRM.out.lt); replace HRN := hid (HRN.out.below hb7 HRN.out.lt); replace HRO := hid (HRO.out.below hb7 HRO.out.lt); replace HB := hid (HB.out.trans (hb7.mono HB.out.size)); have m70 := HRM.out.c0; have m71 := HRM.out.c1; have m72 := HRM.out.c2; have m73 := HRM.out.c3; have m74 := HRM.out.c4; have m75 := HRM.out.c5; have m76 := HRM.out.c6; have m77 := HRM.out.c7; have n70 := HRN.out.c0; have n71 := HRN.out.c1; have n72 := HRN.out.c2; have n73 := HRN.out.c3; have n74 := HRN.out.c4; have n75 := HRN.out.c5; have n76 := HRN.out.c6; have n77 := HRN.out.c7; have o70 := HRO.out.c0; have o71 := HRO.out.c1; have o72 := HRO.out.c2; have o73 := HRO.out.c3; have o74 := HRO.out.c4; have o75 := HRO.out.c5; have o76 := HRO.out.c6; have o77 := HRO.out.c7; clear hb7 HA4)
        | (go_at_call 9; refine (segAwake_any H _).mono ?_; rintro e w99 ⟨rfl, hb99⟩; replace HB := hid (HB.out.trans (hb99.mono HB.out.size)); clear hb99))
      go_ret
      exact ⟨rfl, HB.out⟩
end Go.Proofs.Ythalnfnfnaknnaa
