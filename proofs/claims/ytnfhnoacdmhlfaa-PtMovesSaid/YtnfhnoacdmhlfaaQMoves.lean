/-
  PtMoves: the walk.
-/
import Derived.Test.YtnfhnoacdmhlfaaQRow
import Derived.Test.YtnfhnoacdmhlfaaQAwake
namespace Go.Proofs.Ytnfhnoacdmhlfaa
open Go.RowKit Go.Sort

set_option maxHeartbeats 4000000 in
theorem ptMoves_core (w : World) (ax ay bx by' cx cy dx dy x0 y0 x1 y1 x2 y2 X Y A : Int) (h0 : ax.tmod 1000 = x0) (h1 : ay.tmod 1000 = y0) (h2 : bx.tmod 1000 = x1) (h3 : by'.tmod 1000 = y1) (h4 : cx.tmod 1000 = x2) (h5 : cy.tmod 1000 = y2) (hX : dx.tmod 10000 = X) (hY : dy.tmod 10000 = Y)
    (b0 : -1000 < x0 ∧ x0 < 1000) (b1 : -1000 < y0 ∧ y0 < 1000) (b2 : -1000 < x1 ∧ x1 < 1000) (b3 : -1000 < y1 ∧ y1 < 1000) (b4 : -1000 < x2 ∧ x2 < 1000) (b5 : -1000 < y2 ∧ y2 < 1000) (bX : -10000 < X ∧ X < 10000) (bY : -10000 < Y ∧ Y < 10000) (bA : -8796093022208 ≤ A ∧ A ≤ 8796093022208)
    (HA1 : Hid (∀ W, Calls Try.prog 10 #[pv x0 y0, pv x1 y1, pv x2 y2] W fun e w' => e = .returned (.int .i64 A) ∧ Below W.heap.size W w'))
    (HA2 : Hid (∀ W, Calls Try.prog 10 #[pv (x0 + X) (y0 + Y), pv (x1 + X) (y1 + Y), pv (x2 + X) (y2 + Y)] W fun e w' => e = .returned (.int .i64 A) ∧ Below W.heap.size W w'))
    (HA3 : Hid (∀ W, Calls Try.prog 10 #[pv y0 x0, pv y1 x1, pv y2 x2] W fun e w' => e = .returned (.int .i64 (-A)) ∧ Below W.heap.size W w'))
    (HA4 : Hid (∀ W, Calls Try.prog 10 #[pv (-y0) x0, pv (-y1) x1, pv (-y2) x2] W fun e w' => e = .returned (.int .i64 A) ∧ Below W.heap.size W w')) :
    Calls Try.prog 3 #[pv ax ay, pv bx by', pv cx cy, .int .i64 dx, .int .i64 dy] w fun e w' => e = .returned (.bool true) ∧ Below w.heap.size w w' := by
  obtain ⟨wA, hwA⟩ : ∃ wA, w.alloc (.cells #[.int .i64 ax, .int .i64 ay] 23) = wA := ⟨_, rfl⟩
  obtain ⟨wB, hwB⟩ : ∃ wB, wA.alloc (.cells #[.int .i64 bx, .int .i64 by'] 23) = wB := ⟨_, rfl⟩
  obtain ⟨wC, hwC⟩ : ∃ wC, wB.alloc (.cells #[.int .i64 cx, .int .i64 cy] 23) = wC := ⟨_, rfl⟩
  obtain ⟨hA, hB, hC, hBL, hszC, hszA, hszB⟩ := box3 hwA hwB hwC
  have HB := hid hBL
  have ka0 := cell_regrown hA.c0
  have ka1 := cell_regrown hA.c1
  have kb0 := cell_regrown hB.c0
  have kb1 := cell_regrown hB.c1
  have kc0 := cell_regrown hC.c0
  have kc1 := cell_regrown hC.c1
  have ca := fun d os => p_any x0 y0 (grow (redrawn wC d) os)
  have cb := fun d os => p_any x1 y1 (grow (redrawn wC d) os)
  have cc := fun d os => p_any x2 y2 (grow (redrawn wC d) os)
  clear hA hB hC hBL
  go_enter Try.func3, Try.ntmps3
  go_wp2
  refine wp_region_tail (C := fun w' => ∃ p : Regrown, w' = grow (redrawn wC p.d) p.os) 21 (by kernel_rfl) (by kernel_rfl) ⟨⟨wC.drawn + 1, #[]⟩, by rw [grow_empty]; rfl⟩ ?_
  simp only [List.take, List.drop]
  go_big_quiet_step (fail)
  go_big_quiet_step (fail)
  go_big_quiet_step (fail)
  go_big_quiet_step (fail)
  go_big_quiet_step (fail)
  go_big_quiet_step (fail)
  go_big_quiet_step (exact Calls.regrown_of (ca _ _))
  go_big_quiet_step (fail)
  go_big_quiet_step (fail)
  go_big_quiet_step (fail)
  go_big_quiet_step (fail)
  go_big_quiet_step (fail)
  go_big_quiet_step (fail)
  go_big_quiet_step (exact Calls.regrown_of (cb _ _))
  go_big_quiet_step (fail)
  go_big_quiet_step (fail)
  go_big_quiet_step (fail)
  go_big_quiet_step (fail)
  go_big_quiet_step (fail)
  go_big_quiet_step (fail)
  go_big_quiet_step (exact Calls.regrown_of (cc _ _))
  refine wpQuiet_nil ?_
  intro W1 hW'
  obtain ⟨⟨dq, osq⟩, hW⟩ := hW'
  have hb : Below wC.heap.size wC W1 := by rw [hW]; exact below_regrown _ _ _
  clear hW ka0 ka1 kb0 kb1 kc0 kc1 ca cb cc
  replace HB := hid (HB.out.trans (hb.mono HB.out.size))
  clear hb
  obtain ⟨LB, hLB⟩ : ∃ LB, W1.heap.size = LB := ⟨_, rfl⟩
  have hwL : w.heap.size ≤ LB := by rw [← hLB]; exact HB.out.size
  obtain ⟨W2, hW2⟩ : ∃ W2, W1.alloc (.cells #[.int .i64 x0, .int .i64 y0, .int .i64 x1, .int .i64 y1, .int .i64 x2, .int .i64 y2] 23) = W2 := ⟨_, rfl⟩
  have HRL := hid (show Row W2 LB 23 x0 y0 x1 y1 x2 y2 by rw [← hW2, ← hLB]; exact Row.new ..)
  replace HB := hid (show Below w.heap.size w W2 by rw [← hW2]; exact HB.out.alloc HB.out.size _)
  go_wp2
  have k0 := cell_regrown HRL.out.c0
  have k1 := cell_regrown HRL.out.c1
  have k2 := cell_regrown HRL.out.c2
  have k3 := cell_regrown HRL.out.c3
  have k4 := cell_regrown HRL.out.c4
  have k5 := cell_regrown HRL.out.c5
  have ca := fun d os => HA1.out (grow (redrawn W2 d) os)
  refine wp_region_quiet_below (by kernel_rfl) (by kernel_rfl) ?_
  go_big_quiet_step (fail)
  go_big_quiet_step (fail)
  go_big_quiet_step (fail)
  go_big_quiet_step (fail)
  go_big_quiet_step (fail)
  go_big_quiet_step (fail)
  go_big_quiet_step (fail)
  go_big_quiet_step (fail)
  go_big_quiet_step (fail)
  go_big_quiet_step (exact Calls.regrown_of (ca _ _))
  go_big_quiet_step (fail)
  refine wpQuiet_nil ?_
  intro W3 hW'
  obtain ⟨⟨dq, osq⟩, hW⟩ := hW'
  have hb : Below W2.heap.size W2 W3 := by rw [hW]; exact below_regrown _ _ _
  clear hW k0 k1 k2 k3 k4 k5 ca HA1
  replace HRL := hid (HRL.out.below hb HRL.out.lt)
  replace HB := hid (HB.out.trans (hb.mono HB.out.size))
  clear hb
  obtain ⟨MB, hMB⟩ : ∃ MB, W3.heap.size = MB := ⟨_, rfl⟩
  have hLM : LB < MB := by rw [← hMB]; exact HRL.out.lt
  obtain ⟨wM, hwM⟩ : ∃ wM, W3.alloc (.cells #[.int .i64 0, .int .i64 0, .int .i64 0, .int .i64 0, .int .i64 0, .int .i64 0] 27) = wM := ⟨_, rfl⟩
  obtain ⟨wN, hwN⟩ : ∃ wN, wM.alloc (.cells #[.int .i64 0, .int .i64 0, .int .i64 0, .int .i64 0, .int .i64 0, .int .i64 0] 27) = wN := ⟨_, rfl⟩
  obtain ⟨wO, hwO⟩ : ∃ wO, wN.alloc (.cells #[.int .i64 0, .int .i64 0, .int .i64 0, .int .i64 0, .int .i64 0, .int .i64 0] 27) = wO := ⟨_, rfl⟩
  have hszM : wM.heap.size = MB + 1 := by rw [← hwM]; simp [hMB]
  have hszN : wN.heap.size = MB + 2 := by rw [← hwN]; simp [hszM]
  have HRM := hid (show Row wO MB 27 0 0 0 0 0 0 by rw [← hwO, ← hwN, ← hwM, ← hMB]; exact ((Row.new ..).alloc _).alloc _)
  have HRN := hid (show Row wO (MB + 1) 27 0 0 0 0 0 0 by rw [← hwO, ← hwN, ← hszM]; exact (Row.new ..).alloc _)
  have HRO := hid (show Row wO (MB + 2) 27 0 0 0 0 0 0 by rw [← hwO, ← hszN]; exact Row.new ..)
  replace HRL := hid (show Row wO _ _ _ _ _ _ _ _ by rw [← hwO, ← hwN, ← hwM]; exact ((HRL.out.alloc _).alloc _).alloc _)
  replace HB := hid (show Below w.heap.size w wO by rw [← hwO, ← hwN, ← hwM]; exact (((HB.out.alloc HB.out.size _).alloc (by simp; omega) _).alloc (by simp; omega) _))
  go_wp2
  go_loopw [18] (fun t wr => (t = .int .i64 0 ∧ Below w.heap.size w wr ∧ Row wr LB 23 x0 y0 x1 y1 x2 y2 ∧ Row wr MB 27 0 0 0 0 0 0 ∧ Row wr (MB + 1) 27 0 0 0 0 0 0 ∧ Row wr (MB + 2) 27 0 0 0 0 0 0) ∨ (t = .int .i64 1 ∧ Below w.heap.size w wr ∧ Row wr LB 23 x0 y0 x1 y1 x2 y2 ∧ Row wr MB 27 (x0 + X) (y0 + Y) 0 0 0 0 ∧ Row wr (MB + 1) 27 y0 x0 0 0 0 0 ∧ Row wr (MB + 2) 27 (-y0) x0 0 0 0 0) ∨ (t = .int .i64 2 ∧ Below w.heap.size w wr ∧ Row wr LB 23 x0 y0 x1 y1 x2 y2 ∧ Row wr MB 27 (x0 + X) (y0 + Y) (x1 + X) (y1 + Y) 0 0 ∧ Row wr (MB + 1) 27 y0 x0 y1 x1 0 0 ∧ Row wr (MB + 2) 27 (-y0) x0 (-y1) x1 0 0) ∨ (t = .int .i64 3 ∧ Below w.heap.size w wr ∧ Row wr LB 23 x0 y0 x1 y1 x2 y2 ∧ Row wr MB 27 (x0 + X) (y0 + Y) (x1 + X) (y1 + Y) (x2 + X) (y2 + Y) ∧ Row wr (MB + 1) 27 y0 x0 y1 x1 y2 x2 ∧ Row wr (MB + 2) 27 (-y0) x0 (-y1) x1 (-y2) x2)) (fun t _ => 3 - (intOf t).toNat)
  case atStart => exact .inl ⟨rfl, HB.out, HRL.out, HRM.out, HRN.out, HRO.out⟩
  case round =>
    clear HB HRL HRM HRN HRO
    rcases hrel with hk | hk | hk | hk
    · obtain ⟨rfl, hbr, hL, hM, hN, hO⟩ := hk
      have HB := hid hbr
      have HRL := hid hL
      have HRM := hid hM
      have HRN := hid hN
      have HRO := hid hO
      clear hbr hL hM hN hO
      go_wp2
      have k0 := cell_regrown HRL.out.c0
      have k1 := cell_regrown HRL.out.c1
      have k2 := cell_regrown HRL.out.c2
      have k3 := cell_regrown HRL.out.c3
      have k4 := cell_regrown HRL.out.c4
      have k5 := cell_regrown HRL.out.c5
      have cp := fun d os => p_any (x0 + X) (y0 + Y) (grow (redrawn wr d) os)
      refine wp_region_tail (C := fun w' => ∃ p : Regrown, w' = grow (redrawn wr p.d) p.os) 17 (by kernel_rfl) (by kernel_rfl) ⟨⟨wr.drawn + 1, #[]⟩, by rw [grow_empty]; rfl⟩ ?_
      simp only [List.take, List.drop]
      go_big_quiet_step (fail)
      go_big_quiet_step (fail)
      go_big_quiet_step (fail)
      go_big_quiet_step (fail)
      go_big_quiet_step (fail)
      go_big_quiet_step (fail)
      go_big_quiet_step (fail)
      go_big_quiet_step (fail)
      go_big_quiet_step (fail)
      go_big_quiet_step (fail)
      go_big_quiet_step (fail)
      go_big_quiet_step (fail)
      go_big_quiet_step (fail)
      go_big_quiet_step (fail)
      go_big_quiet_step (fail)
      go_big_quiet_step (exact Calls.regrown_of (cp _ _))
      go_big_quiet_step (fail)
      refine wpQuiet_nil ?_
      intro W8 hW'
      obtain ⟨⟨dq, osq⟩, hW⟩ := hW'
      have hb : Below wr.heap.size wr W8 := by rw [hW]; exact below_regrown _ _ _
      clear hW k0 k1 k2 k3 k4 k5 cp
      replace HRL := hid (HRL.out.below hb HRL.out.lt)
      replace HRM := hid (HRM.out.below hb HRM.out.lt)
      replace HRN := hid (HRN.out.below hb HRN.out.lt)
      replace HRO := hid (HRO.out.below hb HRO.out.lt)
      replace HB := hid (HB.out.trans (hb.mono HB.out.size))
      clear hb
      have d0 := HRM.out.c0; have d1 := HRM.out.c1; have d2 := HRM.out.c2; have d3 := HRM.out.c3; have d4 := HRM.out.c4; have d5 := HRM.out.c5
      have g0 := HRM.out.f0; have g1 := HRM.out.f1; have g2 := HRM.out.f2; have g3 := HRM.out.f3; have g4 := HRM.out.f4; have g5 := HRM.out.f5
      obtain ⟨V8, hV8⟩ : ∃ V, (W8.setCell ⟨MB, 0, none⟩ (.int .i64 (x0 + X))).setCell ⟨MB, 1, none⟩ (.int .i64 (y0 + Y)) = V := ⟨_, rfl⟩
      replace HRL := hid (show Row V8 _ _ _ _ _ _ _ _ by rw [← hV8]; exact HRL.out.far (by omega) _ _)
      replace HRM := hid (show Row V8 _ _ _ _ _ _ _ _ by rw [← hV8]; exact HRM.out.set0 _ _)
      replace HRN := hid (show Row V8 _ _ _ _ _ _ _ _ by rw [← hV8]; exact HRN.out.far (by omega) _ _)
      replace HRO := hid (show Row V8 _ _ _ _ _ _ _ _ by rw [← hV8]; exact HRO.out.far (by omega) _ _)
      replace HB := hid (show Below w.heap.size w V8 by rw [← hV8]; exact below_setAny HB.out (by omega) _ _)
      go_wp2
      clear d0 g0 d1 g1 d2 g2 d3 g3 d4 g4 d5 g5
      have k0 := cell_regrown HRL.out.c0
      have k1 := cell_regrown HRL.out.c1
      have k2 := cell_regrown HRL.out.c2
      have k3 := cell_regrown HRL.out.c3
      have k4 := cell_regrown HRL.out.c4
      have k5 := cell_regrown HRL.out.c5
      have cp := fun d os => p_any y0 x0 (grow (redrawn V8 d) os)
      refine wp_region_tail (C := fun w' => ∃ p : Regrown, w' = grow (redrawn V8 p.d) p.os) 13 (by kernel_rfl) (by kernel_rfl) ⟨⟨V8.drawn + 1, #[]⟩, by rw [grow_empty]; rfl⟩ ?_
      simp only [List.take, List.drop]
      go_big_quiet_step (fail)
      go_big_quiet_step (fail)
      go_big_quiet_step (fail)
      go_big_quiet_step (fail)
      go_big_quiet_step (fail)
      go_big_quiet_step (fail)
      go_big_quiet_step (fail)
      go_big_quiet_step (fail)
      go_big_quiet_step (fail)
      go_big_quiet_step (fail)
      go_big_quiet_step (fail)
      go_big_quiet_step (exact Calls.regrown_of (cp _ _))
      go_big_quiet_step (fail)
      refine wpQuiet_nil ?_
      intro W9 hW'
      obtain ⟨⟨dq, osq⟩, hW⟩ := hW'
      have hb : Below V8.heap.size V8 W9 := by rw [hW]; exact below_regrown _ _ _
      clear hW k0 k1 k2 k3 k4 k5 cp
      replace HRL := hid (HRL.out.below hb HRL.out.lt)
      replace HRM := hid (HRM.out.below hb HRM.out.lt)
      replace HRN := hid (HRN.out.below hb HRN.out.lt)
      replace HRO := hid (HRO.out.below hb HRO.out.lt)
      replace HB := hid (HB.out.trans (hb.mono HB.out.size))
      clear hb
      have d0 := HRN.out.c0; have d1 := HRN.out.c1; have d2 := HRN.out.c2; have d3 := HRN.out.c3; have d4 := HRN.out.c4; have d5 := HRN.out.c5
      have g0 := HRN.out.f0; have g1 := HRN.out.f1; have g2 := HRN.out.f2; have g3 := HRN.out.f3; have g4 := HRN.out.f4; have g5 := HRN.out.f5
      obtain ⟨V9, hV9⟩ : ∃ V, (W9.setCell ⟨(MB + 1), 0, none⟩ (.int .i64 y0)).setCell ⟨(MB + 1), 1, none⟩ (.int .i64 x0) = V := ⟨_, rfl⟩
      replace HRL := hid (show Row V9 _ _ _ _ _ _ _ _ by rw [← hV9]; exact HRL.out.far (by omega) _ _)
      replace HRM := hid (show Row V9 _ _ _ _ _ _ _ _ by rw [← hV9]; exact HRM.out.far (by omega) _ _)
      replace HRN := hid (show Row V9 _ _ _ _ _ _ _ _ by rw [← hV9]; exact HRN.out.set0 _ _)
      replace HRO := hid (show Row V9 _ _ _ _ _ _ _ _ by rw [← hV9]; exact HRO.out.far (by omega) _ _)
      replace HB := hid (show Below w.heap.size w V9 by rw [← hV9]; exact below_setAny HB.out (by omega) _ _)
      go_wp2
      clear d0 g0 d1 g1 d2 g2 d3 g3 d4 g4 d5 g5
      have k0 := cell_regrown HRL.out.c0
      have k1 := cell_regrown HRL.out.c1
      have k2 := cell_regrown HRL.out.c2
      have k3 := cell_regrown HRL.out.c3
      have k4 := cell_regrown HRL.out.c4
      have k5 := cell_regrown HRL.out.c5
      have cp := fun d os => p_any (-y0) x0 (grow (redrawn V9 d) os)
      refine wp_region_tail (C := fun w' => ∃ p : Regrown, w' = grow (redrawn V9 p.d) p.os) 14 (by kernel_rfl) (by kernel_rfl) ⟨⟨V9.drawn + 1, #[]⟩, by rw [grow_empty]; rfl⟩ ?_
      simp only [List.take, List.drop]
      go_big_quiet_step (fail)
      go_big_quiet_step (fail)
      go_big_quiet_step (fail)
      go_big_quiet_step (fail)
      go_big_quiet_step (fail)
      go_big_quiet_step (fail)
      go_big_quiet_step (fail)
      go_big_quiet_step (fail)
      go_big_quiet_step (fail)
      go_big_quiet_step (fail)
      go_big_quiet_step (fail)
      go_big_quiet_step (fail)
      go_big_quiet_step (exact Calls.regrown_of (cp _ _))
      go_big_quiet_step (fail)
      refine wpQuiet_nil ?_
      intro W10 hW'
      obtain ⟨⟨dq, osq⟩, hW⟩ := hW'
      have hb : Below V9.heap.size V9 W10 := by rw [hW]; exact below_regrown _ _ _
      clear hW k0 k1 k2 k3 k4 k5 cp
      replace HRL := hid (HRL.out.below hb HRL.out.lt)
      replace HRM := hid (HRM.out.below hb HRM.out.lt)
      replace HRN := hid (HRN.out.below hb HRN.out.lt)
      replace HRO := hid (HRO.out.below hb HRO.out.lt)
      replace HB := hid (HB.out.trans (hb.mono HB.out.size))
      clear hb
      have d0 := HRO.out.c0; have d1 := HRO.out.c1; have d2 := HRO.out.c2; have d3 := HRO.out.c3; have d4 := HRO.out.c4; have d5 := HRO.out.c5
      have g0 := HRO.out.f0; have g1 := HRO.out.f1; have g2 := HRO.out.f2; have g3 := HRO.out.f3; have g4 := HRO.out.f4; have g5 := HRO.out.f5
      obtain ⟨V10, hV10⟩ : ∃ V, (W10.setCell ⟨(MB + 2), 0, none⟩ (.int .i64 (-y0))).setCell ⟨(MB + 2), 1, none⟩ (.int .i64 x0) = V := ⟨_, rfl⟩
      replace HRL := hid (show Row V10 _ _ _ _ _ _ _ _ by rw [← hV10]; exact HRL.out.far (by omega) _ _)
      replace HRM := hid (show Row V10 _ _ _ _ _ _ _ _ by rw [← hV10]; exact HRM.out.far (by omega) _ _)
      replace HRN := hid (show Row V10 _ _ _ _ _ _ _ _ by rw [← hV10]; exact HRN.out.far (by omega) _ _)
      replace HRO := hid (show Row V10 _ _ _ _ _ _ _ _ by rw [← hV10]; exact HRO.out.set0 _ _)
      replace HB := hid (show Below w.heap.size w V10 by rw [← hV10]; exact below_setAny HB.out (by omega) _ _)
      go_wp2
      clear d0 g0 d1 g1 d2 g2 d3 g3 d4 g4 d5 g5
      go_roundw
      case rel =>
        refine .inr (.inl ⟨by go_num, HB.out, HRL.out, HRM.out, HRN.out, HRO.out⟩)
      case measure => simp [intOf]
    · obtain ⟨rfl, hbr, hL, hM, hN, hO⟩ := hk
      have HB := hid hbr
      have HRL := hid hL
      have HRM := hid hM
      have HRN := hid hN
      have HRO := hid hO
      clear hbr hL hM hN hO
      go_wp2
      have k0 := cell_regrown HRL.out.c0
      have k1 := cell_regrown HRL.out.c1
      have k2 := cell_regrown HRL.out.c2
      have k3 := cell_regrown HRL.out.c3
      have k4 := cell_regrown HRL.out.c4
      have k5 := cell_regrown HRL.out.c5
      have cp := fun d os => p_any (x1 + X) (y1 + Y) (grow (redrawn wr d) os)
      refine wp_region_tail (C := fun w' => ∃ p : Regrown, w' = grow (redrawn wr p.d) p.os) 17 (by kernel_rfl) (by kernel_rfl) ⟨⟨wr.drawn + 1, #[]⟩, by rw [grow_empty]; rfl⟩ ?_
      simp only [List.take, List.drop]
      go_big_quiet_step (fail)
      go_big_quiet_step (fail)
      go_big_quiet_step (fail)
      go_big_quiet_step (fail)
      go_big_quiet_step (fail)
      go_big_quiet_step (fail)
      go_big_quiet_step (fail)
      go_big_quiet_step (fail)
      go_big_quiet_step (fail)
      go_big_quiet_step (fail)
      go_big_quiet_step (fail)
      go_big_quiet_step (fail)
      go_big_quiet_step (fail)
      go_big_quiet_step (fail)
      go_big_quiet_step (fail)
      go_big_quiet_step (exact Calls.regrown_of (cp _ _))
      go_big_quiet_step (fail)
      refine wpQuiet_nil ?_
      intro W8 hW'
      obtain ⟨⟨dq, osq⟩, hW⟩ := hW'
      have hb : Below wr.heap.size wr W8 := by rw [hW]; exact below_regrown _ _ _
      clear hW k0 k1 k2 k3 k4 k5 cp
      replace HRL := hid (HRL.out.below hb HRL.out.lt)
      replace HRM := hid (HRM.out.below hb HRM.out.lt)
      replace HRN := hid (HRN.out.below hb HRN.out.lt)
      replace HRO := hid (HRO.out.below hb HRO.out.lt)
      replace HB := hid (HB.out.trans (hb.mono HB.out.size))
      clear hb
      have d0 := HRM.out.c0; have d1 := HRM.out.c1; have d2 := HRM.out.c2; have d3 := HRM.out.c3; have d4 := HRM.out.c4; have d5 := HRM.out.c5
      have g0 := HRM.out.f0; have g1 := HRM.out.f1; have g2 := HRM.out.f2; have g3 := HRM.out.f3; have g4 := HRM.out.f4; have g5 := HRM.out.f5
      obtain ⟨V8, hV8⟩ : ∃ V, (W8.setCell ⟨MB, 2, none⟩ (.int .i64 (x1 + X))).setCell ⟨MB, 3, none⟩ (.int .i64 (y1 + Y)) = V := ⟨_, rfl⟩
      replace HRL := hid (show Row V8 _ _ _ _ _ _ _ _ by rw [← hV8]; exact HRL.out.far (by omega) _ _)
      replace HRM := hid (show Row V8 _ _ _ _ _ _ _ _ by rw [← hV8]; exact HRM.out.set1 _ _)
      replace HRN := hid (show Row V8 _ _ _ _ _ _ _ _ by rw [← hV8]; exact HRN.out.far (by omega) _ _)
      replace HRO := hid (show Row V8 _ _ _ _ _ _ _ _ by rw [← hV8]; exact HRO.out.far (by omega) _ _)
      replace HB := hid (show Below w.heap.size w V8 by rw [← hV8]; exact below_setAny HB.out (by omega) _ _)
      go_wp2
      clear d0 g0 d1 g1 d2 g2 d3 g3 d4 g4 d5 g5
      have k0 := cell_regrown HRL.out.c0
      have k1 := cell_regrown HRL.out.c1
      have k2 := cell_regrown HRL.out.c2
      have k3 := cell_regrown HRL.out.c3
      have k4 := cell_regrown HRL.out.c4
      have k5 := cell_regrown HRL.out.c5
      have cp := fun d os => p_any y1 x1 (grow (redrawn V8 d) os)
      refine wp_region_tail (C := fun w' => ∃ p : Regrown, w' = grow (redrawn V8 p.d) p.os) 13 (by kernel_rfl) (by kernel_rfl) ⟨⟨V8.drawn + 1, #[]⟩, by rw [grow_empty]; rfl⟩ ?_
      simp only [List.take, List.drop]
      go_big_quiet_step (fail)
      go_big_quiet_step (fail)
      go_big_quiet_step (fail)
      go_big_quiet_step (fail)
      go_big_quiet_step (fail)
      go_big_quiet_step (fail)
      go_big_quiet_step (fail)
      go_big_quiet_step (fail)
      go_big_quiet_step (fail)
      go_big_quiet_step (fail)
      go_big_quiet_step (fail)
      go_big_quiet_step (exact Calls.regrown_of (cp _ _))
      go_big_quiet_step (fail)
      refine wpQuiet_nil ?_
      intro W9 hW'
      obtain ⟨⟨dq, osq⟩, hW⟩ := hW'
      have hb : Below V8.heap.size V8 W9 := by rw [hW]; exact below_regrown _ _ _
      clear hW k0 k1 k2 k3 k4 k5 cp
      replace HRL := hid (HRL.out.below hb HRL.out.lt)
      replace HRM := hid (HRM.out.below hb HRM.out.lt)
      replace HRN := hid (HRN.out.below hb HRN.out.lt)
      replace HRO := hid (HRO.out.below hb HRO.out.lt)
      replace HB := hid (HB.out.trans (hb.mono HB.out.size))
      clear hb
      have d0 := HRN.out.c0; have d1 := HRN.out.c1; have d2 := HRN.out.c2; have d3 := HRN.out.c3; have d4 := HRN.out.c4; have d5 := HRN.out.c5
      have g0 := HRN.out.f0; have g1 := HRN.out.f1; have g2 := HRN.out.f2; have g3 := HRN.out.f3; have g4 := HRN.out.f4; have g5 := HRN.out.f5
      obtain ⟨V9, hV9⟩ : ∃ V, (W9.setCell ⟨(MB + 1), 2, none⟩ (.int .i64 y1)).setCell ⟨(MB + 1), 3, none⟩ (.int .i64 x1) = V := ⟨_, rfl⟩
      replace HRL := hid (show Row V9 _ _ _ _ _ _ _ _ by rw [← hV9]; exact HRL.out.far (by omega) _ _)
      replace HRM := hid (show Row V9 _ _ _ _ _ _ _ _ by rw [← hV9]; exact HRM.out.far (by omega) _ _)
      replace HRN := hid (show Row V9 _ _ _ _ _ _ _ _ by rw [← hV9]; exact HRN.out.set1 _ _)
      replace HRO := hid (show Row V9 _ _ _ _ _ _ _ _ by rw [← hV9]; exact HRO.out.far (by omega) _ _)
      replace HB := hid (show Below w.heap.size w V9 by rw [← hV9]; exact below_setAny HB.out (by omega) _ _)
      go_wp2
      clear d0 g0 d1 g1 d2 g2 d3 g3 d4 g4 d5 g5
      have k0 := cell_regrown HRL.out.c0
      have k1 := cell_regrown HRL.out.c1
      have k2 := cell_regrown HRL.out.c2
      have k3 := cell_regrown HRL.out.c3
      have k4 := cell_regrown HRL.out.c4
      have k5 := cell_regrown HRL.out.c5
      have cp := fun d os => p_any (-y1) x1 (grow (redrawn V9 d) os)
      refine wp_region_tail (C := fun w' => ∃ p : Regrown, w' = grow (redrawn V9 p.d) p.os) 14 (by kernel_rfl) (by kernel_rfl) ⟨⟨V9.drawn + 1, #[]⟩, by rw [grow_empty]; rfl⟩ ?_
      simp only [List.take, List.drop]
      go_big_quiet_step (fail)
      go_big_quiet_step (fail)
      go_big_quiet_step (fail)
      go_big_quiet_step (fail)
      go_big_quiet_step (fail)
      go_big_quiet_step (fail)
      go_big_quiet_step (fail)
      go_big_quiet_step (fail)
      go_big_quiet_step (fail)
      go_big_quiet_step (fail)
      go_big_quiet_step (fail)
      go_big_quiet_step (fail)
      go_big_quiet_step (exact Calls.regrown_of (cp _ _))
      go_big_quiet_step (fail)
      refine wpQuiet_nil ?_
      intro W10 hW'
      obtain ⟨⟨dq, osq⟩, hW⟩ := hW'
      have hb : Below V9.heap.size V9 W10 := by rw [hW]; exact below_regrown _ _ _
      clear hW k0 k1 k2 k3 k4 k5 cp
      replace HRL := hid (HRL.out.below hb HRL.out.lt)
      replace HRM := hid (HRM.out.below hb HRM.out.lt)
      replace HRN := hid (HRN.out.below hb HRN.out.lt)
      replace HRO := hid (HRO.out.below hb HRO.out.lt)
      replace HB := hid (HB.out.trans (hb.mono HB.out.size))
      clear hb
      have d0 := HRO.out.c0; have d1 := HRO.out.c1; have d2 := HRO.out.c2; have d3 := HRO.out.c3; have d4 := HRO.out.c4; have d5 := HRO.out.c5
      have g0 := HRO.out.f0; have g1 := HRO.out.f1; have g2 := HRO.out.f2; have g3 := HRO.out.f3; have g4 := HRO.out.f4; have g5 := HRO.out.f5
      obtain ⟨V10, hV10⟩ : ∃ V, (W10.setCell ⟨(MB + 2), 2, none⟩ (.int .i64 (-y1))).setCell ⟨(MB + 2), 3, none⟩ (.int .i64 x1) = V := ⟨_, rfl⟩
      replace HRL := hid (show Row V10 _ _ _ _ _ _ _ _ by rw [← hV10]; exact HRL.out.far (by omega) _ _)
      replace HRM := hid (show Row V10 _ _ _ _ _ _ _ _ by rw [← hV10]; exact HRM.out.far (by omega) _ _)
      replace HRN := hid (show Row V10 _ _ _ _ _ _ _ _ by rw [← hV10]; exact HRN.out.far (by omega) _ _)
      replace HRO := hid (show Row V10 _ _ _ _ _ _ _ _ by rw [← hV10]; exact HRO.out.set1 _ _)
      replace HB := hid (show Below w.heap.size w V10 by rw [← hV10]; exact below_setAny HB.out (by omega) _ _)
      go_wp2
      clear d0 g0 d1 g1 d2 g2 d3 g3 d4 g4 d5 g5
      go_roundw
      case rel =>
        refine .inr (.inr (.inl ⟨by go_num, HB.out, HRL.out, HRM.out, HRN.out, HRO.out⟩))
      case measure => simp [intOf]
    · obtain ⟨rfl, hbr, hL, hM, hN, hO⟩ := hk
      have HB := hid hbr
      have HRL := hid hL
      have HRM := hid hM
      have HRN := hid hN
      have HRO := hid hO
      clear hbr hL hM hN hO
      go_wp2
      have k0 := cell_regrown HRL.out.c0
      have k1 := cell_regrown HRL.out.c1
      have k2 := cell_regrown HRL.out.c2
      have k3 := cell_regrown HRL.out.c3
      have k4 := cell_regrown HRL.out.c4
      have k5 := cell_regrown HRL.out.c5
      have cp := fun d os => p_any (x2 + X) (y2 + Y) (grow (redrawn wr d) os)
      refine wp_region_tail (C := fun w' => ∃ p : Regrown, w' = grow (redrawn wr p.d) p.os) 17 (by kernel_rfl) (by kernel_rfl) ⟨⟨wr.drawn + 1, #[]⟩, by rw [grow_empty]; rfl⟩ ?_
      simp only [List.take, List.drop]
      go_big_quiet_step (fail)
      go_big_quiet_step (fail)
      go_big_quiet_step (fail)
      go_big_quiet_step (fail)
      go_big_quiet_step (fail)
      go_big_quiet_step (fail)
      go_big_quiet_step (fail)
      go_big_quiet_step (fail)
      go_big_quiet_step (fail)
      go_big_quiet_step (fail)
      go_big_quiet_step (fail)
      go_big_quiet_step (fail)
      go_big_quiet_step (fail)
      go_big_quiet_step (fail)
      go_big_quiet_step (fail)
      go_big_quiet_step (exact Calls.regrown_of (cp _ _))
      go_big_quiet_step (fail)
      refine wpQuiet_nil ?_
      intro W8 hW'
      obtain ⟨⟨dq, osq⟩, hW⟩ := hW'
      have hb : Below wr.heap.size wr W8 := by rw [hW]; exact below_regrown _ _ _
      clear hW k0 k1 k2 k3 k4 k5 cp
      replace HRL := hid (HRL.out.below hb HRL.out.lt)
      replace HRM := hid (HRM.out.below hb HRM.out.lt)
      replace HRN := hid (HRN.out.below hb HRN.out.lt)
      replace HRO := hid (HRO.out.below hb HRO.out.lt)
      replace HB := hid (HB.out.trans (hb.mono HB.out.size))
      clear hb
      have d0 := HRM.out.c0; have d1 := HRM.out.c1; have d2 := HRM.out.c2; have d3 := HRM.out.c3; have d4 := HRM.out.c4; have d5 := HRM.out.c5
      have g0 := HRM.out.f0; have g1 := HRM.out.f1; have g2 := HRM.out.f2; have g3 := HRM.out.f3; have g4 := HRM.out.f4; have g5 := HRM.out.f5
      obtain ⟨V8, hV8⟩ : ∃ V, (W8.setCell ⟨MB, 4, none⟩ (.int .i64 (x2 + X))).setCell ⟨MB, 5, none⟩ (.int .i64 (y2 + Y)) = V := ⟨_, rfl⟩
      replace HRL := hid (show Row V8 _ _ _ _ _ _ _ _ by rw [← hV8]; exact HRL.out.far (by omega) _ _)
      replace HRM := hid (show Row V8 _ _ _ _ _ _ _ _ by rw [← hV8]; exact HRM.out.set2 _ _)
      replace HRN := hid (show Row V8 _ _ _ _ _ _ _ _ by rw [← hV8]; exact HRN.out.far (by omega) _ _)
      replace HRO := hid (show Row V8 _ _ _ _ _ _ _ _ by rw [← hV8]; exact HRO.out.far (by omega) _ _)
      replace HB := hid (show Below w.heap.size w V8 by rw [← hV8]; exact below_setAny HB.out (by omega) _ _)
      go_wp2
      clear d0 g0 d1 g1 d2 g2 d3 g3 d4 g4 d5 g5
      have k0 := cell_regrown HRL.out.c0
      have k1 := cell_regrown HRL.out.c1
      have k2 := cell_regrown HRL.out.c2
      have k3 := cell_regrown HRL.out.c3
      have k4 := cell_regrown HRL.out.c4
      have k5 := cell_regrown HRL.out.c5
      have cp := fun d os => p_any y2 x2 (grow (redrawn V8 d) os)
      refine wp_region_tail (C := fun w' => ∃ p : Regrown, w' = grow (redrawn V8 p.d) p.os) 13 (by kernel_rfl) (by kernel_rfl) ⟨⟨V8.drawn + 1, #[]⟩, by rw [grow_empty]; rfl⟩ ?_
      simp only [List.take, List.drop]
      go_big_quiet_step (fail)
      go_big_quiet_step (fail)
      go_big_quiet_step (fail)
      go_big_quiet_step (fail)
      go_big_quiet_step (fail)
      go_big_quiet_step (fail)
      go_big_quiet_step (fail)
      go_big_quiet_step (fail)
      go_big_quiet_step (fail)
      go_big_quiet_step (fail)
      go_big_quiet_step (fail)
      go_big_quiet_step (exact Calls.regrown_of (cp _ _))
      go_big_quiet_step (fail)
      refine wpQuiet_nil ?_
      intro W9 hW'
      obtain ⟨⟨dq, osq⟩, hW⟩ := hW'
      have hb : Below V8.heap.size V8 W9 := by rw [hW]; exact below_regrown _ _ _
      clear hW k0 k1 k2 k3 k4 k5 cp
      replace HRL := hid (HRL.out.below hb HRL.out.lt)
      replace HRM := hid (HRM.out.below hb HRM.out.lt)
      replace HRN := hid (HRN.out.below hb HRN.out.lt)
      replace HRO := hid (HRO.out.below hb HRO.out.lt)
      replace HB := hid (HB.out.trans (hb.mono HB.out.size))
      clear hb
      have d0 := HRN.out.c0; have d1 := HRN.out.c1; have d2 := HRN.out.c2; have d3 := HRN.out.c3; have d4 := HRN.out.c4; have d5 := HRN.out.c5
      have g0 := HRN.out.f0; have g1 := HRN.out.f1; have g2 := HRN.out.f2; have g3 := HRN.out.f3; have g4 := HRN.out.f4; have g5 := HRN.out.f5
      obtain ⟨V9, hV9⟩ : ∃ V, (W9.setCell ⟨(MB + 1), 4, none⟩ (.int .i64 y2)).setCell ⟨(MB + 1), 5, none⟩ (.int .i64 x2) = V := ⟨_, rfl⟩
      replace HRL := hid (show Row V9 _ _ _ _ _ _ _ _ by rw [← hV9]; exact HRL.out.far (by omega) _ _)
      replace HRM := hid (show Row V9 _ _ _ _ _ _ _ _ by rw [← hV9]; exact HRM.out.far (by omega) _ _)
      replace HRN := hid (show Row V9 _ _ _ _ _ _ _ _ by rw [← hV9]; exact HRN.out.set2 _ _)
      replace HRO := hid (show Row V9 _ _ _ _ _ _ _ _ by rw [← hV9]; exact HRO.out.far (by omega) _ _)
      replace HB := hid (show Below w.heap.size w V9 by rw [← hV9]; exact below_setAny HB.out (by omega) _ _)
      go_wp2
      clear d0 g0 d1 g1 d2 g2 d3 g3 d4 g4 d5 g5
      have k0 := cell_regrown HRL.out.c0
      have k1 := cell_regrown HRL.out.c1
      have k2 := cell_regrown HRL.out.c2
      have k3 := cell_regrown HRL.out.c3
      have k4 := cell_regrown HRL.out.c4
      have k5 := cell_regrown HRL.out.c5
      have cp := fun d os => p_any (-y2) x2 (grow (redrawn V9 d) os)
      refine wp_region_tail (C := fun w' => ∃ p : Regrown, w' = grow (redrawn V9 p.d) p.os) 14 (by kernel_rfl) (by kernel_rfl) ⟨⟨V9.drawn + 1, #[]⟩, by rw [grow_empty]; rfl⟩ ?_
      simp only [List.take, List.drop]
      go_big_quiet_step (fail)
      go_big_quiet_step (fail)
      go_big_quiet_step (fail)
      go_big_quiet_step (fail)
      go_big_quiet_step (fail)
      go_big_quiet_step (fail)
      go_big_quiet_step (fail)
      go_big_quiet_step (fail)
      go_big_quiet_step (fail)
      go_big_quiet_step (fail)
      go_big_quiet_step (fail)
      go_big_quiet_step (fail)
      go_big_quiet_step (exact Calls.regrown_of (cp _ _))
      go_big_quiet_step (fail)
      refine wpQuiet_nil ?_
      intro W10 hW'
      obtain ⟨⟨dq, osq⟩, hW⟩ := hW'
      have hb : Below V9.heap.size V9 W10 := by rw [hW]; exact below_regrown _ _ _
      clear hW k0 k1 k2 k3 k4 k5 cp
      replace HRL := hid (HRL.out.below hb HRL.out.lt)
      replace HRM := hid (HRM.out.below hb HRM.out.lt)
      replace HRN := hid (HRN.out.below hb HRN.out.lt)
      replace HRO := hid (HRO.out.below hb HRO.out.lt)
      replace HB := hid (HB.out.trans (hb.mono HB.out.size))
      clear hb
      have d0 := HRO.out.c0; have d1 := HRO.out.c1; have d2 := HRO.out.c2; have d3 := HRO.out.c3; have d4 := HRO.out.c4; have d5 := HRO.out.c5
      have g0 := HRO.out.f0; have g1 := HRO.out.f1; have g2 := HRO.out.f2; have g3 := HRO.out.f3; have g4 := HRO.out.f4; have g5 := HRO.out.f5
      obtain ⟨V10, hV10⟩ : ∃ V, (W10.setCell ⟨(MB + 2), 4, none⟩ (.int .i64 (-y2))).setCell ⟨(MB + 2), 5, none⟩ (.int .i64 x2) = V := ⟨_, rfl⟩
      replace HRL := hid (show Row V10 _ _ _ _ _ _ _ _ by rw [← hV10]; exact HRL.out.far (by omega) _ _)
      replace HRM := hid (show Row V10 _ _ _ _ _ _ _ _ by rw [← hV10]; exact HRM.out.far (by omega) _ _)
      replace HRN := hid (show Row V10 _ _ _ _ _ _ _ _ by rw [← hV10]; exact HRN.out.far (by omega) _ _)
      replace HRO := hid (show Row V10 _ _ _ _ _ _ _ _ by rw [← hV10]; exact HRO.out.set2 _ _)
      replace HB := hid (show Below w.heap.size w V10 by rw [← hV10]; exact below_setAny HB.out (by omega) _ _)
      go_wp2
      clear d0 g0 d1 g1 d2 g2 d3 g3 d4 g4 d5 g5
      go_roundw
      case rel =>
        refine .inr (.inr (.inr (⟨by go_num, HB.out, HRL.out, HRM.out, HRN.out, HRO.out⟩)))
      case measure => simp [intOf]
    · obtain ⟨rfl, hbr, hL, hM, hN, hO⟩ := hk
      have HB := hid hbr
      have HRM := hid hM
      have HRN := hid hN
      have HRO := hid hO
      have m0 := hM.c0; have m1 := hM.c1; have m2 := hM.c2; have m3 := hM.c3; have m4 := hM.c4; have m5 := hM.c5
      have n0 := hN.c0; have n1 := hN.c1; have n2 := hN.c2; have n3 := hN.c3; have n4 := hN.c4; have n5 := hN.c5
      have o0 := hO.c0; have o1 := hO.c1; have o2 := hO.c2; have o3 := hO.c3; have o4 := hO.c4; have o5 := hO.c5
      clear hbr hL hM hN hO
      go_wp2_with (first
        | (go_at_call 10; refine (HA2.out _).mono ?_; rintro e w5 ⟨rfl, hb5⟩; replace HRM := hid (HRM.out.below hb5 HRM.out.lt); replace HRN := hid (HRN.out.below hb5 HRN.out.lt); replace HRO := hid (HRO.out.below hb5 HRO.out.lt); replace HB := hid (HB.out.trans (hb5.mono HB.out.size)); have m50 := HRM.out.c0; have m51 := HRM.out.c1; have m52 := HRM.out.c2; have m53 := HRM.out.c3; have m54 := HRM.out.c4; have m55 := HRM.out.c5; have n50 := HRN.out.c0; have n51 := HRN.out.c1; have n52 := HRN.out.c2; have n53 := HRN.out.c3; have n54 := HRN.out.c4; have n55 := HRN.out.c5; have o50 := HRO.out.c0; have o51 := HRO.out.c1; have o52 := HRO.out.c2; have o53 := HRO.out.c3; have o54 := HRO.out.c4; have o55 := HRO.out.c5; clear hb5 HA2)
        | (go_at_call 10; refine (HA3.out _).mono ?_; rintro e w6 ⟨rfl, hb6⟩; replace HRM := hid (HRM.out.below hb6 HRM.out.lt); replace HRN := hid (HRN.out.below hb6 HRN.out.lt); replace HRO := hid (HRO.out.below hb6 HRO.out.lt); replace HB := hid (HB.out.trans (hb6.mono HB.out.size)); have m60 := HRM.out.c0; have m61 := HRM.out.c1; have m62 := HRM.out.c2; have m63 := HRM.out.c3; have m64 := HRM.out.c4; have m65 := HRM.out.c5; have n60 := HRN.out.c0; have n61 := HRN.out.c1; have n62 := HRN.out.c2; have n63 := HRN.out.c3; have n64 := HRN.out.c4; have n65 := HRN.out.c5; have o60 := HRO.out.c0; have o61 := HRO.out.c1; have o62 := HRO.out.c2; have o63 := HRO.out.c3; have o64 := HRO.out.c4; have o65 := HRO.out.c5; clear hb6 HA3)
        | (go_at_call 10; refine (HA4.out _).mono ?_; rintro e w7 ⟨rfl, hb7⟩; replace HRM := hid (HRM.out.below hb7 HRM.out.lt); replace HRN := hid (HRN.out.below hb7 HRN.out.lt); replace HRO := hid (HRO.out.below hb7 HRO.out.lt); replace HB := hid (HB.out.trans (hb7.mono HB.out.size)); have m70 := HRM.out.c0; have m71 := HRM.out.c1; have m72 := HRM.out.c2; have m73 := HRM.out.c3; have m74 := HRM.out.c4; have m75 := HRM.out.c5; have n70 := HRN.out.c0; have n71 := HRN.out.c1; have n72 := HRN.out.c2; have n73 := HRN.out.c3; have n74 := HRN.out.c4; have n75 := HRN.out.c5; have o70 := HRO.out.c0; have o71 := HRO.out.c1; have o72 := HRO.out.c2; have o73 := HRO.out.c3; have o74 := HRO.out.c4; have o75 := HRO.out.c5; clear hb7 HA4)
        | (go_at_call 11; refine (awake_any _).mono ?_; rintro e w99 ⟨rfl, hb99⟩; replace HB := hid (HB.out.trans (hb99.mono HB.out.size)); clear hb99))
      go_ret
      exact ⟨rfl, HB.out⟩
end Go.Proofs.Ytnfhnoacdmhlfaa
