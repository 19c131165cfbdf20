/-
  Layer 10: what the laws ask of seg, and awake, SegRays, SegRelates with it.
-/
import Derived.Test.YthalnfnfnaknnaaSShr
import Derived.Test.YthalnfnfnaknnaaSRay
namespace Go.Proofs.Ythalnfnfnaknnaa
open Go.RowKit Go.Sort

/-- seg answers as exact numbers say. -/
structure SegC : Prop where
  rel : ∀ (ax ay bx by' cx cy dx dy : Int) (w : World), Calls Try.prog 8 #[pv ax ay, pv bx by', pv cx cy, pv dx dy] w fun e w' => e = .returned (.int .i64 (relP (near ax, near ay) (near bx, near by') (near cx, near cy) (near dx, near dy))) ∧ Below w.heap.size w w'
  crs : ∀ (ax ay bx by' cx cy dx dy : Int) (w : World), Calls Try.prog 13 #[pv ax ay, pv bx by', pv cx cy, pv dx dy] w fun e w' => e = .returned (.bool (relP (near ax, near ay) (near bx, near by') (near cx, near cy) (near dx, near dy) == 3)) ∧ Below w.heap.size w w'
  shd : ∀ (ax ay bx by' cx cy dx dy : Int) (w : World), Calls Try.prog 10 #[pv ax ay, pv bx by', pv cx cy, pv dx dy] w fun e w' => e = .returned (.tuple #[pv (shdP (near ax, near ay) (near bx, near by') (near cx, near cy) (near dx, near dy)).1.1 (shdP (near ax, near ay) (near bx, near by') (near cx, near cy) (near dx, near dy)).1.2, .bool (shdP (near ax, near ay) (near bx, near by') (near cx, near cy) (near dx, near dy)).2]) ∧ Below w.heap.size w w'
  ray : ∀ (ax ay bx by' px py : Int) (w : World), Calls Try.prog 14 #[pv ax ay, pv bx by', pv px py] w fun e w' => e = .returned (.bool (rayP (near ax, near ay) (near bx, near by') (near px, near py))) ∧ Below w.heap.size w w'

set_option maxHeartbeats 1600000 in
theorem segAwake_any (H : SegC) (w : World) :
    Calls Try.prog 9 #[] w fun e w' => e = .returned (.bool true) ∧ Below w.heap.size w w' := by
  have e1 : relP (near 0, near 0) (near 2, near 2) (near 0, near 2) (near 2, near 0) = 3 := by decide +kernel
  have e2 : relP (near 0, near 0) (near 1, near 0) (near 1, near 0) (near 2, near 0) = 1 := by decide +kernel
  have H1 := hid (fun W => (H.rel 0 0 2 2 0 2 2 0 W).mono (R' := fun e w' => e = .returned (.int .i64 3) ∧ Below W.heap.size W w') fun e w' ⟨h1, h2⟩ => ⟨by rw [h1, e1], h2⟩)
  have H2 := hid (fun W => (H.rel 0 0 1 0 1 0 2 0 W).mono (R' := fun e w' => e = .returned (.int .i64 1) ∧ Below W.heap.size W w') fun e w' ⟨h1, h2⟩ => ⟨by rw [h1, e2], h2⟩)
  have H3 := hid (fun W => (H.crs 0 0 2 2 0 2 2 0 W).mono (R' := fun e w' => e = .returned (.bool true) ∧ Below W.heap.size W w') fun e w' ⟨h1, h2⟩ => ⟨by rw [h1, e1]; rfl, h2⟩)
  clear e1 e2
  obtain ⟨wA, hwA⟩ : ∃ wA, w.alloc (.cells #[.int .i64 0, .int .i64 0] 23) = wA := ⟨_, rfl⟩
  obtain ⟨hA, hBL, hszA⟩ := box1 hwA
  have z0 := hA.c0; have z1 := hA.c1; have z2 := hA.f0; have z3 := hA.f1
  obtain ⟨W1, hW1⟩ : ∃ W1, (wA.setCell ⟨w.heap.size, 0, none⟩ (.int .i64 0)).setCell ⟨w.heap.size, 1, none⟩ (.int .i64 0) = W1 := ⟨_, rfl⟩
  replace hA : Pt W1 w.heap.size 0 0 := by rw [← hW1]; exact hA.set _ _
  have HPA := hid hA
  have HB := hid (show Below w.heap.size w W1 by rw [← hW1]; exact below_set2 hBL (Nat.le_refl _))
  have a0 := hA.c0; have a1 := hA.c1
  clear hA hBL
  go_enter Try.func9, Try.ntmps9
  go_wp2_with (first
    | (go_at_call 8; refine (H1.out _).mono ?_; rintro e w1 ⟨rfl, hb1⟩; replace HPA := hid (HPA.out.below hb1 HPA.out.lt); replace HB := hid (HB.out.trans (hb1.mono HB.out.size)); have c0 := HPA.out.c0; have c1 := HPA.out.c1; clear hb1 H1)
    | (go_at_call 8; refine (H2.out _).mono ?_; rintro e w2 ⟨rfl, hb2⟩; replace HPA := hid (HPA.out.below hb2 HPA.out.lt); replace HB := hid (HB.out.trans (hb2.mono HB.out.size)); have d0 := HPA.out.c0; have d1 := HPA.out.c1; clear hb2 H2)
    | (go_at_call 13; refine (H3.out _).mono ?_; rintro e w3 ⟨rfl, hb3⟩; replace HB := hid (HB.out.trans (hb3.mono HB.out.size)); clear hb3 H3))
  go_ret
  exact ⟨rfl, HB.out⟩


theorem segRays_core (H : SegC) (w : World) (ax ay bx by' px py : Int) :
    Calls Try.prog 6 #[pv ax ay, pv bx by', pv px py] w fun e w' => e = .returned (.bool true) ∧ Below w.heap.size w w' := by
  obtain ⟨wA, hwA⟩ : ∃ wA, w.alloc (.cells #[.int .i64 ax, .int .i64 ay] 23) = wA := ⟨_, rfl⟩
  obtain ⟨wB, hwB⟩ : ∃ wB, wA.alloc (.cells #[.int .i64 bx, .int .i64 by'] 23) = wB := ⟨_, rfl⟩
  obtain ⟨wC, hwC⟩ : ∃ wC, wB.alloc (.cells #[.int .i64 px, .int .i64 py] 23) = wC := ⟨_, rfl⟩
  obtain ⟨hA, hB, hC, hBL, hszC, hszA, hszB⟩ := box3 hwA hwB hwC
  have HBL := hid hBL
  have ka0 := cell_regrown hA.c0; have ka1 := cell_regrown hA.c1; have kb0 := cell_regrown hB.c0; have kb1 := cell_regrown hB.c1; have kc0 := cell_regrown hC.c0; have kc1 := cell_regrown hC.c1
  have c1 := fun d os => H.ray ax ay bx by' px py (grow (redrawn wC d) os)
  have c2 := fun d os => refRay_any ax ay bx by' px py (grow (redrawn wC d) os)
  have c3 := fun d os => H.ray bx by' ax ay px py (grow (redrawn wC d) os)
  rw [rayP_ab] at c3
  have c4 := fun d os => segAwake_any H (grow (redrawn wC d) os)
  generalize rayP (near ax, near ay) (near bx, near by') (near px, near py) = Rr at *
  clear hA hB hC hBL
  go_enter Try.func6, Try.ntmps6
  go_wp2
  refine wp_region_quiet_below (by kernel_rfl) (by kernel_rfl) ?_
  go_big_quiet_step (fail)
  go_big_quiet_step (fail)
  go_big_quiet_step (fail)
  go_big_quiet_step (exact Calls.regrown_of (c1 _ _))
  go_big_quiet_step (fail)
  go_big_quiet_step (fail)
  go_big_quiet_step (fail)
  go_big_quiet_step (exact Calls.regrown_of (c2 _ _))
  go_big_quiet_step (fail)
  go_big_quiet_step (fail)
  go_big_quiet_step (fail)
  go_big_quiet_step (fail)
  go_big_quiet_step (fail)
  go_big_quiet_step (exact Calls.regrown_of (c3 _ _))
  go_big_quiet_step (fail)
  go_big_quiet_step (fail)
  go_big_quiet_step (fail)
  go_big_quiet_step (exact Calls.regrown_of (c1 _ _))
  go_big_quiet_step (fail)
  go_big_quiet_step (fail)
  go_big_quiet_step (fail)
  go_big_quiet_step (exact Calls.regrown_of (c4 _ _))
  go_big_quiet_step (fail)
  go_big_quiet_step (fail)
  refine wpQuiet_nil ?_
  intro W hW'
  obtain ⟨⟨dq, osq⟩, hW⟩ := hW'
  have HB1 := hid (show Below wC.heap.size wC W by rw [hW]; exact below_regrown _ _ _)
  clear hW ka0 ka1 kb0 kb1 kc0 kc1 c1 c2 c3 c4
  go_wp2
  go_ret
  exact ⟨rfl, HBL.out.trans (HB1.out.mono HBL.out.size)⟩



set_option maxHeartbeats 1600000 in
theorem segRelates_core (H : SegC) (w : World) (ax ay bx by' cx cy dx dy : Int) :
    Calls Try.prog 5 #[pv ax ay, pv bx by', pv cx cy, pv dx dy] w fun e w' => e = .returned (.bool true) ∧ Below w.heap.size w w' := by
  obtain ⟨wA, hwA⟩ : ∃ wA, w.alloc (.cells #[.int .i64 ax, .int .i64 ay] 23) = wA := ⟨_, rfl⟩
  obtain ⟨wB, hwB⟩ : ∃ wB, wA.alloc (.cells #[.int .i64 bx, .int .i64 by'] 23) = wB := ⟨_, rfl⟩
  obtain ⟨wC, hwC⟩ : ∃ wC, wB.alloc (.cells #[.int .i64 cx, .int .i64 cy] 23) = wC := ⟨_, rfl⟩
  obtain ⟨wD, hwD⟩ : ∃ wD, wC.alloc (.cells #[.int .i64 dx, .int .i64 dy] 23) = wD := ⟨_, rfl⟩
  obtain ⟨hA, hB, hC, hD, hBL, hszD, hszA, hszB, hszC⟩ := box4 hwA hwB hwC hwD
  have HPA := hid hA; have HPB := hid hB; have HPC := hid hC; have HPD := hid hD
  have HB := hid hBL
  have a0 := hA.c0; have a1 := hA.c1; have b0 := hB.c0; have b1 := hB.c1; have c0 := hC.c0; have c1 := hC.c1; have d0 := hD.c0; have d1 := hD.c1
  have H1 := hid (fun W => H.rel ax ay bx by' cx cy dx dy W)
  have H2 := hid (fun W => H.shd ax ay bx by' cx cy dx dy W)
  have H3 := hid (fun W => refShared_any ax ay bx by' cx cy dx dy W)
  have H4 := hid (fun W => refRelate_any ax ay bx by' cx cy dx dy W)
  have H5 := hid (fun W => H.rel bx by' ax ay cx cy dx dy W)
  have H6 := hid (fun W => H.rel cx cy dx dy ax ay bx by' W)
  have H7 := hid (fun W => H.crs ax ay bx by' cx cy dx dy W)
  rw [relP_ab] at H5
  rw [relP_cd] at H6
  generalize shdP (near ax, near ay) (near bx, near by') (near cx, near cy) (near dx, near dy) = S at *
  generalize relP (near ax, near ay) (near bx, near by') (near cx, near cy) (near dx, near dy) = K at *
  obtain ⟨⟨SX, SY⟩, SB⟩ := S
  dsimp only at H2 H3
  clear hA hB hC hD hBL
  go_enter Try.func5, Try.ntmps5
  go_wp2_with (first
    | (go_at_call 8; refine (H1.out _).mono ?_; rintro e w1 ⟨rfl, hb1⟩; replace HPA := hid (HPA.out.below hb1 HPA.out.lt); replace HPB := hid (HPB.out.below hb1 HPB.out.lt); replace HPC := hid (HPC.out.below hb1 HPC.out.lt); replace HPD := hid (HPD.out.below hb1 HPD.out.lt); replace HB := hid (HB.out.trans (hb1.mono HB.out.size)); have cHPA01 := HPA.out.c0; have cHPA11 := HPA.out.c1; have cHPB01 := HPB.out.c0; have cHPB11 := HPB.out.c1; have cHPC01 := HPC.out.c0; have cHPC11 := HPC.out.c1; have cHPD01 := HPD.out.c0; have cHPD11 := HPD.out.c1; clear hb1 H1)
    | (go_at_call 10; refine (H2.out _).mono ?_; rintro e w2 ⟨rfl, hb2⟩; replace HPA := hid (HPA.out.below hb2 HPA.out.lt); replace HPB := hid (HPB.out.below hb2 HPB.out.lt); replace HPC := hid (HPC.out.below hb2 HPC.out.lt); replace HPD := hid (HPD.out.below hb2 HPD.out.lt); replace HB := hid (HB.out.trans (hb2.mono HB.out.size)); obtain ⟨wN2, hwN2⟩ : ∃ wN, w2.alloc (.cells #[.int .i64 SX, .int .i64 SY] 23) = wN := ⟨_, rfl⟩; have HP := hid (show Pt wN2 w2.heap.size SX SY by rw [← hwN2]; exact Pt.new w2 _ _); obtain ⟨BP, hBP⟩ : ∃ B, w2.heap.size = B := ⟨_, rfl⟩; rw [hBP] at HP; replace HPA := hid (show Pt wN2 _ _ _ by rw [← hwN2]; exact HPA.out.alloc _); replace HPB := hid (show Pt wN2 _ _ _ by rw [← hwN2]; exact HPB.out.alloc _); replace HPC := hid (show Pt wN2 _ _ _ by rw [← hwN2]; exact HPC.out.alloc _); replace HPD := hid (show Pt wN2 _ _ _ by rw [← hwN2]; exact HPD.out.alloc _); replace HB := hid (show Below w.heap.size w wN2 by rw [← hwN2]; exact HB.out.alloc HB.out.size _); have cHPA02 := HPA.out.c0; have cHPA12 := HPA.out.c1; have cHPB02 := HPB.out.c0; have cHPB12 := HPB.out.c1; have cHPC02 := HPC.out.c0; have cHPC12 := HPC.out.c1; have cHPD02 := HPD.out.c0; have cHPD12 := HPD.out.c1; have cHP02 := HP.out.c0; have cHP12 := HP.out.c1; clear hb2 H2)
    | (go_at_call 11; refine (H3.out _).mono ?_; rintro e w3 ⟨rfl, hb3⟩; replace HPA := hid (HPA.out.below hb3 HPA.out.lt); replace HPB := hid (HPB.out.below hb3 HPB.out.lt); replace HPC := hid (HPC.out.below hb3 HPC.out.lt); replace HPD := hid (HPD.out.below hb3 HPD.out.lt); replace HP := hid (HP.out.below hb3 HP.out.lt); replace HB := hid (HB.out.trans (hb3.mono HB.out.size)); obtain ⟨wN3, hwN3⟩ : ∃ wN, w3.alloc (.cells #[.int .i64 SX, .int .i64 SY] 23) = wN := ⟨_, rfl⟩; have HQ := hid (show Pt wN3 w3.heap.size SX SY by rw [← hwN3]; exact Pt.new w3 _ _); obtain ⟨BQ, hBQ⟩ : ∃ B, w3.heap.size = B := ⟨_, rfl⟩; rw [hBQ] at HQ; replace HPA := hid (show Pt wN3 _ _ _ by rw [← hwN3]; exact HPA.out.alloc _); replace HPB := hid (show Pt wN3 _ _ _ by rw [← hwN3]; exact HPB.out.alloc _); replace HPC := hid (show Pt wN3 _ _ _ by rw [← hwN3]; exact HPC.out.alloc _); replace HPD := hid (show Pt wN3 _ _ _ by rw [← hwN3]; exact HPD.out.alloc _); replace HP := hid (show Pt wN3 _ _ _ by rw [← hwN3]; exact HP.out.alloc _); replace HB := hid (show Below w.heap.size w wN3 by rw [← hwN3]; exact HB.out.alloc HB.out.size _); have cHPA03 := HPA.out.c0; have cHPA13 := HPA.out.c1; have cHPB03 := HPB.out.c0; have cHPB13 := HPB.out.c1; have cHPC03 := HPC.out.c0; have cHPC13 := HPC.out.c1; have cHPD03 := HPD.out.c0; have cHPD13 := HPD.out.c1; have cHP03 := HP.out.c0; have cHP13 := HP.out.c1; have cHQ03 := HQ.out.c0; have cHQ13 := HQ.out.c1; clear hb3 H3)
    | (go_at_call 12; refine (H4.out _).mono ?_; rintro e w4 ⟨rfl, hb4⟩; replace HPA := hid (HPA.out.below hb4 HPA.out.lt); replace HPB := hid (HPB.out.below hb4 HPB.out.lt); replace HPC := hid (HPC.out.below hb4 HPC.out.lt); replace HPD := hid (HPD.out.below hb4 HPD.out.lt); replace HP := hid (HP.out.below hb4 HP.out.lt); replace HQ := hid (HQ.out.below hb4 HQ.out.lt); replace HB := hid (HB.out.trans (hb4.mono HB.out.size)); have cHPA04 := HPA.out.c0; have cHPA14 := HPA.out.c1; have cHPB04 := HPB.out.c0; have cHPB14 := HPB.out.c1; have cHPC04 := HPC.out.c0; have cHPC14 := HPC.out.c1; have cHPD04 := HPD.out.c0; have cHPD14 := HPD.out.c1; have cHP04 := HP.out.c0; have cHP14 := HP.out.c1; have cHQ04 := HQ.out.c0; have cHQ14 := HQ.out.c1; clear hb4 H4)
    | (go_at_call 8; refine (H5.out _).mono ?_; rintro e w5 ⟨rfl, hb5⟩; replace HPA := hid (HPA.out.below hb5 HPA.out.lt); replace HPB := hid (HPB.out.below hb5 HPB.out.lt); replace HPC := hid (HPC.out.below hb5 HPC.out.lt); replace HPD := hid (HPD.out.below hb5 HPD.out.lt); replace HP := hid (HP.out.below hb5 HP.out.lt); replace HQ := hid (HQ.out.below hb5 HQ.out.lt); replace HB := hid (HB.out.trans (hb5.mono HB.out.size)); have cHPA05 := HPA.out.c0; have cHPA15 := HPA.out.c1; have cHPB05 := HPB.out.c0; have cHPB15 := HPB.out.c1; have cHPC05 := HPC.out.c0; have cHPC15 := HPC.out.c1; have cHPD05 := HPD.out.c0; have cHPD15 := HPD.out.c1; have cHP05 := HP.out.c0; have cHP15 := HP.out.c1; have cHQ05 := HQ.out.c0; have cHQ15 := HQ.out.c1; clear hb5 H5)
    | (go_at_call 8; refine (H6.out _).mono ?_; rintro e w6 ⟨rfl, hb6⟩; replace HPA := hid (HPA.out.below hb6 HPA.out.lt); replace HPB := hid (HPB.out.below hb6 HPB.out.lt); replace HPC := hid (HPC.out.below hb6 HPC.out.lt); replace HPD := hid (HPD.out.below hb6 HPD.out.lt); replace HP := hid (HP.out.below hb6 HP.out.lt); replace HQ := hid (HQ.out.below hb6 HQ.out.lt); replace HB := hid (HB.out.trans (hb6.mono HB.out.size)); have cHPA06 := HPA.out.c0; have cHPA16 := HPA.out.c1; have cHPB06 := HPB.out.c0; have cHPB16 := HPB.out.c1; have cHPC06 := HPC.out.c0; have cHPC16 := HPC.out.c1; have cHPD06 := HPD.out.c0; have cHPD16 := HPD.out.c1; have cHP06 := HP.out.c0; have cHP16 := HP.out.c1; have cHQ06 := HQ.out.c0; have cHQ16 := HQ.out.c1; clear hb6 H6)
    | (go_at_call 13; refine (H7.out _).mono ?_; rintro e w7 ⟨rfl, hb7⟩; replace HPA := hid (HPA.out.below hb7 HPA.out.lt); replace HPB := hid (HPB.out.below hb7 HPB.out.lt); replace HPC := hid (HPC.out.below hb7 HPC.out.lt); replace HPD := hid (HPD.out.below hb7 HPD.out.lt); replace HP := hid (HP.out.below hb7 HP.out.lt); replace HQ := hid (HQ.out.below hb7 HQ.out.lt); replace HB := hid (HB.out.trans (hb7.mono HB.out.size)); have cHPA07 := HPA.out.c0; have cHPA17 := HPA.out.c1; have cHPB07 := HPB.out.c0; have cHPB17 := HPB.out.c1; have cHPC07 := HPC.out.c0; have cHPC17 := HPC.out.c1; have cHPD07 := HPD.out.c0; have cHPD17 := HPD.out.c1; have cHP07 := HP.out.c0; have cHP17 := HP.out.c1; have cHQ07 := HQ.out.c0; have cHQ17 := HQ.out.c1; clear hb7 H7)
    | (go_at_call 9; refine (segAwake_any H _).mono ?_; rintro e w99 ⟨rfl, hb99⟩; replace HB := hid (HB.out.trans (hb99.mono HB.out.size)); clear hb99))
  go_ret
  exact ⟨rfl, HB.out⟩

end Go.Proofs.Ythalnfnfnaknnaa
