/-
  PtMidst: the walk.
-/
import Derived.Test.YtnfhnoacdmhlfaaQAwake
import Derived.Test.YtnfhnoacdmhlfaaQFree
namespace Go.Proofs.Ytnfhnoacdmhlfaa
open Go.RowKit Go.Sort

set_option maxHeartbeats 1000000 in
theorem ptMidst_zero (w : World) (px py dx dy PX PY X Y : Int) (hPX : px.tmod 1000 = PX) (hPY : py.tmod 1000 = PY) (hX : dx.tmod 1000 = X) (hY : dy.tmod 1000 = Y)
    (bPX : -1000 < PX ∧ PX < 1000) (bPY : -1000 < PY ∧ PY < 1000) (bX : -1000 < X ∧ X < 1000) (bY : -1000 < Y ∧ Y < 1000)
    (hz1 : (X == 0) = true) (hz2 : (Y == 0) = true)
    (HO1 : Hid (∀ W, Calls Try.prog 13 #[pv PX PY, pv (PX + 2 * X) (PY + 2 * Y), pv (PX + X) (PY + Y)] W fun e w' => e = .returned (.bool true) ∧ Below W.heap.size W w'))
    (HW1 : Hid (∀ W, Calls Try.prog 14 #[pv PX PY, pv (PX + 2 * X) (PY + 2 * Y), pv (PX + X) (PY + Y)] W fun e w' => e = .returned (.bool false) ∧ Below W.heap.size W w'))
    (HO2 : Hid (∀ W, Calls Try.prog 13 #[pv PX PY, pv (PX + 2 * X) (PY + 2 * Y), pv (PX + 3 * X) (PY + 3 * Y)] W fun e w' => e = .returned (.bool true) ∧ Below W.heap.size W w')) :
    Calls Try.prog 6 #[pv px py, .int .i64 dx, .int .i64 dy] w fun e w' => e = .returned (.bool true) ∧ Below w.heap.size w w' := by
  obtain ⟨wA, hwA⟩ : ∃ wA, w.alloc (.cells #[.int .i64 px, .int .i64 py] 23) = wA := ⟨_, rfl⟩
  obtain ⟨hA, hBL, hszA⟩ := box1 hwA
  have HPA := hid hA
  have HB := hid hBL
  have a0 := hA.c0; have a1 := hA.c1
  have H1 := hid (fun W => p_any PX PY W)
  clear hA hBL
  go_enter Try.func6, Try.ntmps6
  go_wp2_with (go_at_call 9; refine (H1.out _).mono ?_; rintro e w1 ⟨rfl, hb1⟩; replace HPA := hid (HPA.out.below hb1 HPA.out.lt); have e0 := HPA.out.c0; have e1 := HPA.out.c1; have e2 := HPA.out.f0; have e3 := HPA.out.f1; obtain ⟨W1, hW1⟩ : ∃ W1, (w1.setCell ⟨w.heap.size, 0, none⟩ (.int .i64 PX)).setCell ⟨w.heap.size, 1, none⟩ (.int .i64 PY) = W1 := ⟨_, rfl⟩; replace HPA := hid (show Pt W1 w.heap.size PX PY by rw [← hW1]; exact HPA.out.set _ _); replace HB := hid (show Below w.heap.size w W1 by rw [← hW1]; exact below_set2 (HB.out.trans (hb1.mono HB.out.size)) (Nat.le_refl _)); clear hb1 H1)
  have hlt := HPA.out.lt
  refine wp_region_free (Z := .cells #[.int .i64 0, .int .i64 0] 23) 31 34 (by kernel_rfl) (by kernel_rfl) ?_ ?_
  · intro o ho
    simp only [List.take, List.drop, List.mem_cons, List.not_mem_nil, or_false] at ho
    rcases ho with rfl | rfl | rfl <;> exact ⟨rfl, fun ρ w => exec_newP rfl ρ w⟩
  apply Exists.intro
  apply And.intro
  · intro wq hbq
    have hA := HPA.out.below hbq hlt
    have k0 := cell_regrown hA.c0
    have k1 := cell_regrown hA.c1
    have cm := fun d os => p_any (PX + X) (PY + Y) (grow (redrawn wq d) os)
    have cb := fun d os => p_any (PX + 2 * X) (PY + 2 * Y) (grow (redrawn wq d) os)
    have cc := fun d os => p_any (PX + 3 * X) (PY + 3 * Y) (grow (redrawn wq d) os)
    clear hA hbq
    simp only [List.take]
    go_big_quiet_step (fail)
    go_big_quiet_step (fail)
    go_big_quiet_step (fail)
    go_big_quiet_step (fail)
    go_big_quiet_step (fail)
    go_big_quiet_step (fail)
    go_big_quiet_step (fail)
    go_big_quiet_step (fail)
    go_big_quiet_step (exact Calls.regrown_of (cm _ _))
    go_big_quiet_step (fail)
    go_big_quiet_step (fail)
    go_big_quiet_step (fail)
    go_big_quiet_step (fail)
    go_big_quiet_step (fail)
    go_big_quiet_step (fail)
    go_big_quiet_step (fail)
    go_big_quiet_step (fail)
    go_big_quiet_step (fail)
    go_big_quiet_step (fail)
    go_big_quiet_step (exact Calls.regrown_of (cb _ _))
    go_big_quiet_step (fail)
    go_big_quiet_step (fail)
    go_big_quiet_step (fail)
    go_big_quiet_step (fail)
    go_big_quiet_step (fail)
    go_big_quiet_step (fail)
    go_big_quiet_step (fail)
    go_big_quiet_step (fail)
    go_big_quiet_step (fail)
    go_big_quiet_step (fail)
    go_big_quiet_step (exact Calls.regrown_of (cc _ _))
    exact wpQuiet_nil rfl
  · intro bs W hlen hb hbs hnd
    obtain ⟨b1, b2, b3, rfl⟩ : ∃ b1 b2 b3, bs = [b1, b2, b3] := by
      match bs, hlen with
      | [b1, b2, b3], _ => exact ⟨b1, b2, b3, rfl⟩
    simp only [List.mem_cons, List.not_mem_nil, or_false, forall_eq_or_imp, forall_eq] at hbs
    simp only [List.nodup_cons, List.mem_cons, List.not_mem_nil, or_false, not_or, not_false_eq_true, List.nodup_nil, and_true] at hnd
    obtain ⟨⟨l1, p1⟩, ⟨l2, p2⟩, l3, p3⟩ := hbs
    obtain ⟨⟨n12, n13⟩, n23⟩ := hnd
    replace p1 : Pt W b1 0 0 := p1
    replace p2 : Pt W b2 0 0 := p2
    replace p3 : Pt W b3 0 0 := p3
    replace HPA := hid (HPA.out.below hb hlt)
    have hge : w.heap.size ≤ W1.heap.size := HB.out.size
    replace HB := hid (HB.out.trans (hb.mono HB.out.size))
    have d10 := p1.c0; have d11 := p1.c1; have f10 := p1.f0; have f11 := p1.f1
    obtain ⟨V1, hV1⟩ : ∃ V1, (W.setCell ⟨b1, 0, none⟩ (.int .i64 (PX + X))).setCell ⟨b1, 1, none⟩ (.int .i64 (PY + Y)) = V1 := ⟨_, rfl⟩
    replace HPA := hid (show Pt V1 _ _ _ by rw [← hV1]; exact HPA.out.far (by omega) _ _)
    have HPM := hid (show Pt V1 b1 (PX + X) (PY + Y) by rw [← hV1]; exact p1.set _ _)
    replace p2 : Pt V1 b2 0 0 := by rw [← hV1]; exact p2.far (fun h => n12 h.symm) _ _
    replace p3 : Pt V1 b3 0 0 := by rw [← hV1]; exact p3.far (fun h => n13 h.symm) _ _
    replace HB := hid (show Below w.heap.size w V1 by rw [← hV1]; exact below_set2 HB.out (by omega))
    have d20 := p2.c0; have d21 := p2.c1; have f20 := p2.f0; have f21 := p2.f1
    obtain ⟨V2, hV2⟩ : ∃ V2, (V1.setCell ⟨b2, 0, none⟩ (.int .i64 (PX + 2 * X))).setCell ⟨b2, 1, none⟩ (.int .i64 (PY + 2 * Y)) = V2 := ⟨_, rfl⟩
    replace HPA := hid (show Pt V2 _ _ _ by rw [← hV2]; exact HPA.out.far (by omega) _ _)
    replace HPM := hid (show Pt V2 _ _ _ by rw [← hV2]; exact HPM.out.far n12 _ _)
    have HPQ := hid (show Pt V2 b2 (PX + 2 * X) (PY + 2 * Y) by rw [← hV2]; exact p2.set _ _)
    replace p3 : Pt V2 b3 0 0 := by rw [← hV2]; exact p3.far (fun h => n23 h.symm) _ _
    replace HB := hid (show Below w.heap.size w V2 by rw [← hV2]; exact below_set2 HB.out (by omega))
    have d30 := p3.c0; have d31 := p3.c1; have f30 := p3.f0; have f31 := p3.f1
    obtain ⟨V3, hV3⟩ : ∃ V3, (V2.setCell ⟨b3, 0, none⟩ (.int .i64 (PX + 3 * X))).setCell ⟨b3, 1, none⟩ (.int .i64 (PY + 3 * Y)) = V3 := ⟨_, rfl⟩
    replace HPA := hid (show Pt V3 _ _ _ by rw [← hV3]; exact HPA.out.far (by omega) _ _)
    replace HPM := hid (show Pt V3 _ _ _ by rw [← hV3]; exact HPM.out.far n13 _ _)
    replace HPQ := hid (show Pt V3 _ _ _ by rw [← hV3]; exact HPQ.out.far n23 _ _)
    have HPC := hid (show Pt V3 b3 (PX + 3 * X) (PY + 3 * Y) by rw [← hV3]; exact p3.set _ _)
    replace HB := hid (show Below w.heap.size w V3 by rw [← hV3]; exact below_set2 HB.out (by omega))
    have cA0 := HPA.out.c0; have cA1 := HPA.out.c1; have cM0 := HPM.out.c0; have cM1 := HPM.out.c1; have cQ0 := HPQ.out.c0; have cQ1 := HPQ.out.c1; have cC0 := HPC.out.c0; have cC1 := HPC.out.c1
    clear p1 p2 p3 hb hlen l1 l2 l3 n12 n13 n23 hge hlt
    simp only [List.take, List.drop, puts]
    go_wp2_with (first
      | (go_at_call 13; refine (HO1.out _).mono ?_; rintro e w5 ⟨rfl, hb5⟩; replace HPA := hid (HPA.out.below hb5 HPA.out.lt); replace HPM := hid (HPM.out.below hb5 HPM.out.lt); replace HPQ := hid (HPQ.out.below hb5 HPQ.out.lt); replace HPC := hid (HPC.out.below hb5 HPC.out.lt); replace HB := hid (HB.out.trans (hb5.mono HB.out.size)); have cA05 := HPA.out.c0; have cA15 := HPA.out.c1; have cM05 := HPM.out.c0; have cM15 := HPM.out.c1; have cQ05 := HPQ.out.c0; have cQ15 := HPQ.out.c1; have cC05 := HPC.out.c0; have cC15 := HPC.out.c1; clear hb5 HO1)
      | (go_at_call 14; refine (HW1.out _).mono ?_; rintro e w6 ⟨rfl, hb6⟩; replace HPA := hid (HPA.out.below hb6 HPA.out.lt); replace HPM := hid (HPM.out.below hb6 HPM.out.lt); replace HPQ := hid (HPQ.out.below hb6 HPQ.out.lt); replace HPC := hid (HPC.out.below hb6 HPC.out.lt); replace HB := hid (HB.out.trans (hb6.mono HB.out.size)); have cA06 := HPA.out.c0; have cA16 := HPA.out.c1; have cM06 := HPM.out.c0; have cM16 := HPM.out.c1; have cQ06 := HPQ.out.c0; have cQ16 := HPQ.out.c1; have cC06 := HPC.out.c0; have cC16 := HPC.out.c1; clear hb6 HW1)
      | (go_at_call 13; refine (HO2.out _).mono ?_; rintro e w7 ⟨rfl, hb7⟩; replace HPA := hid (HPA.out.below hb7 HPA.out.lt); replace HPM := hid (HPM.out.below hb7 HPM.out.lt); replace HPQ := hid (HPQ.out.below hb7 HPQ.out.lt); replace HPC := hid (HPC.out.below hb7 HPC.out.lt); replace HB := hid (HB.out.trans (hb7.mono HB.out.size)); have cA07 := HPA.out.c0; have cA17 := HPA.out.c1; have cM07 := HPM.out.c0; have cM17 := HPM.out.c1; have cQ07 := HPQ.out.c0; have cQ17 := HPQ.out.c1; have cC07 := HPC.out.c0; have cC17 := HPC.out.c1; clear hb7 HO2)
      | (go_at_call 11; refine (awake_any _).mono ?_; rintro e w99 ⟨rfl, hb99⟩; replace HB := hid (HB.out.trans (hb99.mono HB.out.size)); clear hb99))
    go_ret
    exact ⟨rfl, HB.out⟩

set_option maxHeartbeats 1000000 in
theorem ptMidst_some (w : World) (px py dx dy PX PY X Y : Int) (hPX : px.tmod 1000 = PX) (hPY : py.tmod 1000 = PY) (hX : dx.tmod 1000 = X) (hY : dy.tmod 1000 = Y)
    (bPX : -1000 < PX ∧ PX < 1000) (bPY : -1000 < PY ∧ PY < 1000) (bX : -1000 < X ∧ X < 1000) (bY : -1000 < Y ∧ Y < 1000)
    (hz : ((X == 0) = false) ∨ ((X == 0) = true ∧ (Y == 0) = false))
    (HO1 : Hid (∀ W, Calls Try.prog 13 #[pv PX PY, pv (PX + 2 * X) (PY + 2 * Y), pv (PX + X) (PY + Y)] W fun e w' => e = .returned (.bool true) ∧ Below W.heap.size W w'))
    (HW1 : Hid (∀ W, Calls Try.prog 14 #[pv PX PY, pv (PX + 2 * X) (PY + 2 * Y), pv (PX + X) (PY + Y)] W fun e w' => e = .returned (.bool true) ∧ Below W.heap.size W w'))
    (HO2 : Hid (∀ W, Calls Try.prog 13 #[pv PX PY, pv (PX + 2 * X) (PY + 2 * Y), pv (PX + 2 * X) (PY + 2 * Y)] W fun e w' => e = .returned (.bool true) ∧ Below W.heap.size W w'))
    (HW2 : Hid (∀ W, Calls Try.prog 14 #[pv PX PY, pv (PX + 2 * X) (PY + 2 * Y), pv (PX + 2 * X) (PY + 2 * Y)] W fun e w' => e = .returned (.bool false) ∧ Below W.heap.size W w'))
    (HO3 : Hid (∀ W, Calls Try.prog 13 #[pv PX PY, pv (PX + 2 * X) (PY + 2 * Y), pv (PX + 3 * X) (PY + 3 * Y)] W fun e w' => e = .returned (.bool false) ∧ Below W.heap.size W w'))
    (HT : Hid (∀ W, Calls Try.prog 15 #[pv PX PY, pv (PX + 2 * X) (PY + 2 * Y), pv (PX + 3 * X) (PY + 3 * Y)] W fun e w' => e = .returned (.int .i64 0) ∧ Below W.heap.size W w')) :
    Calls Try.prog 6 #[pv px py, .int .i64 dx, .int .i64 dy] w fun e w' => e = .returned (.bool true) ∧ Below w.heap.size w w' := by
  obtain ⟨wA, hwA⟩ : ∃ wA, w.alloc (.cells #[.int .i64 px, .int .i64 py] 23) = wA := ⟨_, rfl⟩
  obtain ⟨hA, hBL, hszA⟩ := box1 hwA
  have HPA := hid hA
  have HB := hid hBL
  have a0 := hA.c0; have a1 := hA.c1
  have H1 := hid (fun W => p_any PX PY W)
  clear hA hBL
  go_enter Try.func6, Try.ntmps6
  go_wp2_with (go_at_call 9; refine (H1.out _).mono ?_; rintro e w1 ⟨rfl, hb1⟩; replace HPA := hid (HPA.out.below hb1 HPA.out.lt); have e0 := HPA.out.c0; have e1 := HPA.out.c1; have e2 := HPA.out.f0; have e3 := HPA.out.f1; obtain ⟨W1, hW1⟩ : ∃ W1, (w1.setCell ⟨w.heap.size, 0, none⟩ (.int .i64 PX)).setCell ⟨w.heap.size, 1, none⟩ (.int .i64 PY) = W1 := ⟨_, rfl⟩; replace HPA := hid (show Pt W1 w.heap.size PX PY by rw [← hW1]; exact HPA.out.set _ _); replace HB := hid (show Below w.heap.size w W1 by rw [← hW1]; exact below_set2 (HB.out.trans (hb1.mono HB.out.size)) (Nat.le_refl _)); clear hb1 H1)
  have hlt := HPA.out.lt
  refine wp_region_free (Z := .cells #[.int .i64 0, .int .i64 0] 23) 31 34 (by kernel_rfl) (by kernel_rfl) ?_ ?_
  · intro o ho
    simp only [List.take, List.drop, List.mem_cons, List.not_mem_nil, or_false] at ho
    rcases ho with rfl | rfl | rfl <;> exact ⟨rfl, fun ρ w => exec_newP rfl ρ w⟩
  apply Exists.intro
  apply And.intro
  · intro wq hbq
    have hA := HPA.out.below hbq hlt
    have k0 := cell_regrown hA.c0
    have k1 := cell_regrown hA.c1
    have cm := fun d os => p_any (PX + X) (PY + Y) (grow (redrawn wq d) os)
    have cb := fun d os => p_any (PX + 2 * X) (PY + 2 * Y) (grow (redrawn wq d) os)
    have cc := fun d os => p_any (PX + 3 * X) (PY + 3 * Y) (grow (redrawn wq d) os)
    clear hA hbq
    simp only [List.take]
    go_big_quiet_step (fail)
    go_big_quiet_step (fail)
    go_big_quiet_step (fail)
    go_big_quiet_step (fail)
    go_big_quiet_step (fail)
    go_big_quiet_step (fail)
    go_big_quiet_step (fail)
    go_big_quiet_step (fail)
    go_big_quiet_step (exact Calls.regrown_of (cm _ _))
    go_big_quiet_step (fail)
    go_big_quiet_step (fail)
    go_big_quiet_step (fail)
    go_big_quiet_step (fail)
    go_big_quiet_step (fail)
    go_big_quiet_step (fail)
    go_big_quiet_step (fail)
    go_big_quiet_step (fail)
    go_big_quiet_step (fail)
    go_big_quiet_step (fail)
    go_big_quiet_step (exact Calls.regrown_of (cb _ _))
    go_big_quiet_step (fail)
    go_big_quiet_step (fail)
    go_big_quiet_step (fail)
    go_big_quiet_step (fail)
    go_big_quiet_step (fail)
    go_big_quiet_step (fail)
    go_big_quiet_step (fail)
    go_big_quiet_step (fail)
    go_big_quiet_step (fail)
    go_big_quiet_step (fail)
    go_big_quiet_step (exact Calls.regrown_of (cc _ _))
    exact wpQuiet_nil rfl
  · intro bs W hlen hb hbs hnd
    obtain ⟨b1, b2, b3, rfl⟩ : ∃ b1 b2 b3, bs = [b1, b2, b3] := by
      match bs, hlen with
      | [b1, b2, b3], _ => exact ⟨b1, b2, b3, rfl⟩
    simp only [List.mem_cons, List.not_mem_nil, or_false, forall_eq_or_imp, forall_eq] at hbs
    simp only [List.nodup_cons, List.mem_cons, List.not_mem_nil, or_false, not_or, not_false_eq_true, List.nodup_nil, and_true] at hnd
    obtain ⟨⟨l1, p1⟩, ⟨l2, p2⟩, l3, p3⟩ := hbs
    obtain ⟨⟨n12, n13⟩, n23⟩ := hnd
    replace p1 : Pt W b1 0 0 := p1
    replace p2 : Pt W b2 0 0 := p2
    replace p3 : Pt W b3 0 0 := p3
    replace HPA := hid (HPA.out.below hb hlt)
    have hge : w.heap.size ≤ W1.heap.size := HB.out.size
    replace HB := hid (HB.out.trans (hb.mono HB.out.size))
    have d10 := p1.c0; have d11 := p1.c1; have f10 := p1.f0; have f11 := p1.f1
    obtain ⟨V1, hV1⟩ : ∃ V1, (W.setCell ⟨b1, 0, none⟩ (.int .i64 (PX + X))).setCell ⟨b1, 1, none⟩ (.int .i64 (PY + Y)) = V1 := ⟨_, rfl⟩
    replace HPA := hid (show Pt V1 _ _ _ by rw [← hV1]; exact HPA.out.far (by omega) _ _)
    have HPM := hid (show Pt V1 b1 (PX + X) (PY + Y) by rw [← hV1]; exact p1.set _ _)
    replace p2 : Pt V1 b2 0 0 := by rw [← hV1]; exact p2.far (fun h => n12 h.symm) _ _
    replace p3 : Pt V1 b3 0 0 := by rw [← hV1]; exact p3.far (fun h => n13 h.symm) _ _
    replace HB := hid (show Below w.heap.size w V1 by rw [← hV1]; exact below_set2 HB.out (by omega))
    have d20 := p2.c0; have d21 := p2.c1; have f20 := p2.f0; have f21 := p2.f1
    obtain ⟨V2, hV2⟩ : ∃ V2, (V1.setCell ⟨b2, 0, none⟩ (.int .i64 (PX + 2 * X))).setCell ⟨b2, 1, none⟩ (.int .i64 (PY + 2 * Y)) = V2 := ⟨_, rfl⟩
    replace HPA := hid (show Pt V2 _ _ _ by rw [← hV2]; exact HPA.out.far (by omega) _ _)
    replace HPM := hid (show Pt V2 _ _ _ by rw [← hV2]; exact HPM.out.far n12 _ _)
    have HPQ := hid (show Pt V2 b2 (PX + 2 * X) (PY + 2 * Y) by rw [← hV2]; exact p2.set _ _)
    replace p3 : Pt V2 b3 0 0 := by rw [← hV2]; exact p3.far (fun h => n23 h.symm) _ _
    replace HB := hid (show Below w.heap.size w V2 by rw [← hV2]; exact below_set2 HB.out (by omega))
    have d30 := p3.c0; have d31 := p3.c1; have f30 := p3.f0; have f31 := p3.f1
    obtain ⟨V3, hV3⟩ : ∃ V3, (V2.setCell ⟨b3, 0, none⟩ (.int .i64 (PX + 3 * X))).setCell ⟨b3, 1, none⟩ (.int .i64 (PY + 3 * Y)) = V3 := ⟨_, rfl⟩
    replace HPA := hid (show Pt V3 _ _ _ by rw [← hV3]; exact HPA.out.far (by omega) _ _)
    replace HPM := hid (show Pt V3 _ _ _ by rw [← hV3]; exact HPM.out.far n13 _ _)
    replace HPQ := hid (show Pt V3 _ _ _ by rw [← hV3]; exact HPQ.out.far n23 _ _)
    have HPC := hid (show Pt V3 b3 (PX + 3 * X) (PY + 3 * Y) by rw [← hV3]; exact p3.set _ _)
    replace HB := hid (show Below w.heap.size w V3 by rw [← hV3]; exact below_set2 HB.out (by omega))
    have cA0 := HPA.out.c0; have cA1 := HPA.out.c1; have cM0 := HPM.out.c0; have cM1 := HPM.out.c1; have cQ0 := HPQ.out.c0; have cQ1 := HPQ.out.c1; have cC0 := HPC.out.c0; have cC1 := HPC.out.c1
    clear p1 p2 p3 hb hlen l1 l2 l3 n12 n13 n23 hge hlt
    simp only [List.take, List.drop, puts]
    rcases hz with hz1 | ⟨hz1, hz2⟩
    · go_wp2_with (first
        | (go_at_call 13; refine (HO1.out _).mono ?_; rintro e w5 ⟨rfl, hb5⟩; replace HPA := hid (HPA.out.below hb5 HPA.out.lt); replace HPM := hid (HPM.out.below hb5 HPM.out.lt); replace HPQ := hid (HPQ.out.below hb5 HPQ.out.lt); replace HPC := hid (HPC.out.below hb5 HPC.out.lt); replace HB := hid (HB.out.trans (hb5.mono HB.out.size)); have cA05 := HPA.out.c0; have cA15 := HPA.out.c1; have cM05 := HPM.out.c0; have cM15 := HPM.out.c1; have cQ05 := HPQ.out.c0; have cQ15 := HPQ.out.c1; have cC05 := HPC.out.c0; have cC15 := HPC.out.c1; clear hb5 HO1)
        | (go_at_call 14; refine (HW1.out _).mono ?_; rintro e w6 ⟨rfl, hb6⟩; replace HPA := hid (HPA.out.below hb6 HPA.out.lt); replace HPM := hid (HPM.out.below hb6 HPM.out.lt); replace HPQ := hid (HPQ.out.below hb6 HPQ.out.lt); replace HPC := hid (HPC.out.below hb6 HPC.out.lt); replace HB := hid (HB.out.trans (hb6.mono HB.out.size)); have cA06 := HPA.out.c0; have cA16 := HPA.out.c1; have cM06 := HPM.out.c0; have cM16 := HPM.out.c1; have cQ06 := HPQ.out.c0; have cQ16 := HPQ.out.c1; have cC06 := HPC.out.c0; have cC16 := HPC.out.c1; clear hb6 HW1)
        | (go_at_call 13; refine (HO2.out _).mono ?_; rintro e w7 ⟨rfl, hb7⟩; replace HPA := hid (HPA.out.below hb7 HPA.out.lt); replace HPM := hid (HPM.out.below hb7 HPM.out.lt); replace HPQ := hid (HPQ.out.below hb7 HPQ.out.lt); replace HPC := hid (HPC.out.below hb7 HPC.out.lt); replace HB := hid (HB.out.trans (hb7.mono HB.out.size)); have cA07 := HPA.out.c0; have cA17 := HPA.out.c1; have cM07 := HPM.out.c0; have cM17 := HPM.out.c1; have cQ07 := HPQ.out.c0; have cQ17 := HPQ.out.c1; have cC07 := HPC.out.c0; have cC17 := HPC.out.c1; clear hb7 HO2)
        | (go_at_call 14; refine (HW2.out _).mono ?_; rintro e w8 ⟨rfl, hb8⟩; replace HPA := hid (HPA.out.below hb8 HPA.out.lt); replace HPM := hid (HPM.out.below hb8 HPM.out.lt); replace HPQ := hid (HPQ.out.below hb8 HPQ.out.lt); replace HPC := hid (HPC.out.below hb8 HPC.out.lt); replace HB := hid (HB.out.trans (hb8.mono HB.out.size)); have cA08 := HPA.out.c0; have cA18 := HPA.out.c1; have cM08 := HPM.out.c0; have cM18 := HPM.out.c1; have cQ08 := HPQ.out.c0; have cQ18 := HPQ.out.c1; have cC08 := HPC.out.c0; have cC18 := HPC.out.c1; clear hb8 HW2)
        | (go_at_call 13; refine (HO3.out _).mono ?_; rintro e w9 ⟨rfl, hb9⟩; replace HPA := hid (HPA.out.below hb9 HPA.out.lt); replace HPM := hid (HPM.out.below hb9 HPM.out.lt); replace HPQ := hid (HPQ.out.below hb9 HPQ.out.lt); replace HPC := hid (HPC.out.below hb9 HPC.out.lt); replace HB := hid (HB.out.trans (hb9.mono HB.out.size)); have cA09 := HPA.out.c0; have cA19 := HPA.out.c1; have cM09 := HPM.out.c0; have cM19 := HPM.out.c1; have cQ09 := HPQ.out.c0; have cQ19 := HPQ.out.c1; have cC09 := HPC.out.c0; have cC19 := HPC.out.c1; clear hb9 HO3)
        | (go_at_call 15; refine (HT.out _).mono ?_; rintro e w10 ⟨rfl, hb10⟩; replace HPA := hid (HPA.out.below hb10 HPA.out.lt); replace HPM := hid (HPM.out.below hb10 HPM.out.lt); replace HPQ := hid (HPQ.out.below hb10 HPQ.out.lt); replace HPC := hid (HPC.out.below hb10 HPC.out.lt); replace HB := hid (HB.out.trans (hb10.mono HB.out.size)); have cA010 := HPA.out.c0; have cA110 := HPA.out.c1; have cM010 := HPM.out.c0; have cM110 := HPM.out.c1; have cQ010 := HPQ.out.c0; have cQ110 := HPQ.out.c1; have cC010 := HPC.out.c0; have cC110 := HPC.out.c1; clear hb10 HT)
        | (go_at_call 11; refine (awake_any _).mono ?_; rintro e w99 ⟨rfl, hb99⟩; replace HB := hid (HB.out.trans (hb99.mono HB.out.size)); clear hb99))
      go_ret
      exact ⟨rfl, HB.out⟩
    · go_wp2_with (first
        | (go_at_call 13; refine (HO1.out _).mono ?_; rintro e w5 ⟨rfl, hb5⟩; replace HPA := hid (HPA.out.below hb5 HPA.out.lt); replace HPM := hid (HPM.out.below hb5 HPM.out.lt); replace HPQ := hid (HPQ.out.below hb5 HPQ.out.lt); replace HPC := hid (HPC.out.below hb5 HPC.out.lt); replace HB := hid (HB.out.trans (hb5.mono HB.out.size)); have cA05 := HPA.out.c0; have cA15 := HPA.out.c1; have cM05 := HPM.out.c0; have cM15 := HPM.out.c1; have cQ05 := HPQ.out.c0; have cQ15 := HPQ.out.c1; have cC05 := HPC.out.c0; have cC15 := HPC.out.c1; clear hb5 HO1)
        | (go_at_call 14; refine (HW1.out _).mono ?_; rintro e w6 ⟨rfl, hb6⟩; replace HPA := hid (HPA.out.below hb6 HPA.out.lt); replace HPM := hid (HPM.out.below hb6 HPM.out.lt); replace HPQ := hid (HPQ.out.below hb6 HPQ.out.lt); replace HPC := hid (HPC.out.below hb6 HPC.out.lt); replace HB := hid (HB.out.trans (hb6.mono HB.out.size)); have cA06 := HPA.out.c0; have cA16 := HPA.out.c1; have cM06 := HPM.out.c0; have cM16 := HPM.out.c1; have cQ06 := HPQ.out.c0; have cQ16 := HPQ.out.c1; have cC06 := HPC.out.c0; have cC16 := HPC.out.c1; clear hb6 HW1)
        | (go_at_call 13; refine (HO2.out _).mono ?_; rintro e w7 ⟨rfl, hb7⟩; replace HPA := hid (HPA.out.below hb7 HPA.out.lt); replace HPM := hid (HPM.out.below hb7 HPM.out.lt); replace HPQ := hid (HPQ.out.below hb7 HPQ.out.lt); replace HPC := hid (HPC.out.below hb7 HPC.out.lt); replace HB := hid (HB.out.trans (hb7.mono HB.out.size)); have cA07 := HPA.out.c0; have cA17 := HPA.out.c1; have cM07 := HPM.out.c0; have cM17 := HPM.out.c1; have cQ07 := HPQ.out.c0; have cQ17 := HPQ.out.c1; have cC07 := HPC.out.c0; have cC17 := HPC.out.c1; clear hb7 HO2)
        | (go_at_call 14; refine (HW2.out _).mono ?_; rintro e w8 ⟨rfl, hb8⟩; replace HPA := hid (HPA.out.below hb8 HPA.out.lt); replace HPM := hid (HPM.out.below hb8 HPM.out.lt); replace HPQ := hid (HPQ.out.below hb8 HPQ.out.lt); replace HPC := hid (HPC.out.below hb8 HPC.out.lt); replace HB := hid (HB.out.trans (hb8.mono HB.out.size)); have cA08 := HPA.out.c0; have cA18 := HPA.out.c1; have cM08 := HPM.out.c0; have cM18 := HPM.out.c1; have cQ08 := HPQ.out.c0; have cQ18 := HPQ.out.c1; have cC08 := HPC.out.c0; have cC18 := HPC.out.c1; clear hb8 HW2)
        | (go_at_call 13; refine (HO3.out _).mono ?_; rintro e w9 ⟨rfl, hb9⟩; replace HPA := hid (HPA.out.below hb9 HPA.out.lt); replace HPM := hid (HPM.out.below hb9 HPM.out.lt); replace HPQ := hid (HPQ.out.below hb9 HPQ.out.lt); replace HPC := hid (HPC.out.below hb9 HPC.out.lt); replace HB := hid (HB.out.trans (hb9.mono HB.out.size)); have cA09 := HPA.out.c0; have cA19 := HPA.out.c1; have cM09 := HPM.out.c0; have cM19 := HPM.out.c1; have cQ09 := HPQ.out.c0; have cQ19 := HPQ.out.c1; have cC09 := HPC.out.c0; have cC19 := HPC.out.c1; clear hb9 HO3)
        | (go_at_call 15; refine (HT.out _).mono ?_; rintro e w10 ⟨rfl, hb10⟩; replace HPA := hid (HPA.out.below hb10 HPA.out.lt); replace HPM := hid (HPM.out.below hb10 HPM.out.lt); replace HPQ := hid (HPQ.out.below hb10 HPQ.out.lt); replace HPC := hid (HPC.out.below hb10 HPC.out.lt); replace HB := hid (HB.out.trans (hb10.mono HB.out.size)); have cA010 := HPA.out.c0; have cA110 := HPA.out.c1; have cM010 := HPM.out.c0; have cM110 := HPM.out.c1; have cQ010 := HPQ.out.c0; have cQ110 := HPQ.out.c1; have cC010 := HPC.out.c0; have cC110 := HPC.out.c1; clear hb10 HT)
        | (go_at_call 11; refine (awake_any _).mono ?_; rintro e w99 ⟨rfl, hb99⟩; replace HB := hid (HB.out.trans (hb99.mono HB.out.size)); clear hb99))
      go_ret
      exact ⟨rfl, HB.out⟩
end Go.Proofs.Ytnfhnoacdmhlfaa
