/-
  seg's Ray.
-/
import Derived.Test.YtepnjknblppfcaaEGp
import Derived.Test.YtepnjknblppfcaaSRay
import Derived.Test.YtepnjknblppfcaaQFree
namespace Go.Proofs.Ytepnjknblppfcaa
open Go.RowKit Go.Sort

set_option maxHeartbeats 3200000 in
theorem segRay_core (w : World) (ax ay bx by' px py AX AY BX BY PX PY T1 T2 : Int) (Rr : Bool)
    (HCa : Hid (∀ W, Calls Try.prog 43 #[pv ax ay] W fun e w' => e = .returned (pv AX AY) ∧ Below W.heap.size W w'))
    (HCb : Hid (∀ W, Calls Try.prog 43 #[pv bx by'] W fun e w' => e = .returned (pv BX BY) ∧ Below W.heap.size W w'))
    (HCp : Hid (∀ W, Calls Try.prog 43 #[pv px py] W fun e w' => e = .returned (pv PX PY) ∧ Below W.heap.size W w'))
    (HT1 : Hid (∀ W, Calls Try.prog 44 #[pv BX BY, pv AX AY, pv PX PY] W fun e w' => e = .returned (.int .i64 T1) ∧ Below W.heap.size W w'))
    (HT2 : Hid (∀ W, Calls Try.prog 44 #[pv AX AY, pv BX BY, pv PX PY] W fun e w' => e = .returned (.int .i64 T2) ∧ Below W.heap.size W w'))
    (HR1 : Hid (BY < AY → Rr = (decide (BY ≤ PY) && decide (PY < AY) && decide (0 < T1)))) (HR2 : Hid (¬ BY < AY → Rr = (decide (AY ≤ PY) && decide (PY < BY) && decide (0 < T2)))) :
    Calls Try.prog 32 #[pv ax ay, pv bx by', pv px py] w fun e w' => e = .returned (.bool Rr) ∧ Below w.heap.size w w' := by
  obtain ⟨wA, hwA⟩ : ∃ wA, w.alloc (.cells #[.int .i64 ax, .int .i64 ay] 24) = wA := ⟨_, rfl⟩
  obtain ⟨wB, hwB⟩ : ∃ wB, wA.alloc (.cells #[.int .i64 bx, .int .i64 by'] 24) = wB := ⟨_, rfl⟩
  obtain ⟨wC, hwC⟩ : ∃ wC, wB.alloc (.cells #[.int .i64 px, .int .i64 py] 24) = wC := ⟨_, rfl⟩
  obtain ⟨hA, hB, hC, hBL, hszC, hszA, hszB⟩ := box3 hwA hwB hwC
  have HBL := hid hBL
  have HA := hid hA
  have HB := hid hB
  have HC := hid hC
  clear hA hB hC hBL
  go_enter Try.func32, Try.ntmps32
  go_wp2
  refine wp_region_free (Z := .cells #[.int .i64 0, .int .i64 0] 24) 6 8 (by kernel_rfl) (by kernel_rfl) ?_ ?_
  · intro o ho
    simp only [List.take, List.drop, List.mem_cons, List.not_mem_nil, or_false] at ho
    rcases ho with rfl | rfl <;> exact ⟨rfl, fun ρ w => exec_newP rfl ρ w⟩
  apply Exists.intro
  apply And.intro
  · intro wq hbq
    have hA := HA.out.below hbq (by omega)
    have hB := HB.out.below hbq (by omega)
    have hC := HC.out.below hbq (by omega)
    have ka0 := cell_regrown hA.c0; have ka1 := cell_regrown hA.c1; have kb0 := cell_regrown hB.c0; have kb1 := cell_regrown hB.c1; have kc0 := cell_regrown hC.c0; have kc1 := cell_regrown hC.c1
    have ca := fun d os => HCa.out (grow (redrawn wq d) os)
    have cb := fun d os => HCb.out (grow (redrawn wq d) os)
    have cc := fun d os => HCp.out (grow (redrawn wq d) os)
    clear hA hB hC hbq
    simp only [List.take]
    go_big_quiet_step (fail)
    go_big_quiet_step (exact Calls.regrown_of (ca _ _))
    go_big_quiet_step (fail)
    go_big_quiet_step (exact Calls.regrown_of (cb _ _))
    go_big_quiet_step (fail)
    go_big_quiet_step (exact Calls.regrown_of (cc _ _))
    exact wpQuiet_nil rfl
  · intro bs W hlen hb hbs hnd
    obtain ⟨b1, b2, rfl⟩ : ∃ b1 b2, bs = [b1, b2] := by
      match bs, hlen with
      | [b1, b2], _ => exact ⟨b1, b2, rfl⟩
    simp only [List.mem_cons, List.not_mem_nil, or_false, forall_eq_or_imp, forall_eq] at hbs
    simp only [List.nodup_cons, List.mem_cons, List.not_mem_nil, or_false, not_false_eq_true, List.nodup_nil, and_true] at hnd
    obtain ⟨⟨l1, p1⟩, l2, p2⟩ := hbs
    replace p1 : Pt W b1 0 0 := p1
    replace p2 : Pt W b2 0 0 := p2
    have hC := HC.out.below hb (by omega)
    have HB0 := hid (HBL.out.trans (hb.mono HBL.out.size))
    have d10 := p1.c0; have d11 := p1.c1; have f10 := p1.f0; have f11 := p1.f1
    obtain ⟨V1, hV1⟩ : ∃ V, (W.setCell ⟨b1, 0, none⟩ (.int .i64 AX)).setCell ⟨b1, 1, none⟩ (.int .i64 AY) = V := ⟨_, rfl⟩
    replace p1 : Pt V1 b1 AX AY := by rw [← hV1]; exact p1.set _ _
    replace p2 : Pt V1 b2 0 0 := by rw [← hV1]; exact p2.far (fun h => hnd h.symm) _ _
    replace hC : Pt V1 (w.heap.size + 2) px py := by rw [← hV1]; exact hC.far (by omega) _ _
    replace HB0 := hid (show Below w.heap.size w V1 by rw [← hV1]; exact below_set2 HB0.out (by omega))
    have d20 := p2.c0; have d21 := p2.c1; have f20 := p2.f0; have f21 := p2.f1
    obtain ⟨V2, hV2⟩ : ∃ V, (V1.setCell ⟨b2, 0, none⟩ (.int .i64 BX)).setCell ⟨b2, 1, none⟩ (.int .i64 BY) = V := ⟨_, rfl⟩
    replace p1 : Pt V2 b1 AX AY := by rw [← hV2]; exact p1.far hnd _ _
    replace p2 : Pt V2 b2 BX BY := by rw [← hV2]; exact p2.set _ _
    replace hC : Pt V2 (w.heap.size + 2) px py := by rw [← hV2]; exact hC.far (by omega) _ _
    replace HB0 := hid (show Below w.heap.size w V2 by rw [← hV2]; exact below_set2 HB0.out (by omega))
    have d30 := hC.c0; have d31 := hC.c1; have f30 := hC.f0; have f31 := hC.f1
    obtain ⟨V3, hV3⟩ : ∃ V, (V2.setCell ⟨w.heap.size + 2, 0, none⟩ (.int .i64 PX)).setCell ⟨w.heap.size + 2, 1, none⟩ (.int .i64 PY) = V := ⟨_, rfl⟩
    replace p1 : Pt V3 b1 AX AY := by rw [← hV3]; exact p1.far (by omega) _ _
    replace p2 : Pt V3 b2 BX BY := by rw [← hV3]; exact p2.far (by omega) _ _
    replace hC : Pt V3 (w.heap.size + 2) PX PY := by rw [← hV3]; exact hC.set _ _
    replace HB0 := hid (show Below w.heap.size w V3 by rw [← hV3]; exact below_set2 HB0.out (by omega))
    have g10 := p1.c0; have g11 := p1.c1; have g20 := p2.c0; have g21 := p2.c1; have g30 := hC.c0; have g31 := hC.c1; have h10 := p1.f0; have h11 := p1.f1
    have HD := hid hnd
    simp only [List.take, List.drop, puts]
    by_cases hs : BY < AY
    · obtain ⟨V4, hV4⟩ : ∃ V, (V3.setCell ⟨b1, 0, none⟩ (.int .i64 BX)).setCell ⟨b1, 1, none⟩ (.int .i64 BY) = V := ⟨_, rfl⟩
      replace p1 : Pt V4 b1 BX BY := by rw [← hV4]; exact p1.set _ _
      replace p2 : Pt V4 b2 BX BY := by rw [← hV4]; exact p2.far (fun h => hnd h.symm) _ _
      replace hC : Pt V4 (w.heap.size + 2) PX PY := by rw [← hV4]; exact hC.far (by omega) _ _
      replace HB0 := hid (show Below w.heap.size w V4 by rw [← hV4]; exact below_set2 HB0.out (by omega))
      have i20 := p2.c0; have i21 := p2.c1; have i22 := p2.f0; have i23 := p2.f1
      obtain ⟨V5, hV5⟩ : ∃ V, (V4.setCell ⟨b2, 0, none⟩ (.int .i64 AX)).setCell ⟨b2, 1, none⟩ (.int .i64 AY) = V := ⟨_, rfl⟩
      replace p1 : Pt V5 b1 BX BY := by rw [← hV5]; exact p1.far hnd _ _
      replace p2 : Pt V5 b2 AX AY := by rw [← hV5]; exact p2.set _ _
      replace hC : Pt V5 (w.heap.size + 2) PX PY := by rw [← hV5]; exact hC.far (by omega) _ _
      replace HB0 := hid (show Below w.heap.size w V5 by rw [← hV5]; exact below_set2 HB0.out (by omega))
      have j10 := p1.c0; have j11 := p1.c1; have j20 := p2.c0; have j21 := p2.c1; have j30 := hC.c0; have j31 := hC.c1
      clear p1 p2 hC hb hlen l1 l2 hnd
      have HRR := hid (HR1.out hs)
      by_cases h1 : BY ≤ PY
      · by_cases h2 : PY < AY
        · go_wp2_with (go_at_call 44; refine (HT1.out _).mono ?_; rintro e w1 ⟨rfl, hb1⟩; replace HB0 := hid (HB0.out.trans (hb1.mono HB0.out.size)); clear hb1)
          go_ret
          exact ⟨by rw [HRR.out, decide_eq_true (show BY ≤ PY by omega), decide_eq_true (show PY < AY by omega)]; rfl, HB0.out⟩
        · go_wp2
          go_ret
          exact ⟨by rw [HRR.out, decide_eq_true (show BY ≤ PY by omega), decide_eq_false (show ¬ PY < AY by omega)]; rfl, HB0.out⟩
      · go_wp2
        go_ret
        exact ⟨by rw [HRR.out, decide_eq_false (show ¬ BY ≤ PY by omega)]; rfl, HB0.out⟩
    · clear p1 p2 hC hb hlen l1 l2 hnd
      have HRR := hid (HR2.out (by omega))
      by_cases h1 : AY ≤ PY
      · by_cases h2 : PY < BY
        · go_wp2_with (go_at_call 44; refine (HT2.out _).mono ?_; rintro e w1 ⟨rfl, hb1⟩; replace HB0 := hid (HB0.out.trans (hb1.mono HB0.out.size)); clear hb1)
          go_ret
          exact ⟨by rw [HRR.out, decide_eq_true (show AY ≤ PY by omega), decide_eq_true (show PY < BY by omega)]; rfl, HB0.out⟩
        · go_wp2
          go_ret
          exact ⟨by rw [HRR.out, decide_eq_true (show AY ≤ PY by omega), decide_eq_false (show ¬ PY < BY by omega)]; rfl, HB0.out⟩
      · go_wp2
        go_ret
        exact ⟨by rw [HRR.out, decide_eq_false (show ¬ AY ≤ PY by omega)]; rfl, HB0.out⟩

theorem rayP_down {a b p : Pp} (h : b.2 < a.2) : rayP a b p = (decide (b.2 ≤ p.2) && decide (p.2 < a.2) && decide (0 < tr2 b a p)) := by
  by_cases h1 : p.2 < a.2 <;> by_cases h2 : p.2 < b.2
  · simp [rayP, h1, h2, show ¬ b.2 ≤ p.2 by omega]
  · simp [rayP, h, h1, h2, show b.2 ≤ p.2 by omega]
  · omega
  · simp [rayP, h1, h2]
theorem rayP_up {a b p : Pp} (h : ¬ b.2 < a.2) : rayP a b p = (decide (a.2 ≤ p.2) && decide (p.2 < b.2) && decide (0 < tr2 a b p)) := by
  by_cases h1 : p.2 < a.2 <;> by_cases h2 : p.2 < b.2
  · simp [rayP, h1, h2, show ¬ a.2 ≤ p.2 by omega]
  · omega
  · simp [rayP, h, h1, h2, show a.2 ≤ p.2 by omega]
  · simp [rayP, h1, h2]

theorem segRay_any (ax ay bx by' px py : Int) (w : World) :
    Calls Try.prog 32 #[pv ax ay, pv bx by', pv px py] w fun e w' => e = .returned (.bool (rayP (near ax, near ay) (near bx, near by') (near px, near py))) ∧ Below w.heap.size w w' :=
  segRay_core w ax ay bx by' px py _ _ _ _ _ _ _ _ _ (hid fun W => segHeld_any ax ay W) (hid fun W => segHeld_any bx by' W) (hid fun W => segHeld_any px py W) (hid fun W => turn_gp (gp_near bx by') (gp_near ax ay) (gp_near px py) W) (hid fun W => turn_gp (gp_near ax ay) (gp_near bx by') (gp_near px py) W)
    (hid fun h => rayP_down h) (hid fun h => rayP_up h)
end Go.Proofs.Ytepnjknblppfcaa
