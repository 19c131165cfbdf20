/-
  turn's Between.
-/
import Derived.Test.YtccbjohiaboipaaTFn
namespace Go.Proofs.Ytccbjohiaboipaa
open Go.RowKit Go.Sort

theorem betw_is {a b d : Pp} (ha : noneD a = false) (hb : noneD b = false) (hd : noneD d = false) : betwD a b d = if cmpD a b < 0 then (decide (cmpD a d < 0) && decide (cmpD d b < 0)) else (decide (cmpD a d < 0) || decide (cmpD d b < 0)) := by
  have t1 := cmpD_trans a d b
  have t2 := cmpD_trans d b a
  have t3 := cmpD_trans b a d
  have t4 := cmpD_trans a b d
  have t5 := cmpD_trans b d a
  have t6 := cmpD_trans d a b
  have e1 := cmpD_anti a b
  have e2 := cmpD_anti a d
  have e3 := cmpD_anti d b
  unfold betwD
  rw [afterD_is, ha, hb, hd]
  generalize cmpD b a = P' at *
  generalize cmpD d a = Q' at *
  generalize cmpD b d = R' at *
  generalize cmpD a b = P at *
  generalize cmpD a d = Q at *
  generalize cmpD d b = R at *
  rw [Bool.eq_iff_iff]
  repeat' split
  all_goals simp only [Bool.not_false, Bool.true_and, Bool.and_eq_true, Bool.or_eq_true, Bool.not_eq_true', beq_eq_false_iff_ne, beq_iff_eq, decide_eq_true_eq, ne_eq]
  all_goals omega
theorem betw_no {a b d : Pp} (h : noneD a = true ∨ noneD b = true ∨ noneD d = true) : betwD a b d = false := by
  unfold betwD
  rcases h with h | h | h <;> rw [h] <;> simp

set_option maxHeartbeats 3200000 in
theorem turnBetw_any (ax ay bx by' dx dy : Int) (w : World) :
    Calls Try.prog 10 #[pv ax ay, pv bx by', pv dx dy] w fun e w' => e = .returned (.bool (betwD (ax, ay) (bx, by') (dx, dy))) ∧ Below w.heap.size w w' := by
  obtain ⟨wA, hwA⟩ : ∃ wA, w.alloc (.cells #[.int .i64 ax, .int .i64 ay] 24) = wA := ⟨_, rfl⟩
  obtain ⟨wB, hwB⟩ : ∃ wB, wA.alloc (.cells #[.int .i64 bx, .int .i64 by'] 24) = wB := ⟨_, rfl⟩
  obtain ⟨wC, hwC⟩ : ∃ wC, wB.alloc (.cells #[.int .i64 dx, .int .i64 dy] 24) = wC := ⟨_, rfl⟩
  obtain ⟨hA, hB, hC, hBL, hszC, hszA, hszB⟩ := dbox3 hwA hwB hwC
  have HBL := hid hBL
  have HA := hid hA; have HB := hid hB; have HC := hid hC
  have a0 := hA.c0; have a1 := hA.c1; have b0 := hB.c0; have b1 := hB.c1; have c0 := hC.c0; have c1 := hC.c1
  have HN1 := hid (fun W => turnNone_any ax ay W)
  have HN2 := hid (fun W => turnNone_any bx by' W)
  have HN3 := hid (fun W => turnNone_any dx dy W)
  have HAD := hid (fun W => turnCmp_any ax ay dx dy W)
  have HDB := hid (fun W => turnCmp_any dx dy bx by' W)
  have HAB := hid (fun W => turnCmp_any ax ay bx by' W)
  have HI := hid (@betw_is (ax, ay) (bx, by') (dx, dy))
  have HO := hid (@betw_no (ax, ay) (bx, by') (dx, dy))
  generalize betwD (ax, ay) (bx, by') (dx, dy) = R at *
  generalize cmpD (ax, ay) (bx, by') = P at *
  generalize cmpD (ax, ay) (dx, dy) = Q at *
  generalize cmpD (dx, dy) (bx, by') = S at *
  generalize noneD (ax, ay) = N1 at *
  generalize noneD (bx, by') = N2 at *
  generalize noneD (dx, dy) = N3 at *
  clear hA hB hC hBL
  cases N1 with
  | true =>
    have HV := hid (HO.out (.inl rfl))
    clear HI HO HAD HDB HAB HN2 HN3
    go_enter Try.func10, Try.ntmps10
    go_wp2_with (go_at_call 27; refine (HN1.out _).mono ?_; rintro e w1 ⟨rfl, hb2⟩; replace HA := hid (HA.out.below hb2 HA.out.lt); replace HB := hid (HB.out.below hb2 HB.out.lt); replace HC := hid (HC.out.below hb2 HC.out.lt); replace HBL := hid (HBL.out.trans (hb2.mono HBL.out.size)); have a10 := HA.out.c0; have a11 := HA.out.c1; have b10 := HB.out.c0; have b11 := HB.out.c1; have c10 := HC.out.c0; have c11 := HC.out.c1; clear hb2 HN1)
    go_ret
    exact ⟨by rw [HV.out]; rfl, HBL.out⟩
  | false =>
    cases N2 with
    | true =>
      have HV := hid (HO.out (.inr (.inl rfl)))
      clear HI HO HAD HDB HAB HN3
      go_enter Try.func10, Try.ntmps10
      go_wp2_with (first | (go_at_call 27; refine (HN1.out _).mono ?_; rintro e w1 ⟨rfl, hb2⟩; replace HA := hid (HA.out.below hb2 HA.out.lt); replace HB := hid (HB.out.below hb2 HB.out.lt); replace HC := hid (HC.out.below hb2 HC.out.lt); replace HBL := hid (HBL.out.trans (hb2.mono HBL.out.size)); have a10 := HA.out.c0; have a11 := HA.out.c1; have b10 := HB.out.c0; have b11 := HB.out.c1; have c10 := HC.out.c0; have c11 := HC.out.c1; clear hb2 HN1) | (go_at_call 27; refine (HN2.out _).mono ?_; rintro e w2 ⟨rfl, hb2⟩; replace HA := hid (HA.out.below hb2 HA.out.lt); replace HB := hid (HB.out.below hb2 HB.out.lt); replace HC := hid (HC.out.below hb2 HC.out.lt); replace HBL := hid (HBL.out.trans (hb2.mono HBL.out.size)); have a20 := HA.out.c0; have a21 := HA.out.c1; have b20 := HB.out.c0; have b21 := HB.out.c1; have c20 := HC.out.c0; have c21 := HC.out.c1; clear hb2 HN2))
      go_ret
      exact ⟨by rw [HV.out]; rfl, HBL.out⟩
    | false =>
      cases N3 with
      | true =>
        have HV := hid (HO.out (.inr (.inr rfl)))
        clear HI HO HAD HDB HAB
        go_enter Try.func10, Try.ntmps10
        go_wp2_with (first | (go_at_call 27; refine (HN1.out _).mono ?_; rintro e w1 ⟨rfl, hb2⟩; replace HA := hid (HA.out.below hb2 HA.out.lt); replace HB := hid (HB.out.below hb2 HB.out.lt); replace HC := hid (HC.out.below hb2 HC.out.lt); replace HBL := hid (HBL.out.trans (hb2.mono HBL.out.size)); have a10 := HA.out.c0; have a11 := HA.out.c1; have b10 := HB.out.c0; have b11 := HB.out.c1; have c10 := HC.out.c0; have c11 := HC.out.c1; clear hb2 HN1) | (go_at_call 27; refine (HN2.out _).mono ?_; rintro e w2 ⟨rfl, hb2⟩; replace HA := hid (HA.out.below hb2 HA.out.lt); replace HB := hid (HB.out.below hb2 HB.out.lt); replace HC := hid (HC.out.below hb2 HC.out.lt); replace HBL := hid (HBL.out.trans (hb2.mono HBL.out.size)); have a20 := HA.out.c0; have a21 := HA.out.c1; have b20 := HB.out.c0; have b21 := HB.out.c1; have c20 := HC.out.c0; have c21 := HC.out.c1; clear hb2 HN2) | (go_at_call 27; refine (HN3.out _).mono ?_; rintro e w3 ⟨rfl, hb2⟩; replace HA := hid (HA.out.below hb2 HA.out.lt); replace HB := hid (HB.out.below hb2 HB.out.lt); replace HC := hid (HC.out.below hb2 HC.out.lt); replace HBL := hid (HBL.out.trans (hb2.mono HBL.out.size)); have a30 := HA.out.c0; have a31 := HA.out.c1; have b30 := HB.out.c0; have b31 := HB.out.c1; have c30 := HC.out.c0; have c31 := HC.out.c1; clear hb2 HN3))
        go_ret
        exact ⟨by rw [HV.out]; rfl, HBL.out⟩
      | false =>
        have HV := hid (HI.out rfl rfl rfl)
        clear HI HO
        go_enter Try.func10, Try.ntmps10
        go_wp2_with (first | (go_at_call 27; refine (HN1.out _).mono ?_; rintro e w1 ⟨rfl, hb2⟩; replace HA := hid (HA.out.below hb2 HA.out.lt); replace HB := hid (HB.out.below hb2 HB.out.lt); replace HC := hid (HC.out.below hb2 HC.out.lt); replace HBL := hid (HBL.out.trans (hb2.mono HBL.out.size)); have a10 := HA.out.c0; have a11 := HA.out.c1; have b10 := HB.out.c0; have b11 := HB.out.c1; have c10 := HC.out.c0; have c11 := HC.out.c1; clear hb2 HN1) | (go_at_call 27; refine (HN2.out _).mono ?_; rintro e w2 ⟨rfl, hb2⟩; replace HA := hid (HA.out.below hb2 HA.out.lt); replace HB := hid (HB.out.below hb2 HB.out.lt); replace HC := hid (HC.out.below hb2 HC.out.lt); replace HBL := hid (HBL.out.trans (hb2.mono HBL.out.size)); have a20 := HA.out.c0; have a21 := HA.out.c1; have b20 := HB.out.c0; have b21 := HB.out.c1; have c20 := HC.out.c0; have c21 := HC.out.c1; clear hb2 HN2) | (go_at_call 27; refine (HN3.out _).mono ?_; rintro e w3 ⟨rfl, hb2⟩; replace HA := hid (HA.out.below hb2 HA.out.lt); replace HB := hid (HB.out.below hb2 HB.out.lt); replace HC := hid (HC.out.below hb2 HC.out.lt); replace HBL := hid (HBL.out.trans (hb2.mono HBL.out.size)); have a30 := HA.out.c0; have a31 := HA.out.c1; have b30 := HB.out.c0; have b31 := HB.out.c1; have c30 := HC.out.c0; have c31 := HC.out.c1; clear hb2 HN3))
        clear a0 a1 b0 b1 c0 c1 a10 a11 b10 b11 c10 c11 a20 a21 b20 b21 c20 c21 a30 a31 b30 b31 c30 c31
        have ka0 := cell_regrown HA.out.c0; have ka1 := cell_regrown HA.out.c1; have kb0 := cell_regrown HB.out.c0; have kb1 := cell_regrown HB.out.c1; have kc0 := cell_regrown HC.out.c0; have kc1 := cell_regrown HC.out.c1
        have cad := fun d os => HAD.out (grow (redrawn w3 d) os)
        have cdb := fun d os => HDB.out (grow (redrawn w3 d) os)
        refine wp_region_quiet_below (by kernel_rfl) (by kernel_rfl) ?_
        go_big_quiet_step (fail)
        go_big_quiet_step (fail)
        go_big_quiet_step (exact Calls.regrown_of (cad _ _))
        go_big_quiet_step (fail)
        go_big_quiet_step (fail)
        go_big_quiet_step (fail)
        go_big_quiet_step (exact Calls.regrown_of (cdb _ _))
        go_big_quiet_step (fail)
        go_big_quiet_step (fail)
        go_big_quiet_step (fail)
        refine wpQuiet_nil ?_
        intro W hW'
        obtain ⟨⟨dq, osq⟩, hW⟩ := hW'
        have hb2 : Below w3.heap.size w3 W := by rw [hW]; exact below_regrown _ _ _
        clear hW ka0 ka1 kb0 kb1 kc0 kc1 cad cdb
        replace HA := hid (HA.out.below hb2 HA.out.lt); replace HB := hid (HB.out.below hb2 HB.out.lt); replace HC := hid (HC.out.below hb2 HC.out.lt); replace HBL := hid (HBL.out.trans (hb2.mono HBL.out.size)); have a0 := HA.out.c0; have a1 := HA.out.c1; have b0 := HB.out.c0; have b1 := HB.out.c1
        clear hb2
        cases kP : decide (P < 0) <;> cases kQ : decide (Q < 0) <;> cases kS : decide (S < 0) <;> (
          have KP := hid kP
          have KQ := hid kQ
          have KS := hid kS
          go_wp2_with (go_at_call 13; refine (HAB.out _).mono ?_; rintro e w4 ⟨rfl, hb4⟩; replace HBL := hid (HBL.out.trans (hb4.mono HBL.out.size)); clear hb4)
          go_ret
          refine ⟨?_, HBL.out⟩
          rw [HV.out, KQ.out, KS.out]
          first
            | (rw [if_pos (of_decide_eq_true KP.out)]; rfl)
            | (rw [if_neg (of_decide_eq_false KP.out)]; rfl))
end Go.Proofs.Ytccbjohiaboipaa
