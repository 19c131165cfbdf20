/-
  line's Simple.
-/
import Derived.Test.YtlnjjkgjknheiaaMSimple
namespace Go.Proofs.Ytlnjjkgjknheiaa
open Go.RowKit Go.Sort

set_option maxRecDepth 100000 in
set_option maxHeartbeats 8000000 in
theorem lineSimple_any (v : Value) (ps : List Pp) (w : World) (hp : Pts w v ps) (hg : Gl ps) (hl : ps.length ≤ 100000) :
    Calls Try.prog 31 #[v] w fun e w' => e = .returned (.bool (simpleL ps)) ∧ Below w.heap.size w w' := by
  have hp' := hp
  obtain ⟨a, cap, rfl, _⟩ := hp'
  obtain ⟨n, hn⟩ : ∃ n, ps.length = n := ⟨_, rfl⟩
  have HN := hid hn
  have HREL := hid (fun i j W hW hij hj => relIfSimple_any (.slice a ps.length cap) ps i j W hW hg hl hij hj)
  rw [hn] at hl hp HREL ⊢
  have HP := hid hp
  have HG := hid hg
  obtain ⟨N, hNN⟩ : ∃ N, n - 1 = N := ⟨_, rfl⟩
  have HS := hid (fun W => segments_any a n cap W hl)
  rw [hNN] at HS HREL
  have HNN := hid hNN
  have HLN := hid (show ps.length - 1 = N by rw [hn]; exact hNN)
  have hNb : N ≤ 100000 := by omega
  clear hp hn hNN hg
  go_enter Try.func31, Try.ntmps31
  go_wp2
  go_step3
  go_wp2
  go_step3
  go_wp2_with (go_at_call 24; refine (HS.out _).mono ?_; rintro e w1 ⟨rfl, hb1⟩; have HB := hid hb1; clear hb1 HS)
  go_loopw [3, 8] (fun sv jv wr => ∃ j : Nat, j ≤ N ∧ jv = .int .i64 j ∧ sv = .bool true ∧ (∀ t, t < j → eqp (clP (lpt ps t)) (clP (lpt ps (t + 1))) = false) ∧ (∀ i k, i < k → k < j → sgR ps ps i k = wantL ps i k) ∧ Below w.heap.size w wr) (fun _ jv _ => N - (intOf jv).toNat)
  case atStart => exact ⟨0, by omega, rfl, rfl, (fun i hi => absurd hi (Nat.not_lt_zero i)), (fun i k h1 h2 => absurd h2 (Nat.not_lt_zero k)), HB.out⟩
  case round =>
    clear HB
    obtain ⟨j, hj, rfl, rfl, hst, hpr, hbr⟩ := hrel
    have HST := hid hst
    have HPR := hid hpr
    have HB := hid hbr
    clear hst hpr
    by_cases hlt : j < N
    · have hjI : (j : Int) < (N : Int) := by omega
      have hnN : j + 1 < n := by have := HNN.out; omega
      have hnI : (j : Int) + 1 < (n : Int) := by omega
      have hnJ : (j : Int) < (n : Int) := by omega
      obtain ⟨b, off, rfl, hc⟩ := (HP.out.below hbr).row (by rw [HN.out]; omega)
      obtain ⟨z0, z1⟩ := hc j (by rw [HN.out]; omega)
      obtain ⟨x0, x1⟩ := hc (j + 1) (by rw [HN.out]; omega)
      have y0 := cell_regrown z0; have y1 := cell_regrown z1; have u0 := cell_regrown x0; have u1 := cell_regrown x1
      have HEQ : Hid (eqp (clP (lpt ps j)) (clP (lpt ps (j + 1))) = ((lpt ps j).1 == (lpt ps (j + 1)).1 && (lpt ps j).2 == (lpt ps (j + 1)).2)) := hid (by rw [HG.out.at (by rw [HN.out]; omega), HG.out.at (by rw [HN.out]; omega)]; rfl)
      generalize (lpt ps j).1 = X0 at *
      generalize (lpt ps j).2 = Y0 at *
      generalize (lpt ps (j + 1)).1 = X1 at *
      generalize (lpt ps (j + 1)).2 = Y1 at *
      clear z0 z1 x0 x1 hc hbr
      cases f : (X0 == X1 && Y0 == Y1) with
      | true =>
        have rf := fun x y => ite2_yes f (α := Result Next) x y
        have sf := fun x y => ite2_yes f (α := Prop) x y
        have HF := hid f
        go_wp2
        refine wp_region_quiet_below (by kernel_rfl) (by kernel_rfl) ?_
        repeat (go_big_quiet_step (fail))
        refine wpQuiet_nil ?_
        intro W1 hW'
        obtain ⟨⟨dq, osq⟩, hW⟩ := hW'
        have HW1 := hid (show Below wr.heap.size wr W1 by rw [hW]; exact below_regrown _ _ _)
        clear hW
        clear y0 y1 u0 u1 rf sf
        go_wp2
        rw [Exit.noGoto_ret]
        go_ret
        refine ⟨?_, HB.out.trans (HW1.out.mono HB.out.size)⟩
        rw [simpleL_noStep (by rw [HLN.out]; exact hlt) (by rw [HEQ.out, HF.out])]
        rfl
      | false =>
        have rf := fun x y => ite2_no f (α := Result Next) x y
        have sf := fun x y => ite2_no f (α := Prop) x y
        have HF := hid f
        go_wp2
        refine wp_region_quiet_below (by kernel_rfl) (by kernel_rfl) ?_
        repeat (go_big_quiet_step (fail))
        refine wpQuiet_nil ?_
        intro W1 hW'
        obtain ⟨⟨dq, osq⟩, hW⟩ := hW'
        have HW1 := hid (show Below wr.heap.size wr W1 by rw [hW]; exact below_regrown _ _ _)
        clear hW
        clear y0 y1 u0 u1 rf sf
        go_wp2
        replace HB := hid (HB.out.trans (HW1.out.mono HB.out.size))
        clear HW1
        go_loopw [3, 22] (fun sv iv wx => ∃ i : Nat, i ≤ j ∧ iv = .int .i64 i ∧ sv = .bool true ∧ (∀ t, t < i → sgR ps ps t j = wantL ps t j) ∧ Below w.heap.size w wx) (fun _ iv _ => j - (intOf iv).toNat)
        case atStart => exact ⟨0, by omega, rfl, rfl, (fun i hi => absurd hi (Nat.not_lt_zero i)), HB.out⟩
        case round =>
          clear HB
          obtain ⟨i, hi, rfl, rfl, hpk, hbx⟩ := hrel
          have HPK := hid hpk
          have HB := hid hbx
          clear hpk
          by_cases hil : i < j
          · have hiI : (i : Int) < (j : Int) := by omega
            have hmI : (i : Int) + 1 < (n : Int) := by omega
            have hmJ : (i : Int) < (n : Int) := by omega
            obtain ⟨b', off', e, hc⟩ := (HP.out.below hbx).row (by rw [HN.out]; omega)
            cases e
            obtain ⟨z0, z1⟩ := hc i (by rw [HN.out]; omega)
            obtain ⟨x0, x1⟩ := hc (i + 1) (by rw [HN.out]; omega)
            obtain ⟨z2, z3⟩ := hc j (by rw [HN.out]; omega)
            obtain ⟨x2, x3⟩ := hc (j + 1) (by rw [HN.out]; omega)
            have y0 := cell_regrown z0; have y1 := cell_regrown z1; have u0 := cell_regrown x0; have u1 := cell_regrown x1
            have y2 := cell_regrown z2; have y3 := cell_regrown z3; have u2 := cell_regrown x2; have u3 := cell_regrown x3
            have c1 := fun d os => segRelate_any (lpt ps i).1 (lpt ps i).2 (lpt ps (i + 1)).1 (lpt ps (i + 1)).2 (lpt ps j).1 (lpt ps j).2 (lpt ps (j + 1)).1 (lpt ps (j + 1)).2 (grow (redrawn wr d) os)
            have c2 := fun d os => HREL.out i j (grow (redrawn wr d) os) (HP.out.below (hbx.trans ((below_regrown wr d os).mono hbx.size))) hil hlt
            have HRL : Hid (sgR ps ps i j = relP (near (lpt ps i).1, near (lpt ps i).2) (near (lpt ps (i + 1)).1, near (lpt ps (i + 1)).2) (near (lpt ps j).1, near (lpt ps j).2) (near (lpt ps (j + 1)).1, near (lpt ps (j + 1)).2)) := hid rfl
            generalize relP (near (lpt ps i).1, near (lpt ps i).2) (near (lpt ps (i + 1)).1, near (lpt ps (i + 1)).2) (near (lpt ps j).1, near (lpt ps j).2) (near (lpt ps (j + 1)).1, near (lpt ps (j + 1)).2) = RL at *
            obtain ⟨WT, hWT⟩ : ∃ WT, wantL ps i j = WT := ⟨_, rfl⟩
            have HWT := hid hWT
            rw [hWT] at c2
            generalize (lpt ps i).1 = A0 at *
            generalize (lpt ps i).2 = B0 at *
            generalize (lpt ps (i + 1)).1 = A1 at *
            generalize (lpt ps (i + 1)).2 = B1 at *
            generalize (lpt ps j).1 = A2 at *
            generalize (lpt ps j).2 = B2 at *
            generalize (lpt ps (j + 1)).1 = A3 at *
            generalize (lpt ps (j + 1)).2 = B3 at *
            clear z0 z1 z2 z3 x0 x1 x2 x3 hc hbx hWT
            by_cases hr : RL = WT
            · have hr' : (RL != WT) = false := by simp [hr]
              have HR := hid hr
              clear hr
              go_wp2
              refine wp_region_quiet_below (by kernel_rfl) (by kernel_rfl) ?_
              go_big_quiet_step (fail)
              go_big_quiet_step (fail)
              go_big_quiet_step (fail)
              go_big_quiet_step (fail)
              go_big_quiet_step (fail)
              go_big_quiet_step (fail)
              go_big_quiet_step (fail)
              go_big_quiet_step (fail)
              go_big_quiet_step (fail)
              go_big_quiet_step (fail)
              go_big_quiet_step (fail)
              go_big_quiet_step (fail)
              go_big_quiet_step (fail)
              go_big_quiet_step (fail)
              go_big_quiet_step (fail)
              go_big_quiet_step (fail)
              go_big_quiet_step (fail)
              go_big_quiet_step (fail)
              go_big_quiet_step (exact Calls.regrown_of (c1 _ _))
              go_big_quiet_step (fail)
              go_big_quiet_step (fail)
              go_big_quiet_step (fail)
              go_big_quiet_step (exact Calls.regrown_of (c2 _ _))
              go_big_quiet_step (fail)
              refine wpQuiet_nil ?_
              intro W1 hW'
              obtain ⟨⟨dq, osq⟩, hW⟩ := hW'
              have HW1 := hid (show Below wr.heap.size wr W1 by rw [hW]; exact below_regrown _ _ _)
              clear hW
              clear y0 y1 y2 y3 u0 u1 u2 u3 c1 c2
              go_wp2
              go_roundw
              case rel =>
                refine ⟨i + 1, by omega, by go_num, rfl, fun t ht => ?_, HB.out.trans (HW1.out.mono HB.out.size)⟩
                by_cases hti : t = i
                · rw [hti, HRL.out, HWT.out, HR.out]
                · exact HPK.out t (by omega)
              case measure => simp [intOf]; omega
            · have hr' : (RL != WT) = true := by simp [hr]
              have HR := hid hr
              clear hr
              go_wp2
              refine wp_region_quiet_below (by kernel_rfl) (by kernel_rfl) ?_
              go_big_quiet_step (fail)
              go_big_quiet_step (fail)
              go_big_quiet_step (fail)
              go_big_quiet_step (fail)
              go_big_quiet_step (fail)
              go_big_quiet_step (fail)
              go_big_quiet_step (fail)
              go_big_quiet_step (fail)
              go_big_quiet_step (fail)
              go_big_quiet_step (fail)
              go_big_quiet_step (fail)
              go_big_quiet_step (fail)
              go_big_quiet_step (fail)
              go_big_quiet_step (fail)
              go_big_quiet_step (fail)
              go_big_quiet_step (fail)
              go_big_quiet_step (fail)
              go_big_quiet_step (fail)
              go_big_quiet_step (exact Calls.regrown_of (c1 _ _))
              go_big_quiet_step (fail)
              go_big_quiet_step (fail)
              go_big_quiet_step (fail)
              go_big_quiet_step (exact Calls.regrown_of (c2 _ _))
              go_big_quiet_step (fail)
              refine wpQuiet_nil ?_
              intro W1 hW'
              obtain ⟨⟨dq, osq⟩, hW⟩ := hW'
              have HW1 := hid (show Below wr.heap.size wr W1 by rw [hW]; exact below_regrown _ _ _)
              clear hW
              clear y0 y1 y2 y3 u0 u1 u2 u3 c1 c2
              go_wp2
              rw [Exit.noGoto_ret]
              go_ret
              refine ⟨?_, HB.out.trans (HW1.out.mono HB.out.size)⟩
              rw [simpleL_noPair hil (by rw [HLN.out]; exact hlt) (by rw [HRL.out, HWT.out]; exact HR.out)]
              rfl
          · have hiI : ¬ (i : Int) < (j : Int) := by omega
            have hij : i = j := by omega
            clear hbx
            go_wp2
            go_roundw
            case rel =>
              refine ⟨j + 1, by omega, by go_num, rfl, fun t ht => ?_, fun t k h1 h2 => ?_, HB.out⟩
              · by_cases htj : t = j
                · rw [htj, HEQ.out, HF.out]
                · exact HST.out t (by omega)
              · by_cases hkj : k = j
                · rw [hkj]
                  exact HPK.out t (by omega)
                · exact HPR.out t k h1 (by omega)
            case measure => simp [intOf]; omega
    · have hjI : ¬ (j : Int) < (N : Int) := by omega
      have hjN : j = N := by omega
      have HSM := hid (simpleL_true (ps := ps) (fun i hi => HST.out i (by rw [HLN.out] at hi; omega)) (fun i hi k h1 h2 => HPR.out i k h1 (by rw [HLN.out] at h2; omega)))
      clear hbr
      go_wp2
      try rw [Exit.noGoto_ret]
      go_ret
      exact ⟨by rw [HSM.out]; rfl, HB.out⟩
end Go.Proofs.Ytlnjjkgjknheiaa
