/-
  Layer 12: the document's Simple and Ok.
-/
import Derived.Test.YtlnjjkgjknheiaaME
import Derived.Test.YtlnjjkgjknheiaaMD
import Derived.Deep.CutRange
import Derived.Maps.AppendAt
namespace Go.Proofs.Ytlnjjkgjknheiaa
open Go.RowKit Go.Sort

theorem simpleL_true {ps : List Pp} (h1 : ∀ i, i < ps.length - 1 → eqp (clP (lpt ps i)) (clP (lpt ps (i + 1))) = false) (h2 : ∀ i, i < ps.length - 1 → ∀ k, i < k → k < ps.length - 1 → sgR ps ps i k = wantL ps i k) : simpleL ps = true := by
  unfold simpleL stepsL pairsL
  rw [Bool.and_eq_true, List.all_eq_true, List.all_eq_true]
  refine ⟨fun i hi => by rw [h1 i (List.mem_range.1 hi)]; rfl, fun i hi => ?_⟩
  rw [List.all_eq_true]
  intro k hk
  by_cases hik : k ≤ i
  · rw [decide_eq_true hik]; rfl
  · rw [h2 i (List.mem_range.1 hi) k (by omega) (List.mem_range.1 hk), beq_self_eq_true]; simp
theorem simpleL_step {ps : List Pp} (h : simpleL ps = true) {i : Nat} (hi : i < ps.length - 1) : eqp (clP (lpt ps i)) (clP (lpt ps (i + 1))) = false := by
  unfold simpleL stepsL at h
  rw [Bool.and_eq_true, List.all_eq_true] at h
  simpa using h.1 i (List.mem_range.2 hi)
theorem simpleL_pair {ps : List Pp} (h : simpleL ps = true) {i k : Nat} (hik : i < k) (hk : k < ps.length - 1) : sgR ps ps i k = wantL ps i k := by
  unfold simpleL pairsL at h
  rw [Bool.and_eq_true, List.all_eq_true] at h
  have h1 := h.2 i (List.mem_range.2 (by omega))
  rw [List.all_eq_true] at h1
  have h2 := h1 k (List.mem_range.2 hk)
  rw [decide_eq_false (by omega), Bool.false_or, beq_iff_eq] at h2
  exact h2
theorem simpleL_noStep {ps : List Pp} {i : Nat} (hi : i < ps.length - 1) (h : eqp (clP (lpt ps i)) (clP (lpt ps (i + 1))) = true) : simpleL ps = false := by
  cases hs : simpleL ps with
  | false => rfl
  | true => rw [simpleL_step hs hi] at h; cases h
theorem simpleL_noPair {ps : List Pp} {i k : Nat} (hik : i < k) (hk : k < ps.length - 1) (h : sgR ps ps i k ≠ wantL ps i k) : simpleL ps = false := by
  cases hs : simpleL ps with
  | false => rfl
  | true => exact absurd (simpleL_pair hs hik hk) h


set_option maxRecDepth 100000 in
set_option maxHeartbeats 8000000 in
theorem refSimple_any (v : Value) (ps : List Pp) (w : World) (hp : Pts w v ps) (hl : ps.length ≤ 100000) :
    Calls Try.prog 18 #[v] w fun e w' => e = .returned (.bool (simpleL ps)) ∧ Below w.heap.size w w' := by
  have hp' := hp
  obtain ⟨a, cap, rfl, _⟩ := hp'
  obtain ⟨n, hn⟩ : ∃ n, ps.length = n := ⟨_, rfl⟩
  have HN := hid hn
  rw [hn] at hl hp ⊢
  have HP := hid hp
  obtain ⟨N, hNN⟩ : ∃ N, n - 1 = N := ⟨_, rfl⟩
  obtain ⟨M, hM⟩ : ∃ M : Int, (n : Int) - 1 = M := ⟨_, rfl⟩
  have hMb : -1 ≤ M ∧ M ≤ 100000 := by omega
  have hMN : ∀ i : Nat, (i : Int) < M ↔ i < N := fun i => by omega
  have hMM : 1 ≤ N → M = (N : Int) := fun h => by omega
  have HMN := hid hMN
  have HMM := hid hMM
  have HNN := hid hNN
  have HLN := hid (show ps.length - 1 = N by rw [hn]; exact hNN)
  clear hp hn hMN hMM hNN
  go_enter Try.func18, Try.ntmps18
  go_wp2
  go_loopw [4] (fun iv wr => ∃ i : Nat, i ≤ N ∧ iv = .int .i64 i ∧ (∀ t, t < i → eqp (clP (lpt ps t)) (clP (lpt ps (t + 1))) = false) ∧ Below w.heap.size w wr) (fun iv _ => N - (intOf iv).toNat)
  case atStart => exact ⟨0, by omega, rfl, (fun i hi => absurd hi (Nat.not_lt_zero i)), Below.refl _ _⟩
  case round =>
    obtain ⟨i, hi, rfl, hst, hbr⟩ := hrel
    have HST := hid hst
    have HBR := hid hbr
    clear hst
    by_cases hlt : i < N
    · have hiI : (i : Int) < M := (HMN.out i).2 hlt
      have hnN : i + 1 < n := by have := HNN.out; omega
      have hnI : (i : Int) + 1 < (n : Int) := by omega
      have hnJ : (i : Int) < (n : Int) := by omega
      obtain ⟨b, off, rfl, hc⟩ := (HP.out.below hbr).row (by rw [HN.out]; omega)
      obtain ⟨z0, z1⟩ := hc i (by rw [HN.out]; omega)
      obtain ⟨x0, x1⟩ := hc (i + 1) (by rw [HN.out]; omega)
      have y0 := cell_regrown z0; have y1 := cell_regrown z1; have u0 := cell_regrown x0; have u1 := cell_regrown x1
      have c1 := fun d os => refClean_any (lpt ps i).1 (lpt ps i).2 (grow (redrawn wr d) os)
      have c2 := fun d os => refClean_any (lpt ps (i + 1)).1 (lpt ps (i + 1)).2 (grow (redrawn wr d) os)
      have HEQ : Hid (eqp (clP (lpt ps i)) (clP (lpt ps (i + 1))) = (near (lpt ps i).1 == near (lpt ps (i + 1)).1 && near (lpt ps i).2 == near (lpt ps (i + 1)).2)) := hid rfl
      generalize near (lpt ps i).1 = PX at *
      generalize near (lpt ps i).2 = PY at *
      generalize near (lpt ps (i + 1)).1 = QX at *
      generalize near (lpt ps (i + 1)).2 = QY at *
      generalize (lpt ps i).1 = X0 at *
      generalize (lpt ps i).2 = Y0 at *
      generalize (lpt ps (i + 1)).1 = X1 at *
      generalize (lpt ps (i + 1)).2 = Y1 at *
      clear z0 z1 x0 x1 hc hbr
      cases f : (PX == QX && PY == QY) with
      | true =>
        have rf := fun x y => ite2_yes f (α := Result Next) x y
        have sf := fun x y => ite2_yes f (α := Prop) x y
        have HF := hid f
        go_wp2
        refine wp_region_quiet_below (by kernel_rfl) (by kernel_rfl) ?_
        go_big_quiet_step (fail)
        go_big_quiet_step (fail)
        go_big_quiet_step (fail)
        go_big_quiet_step (fail)
        go_big_quiet_step (exact Calls.regrown_of (c1 _ _))
        go_big_quiet_step (fail)
        go_big_quiet_step (fail)
        go_big_quiet_step (fail)
        go_big_quiet_step (fail)
        go_big_quiet_step (fail)
        go_big_quiet_step (exact Calls.regrown_of (c2 _ _))
        go_big_quiet_step (fail)
        refine wpQuiet_nil ?_
        intro W1 hW'
        obtain ⟨⟨dq, osq⟩, hW⟩ := hW'
        have HW1 := hid (show Below wr.heap.size wr W1 by rw [hW]; exact below_regrown _ _ _)
        clear hW
        clear y0 y1 u0 u1 c1 c2 rf sf
        go_wp2
        go_ret
        refine ⟨?_, HBR.out.trans (HW1.out.mono HBR.out.size)⟩
        rw [simpleL_noStep (by rw [HLN.out]; exact hlt) (by rw [HEQ.out, HF.out])]
        rfl
      | false =>
        have rf := fun x y => ite2_no f (α := Result Next) x y
        have sf := fun x y => ite2_no f (α := Prop) x y
        have HF := hid f
        go_wp2
        refine wp_region_quiet_below (by kernel_rfl) (by kernel_rfl) ?_
        go_big_quiet_step (fail)
        go_big_quiet_step (fail)
        go_big_quiet_step (fail)
        go_big_quiet_step (fail)
        go_big_quiet_step (exact Calls.regrown_of (c1 _ _))
        go_big_quiet_step (fail)
        go_big_quiet_step (fail)
        go_big_quiet_step (fail)
        go_big_quiet_step (fail)
        go_big_quiet_step (fail)
        go_big_quiet_step (exact Calls.regrown_of (c2 _ _))
        go_big_quiet_step (fail)
        refine wpQuiet_nil ?_
        intro W1 hW'
        obtain ⟨⟨dq, osq⟩, hW⟩ := hW'
        have HW1 := hid (show Below wr.heap.size wr W1 by rw [hW]; exact below_regrown _ _ _)
        clear hW
        clear y0 y1 u0 u1 c1 c2 rf sf
        go_wp2
        go_roundw
        case rel =>
          refine ⟨i + 1, by omega, by go_num, fun t ht => ?_, HBR.out.trans (HW1.out.mono HBR.out.size)⟩
          by_cases hti : t = i
          · rw [hti, HEQ.out, HF.out]
          · exact HST.out t (by omega)
        case measure => simp [intOf]; omega
    · have hiI : ¬ (i : Int) < M := fun h => hlt ((HMN.out i).1 h)
      have hiN : i = N := by omega
      have HS1 := hid (show ∀ t, t < N → eqp (clP (lpt ps t)) (clP (lpt ps (t + 1))) = false by rw [← hiN]; exact HST.out)
      have HB := hid hbr
      clear hbr HBR HST
      go_wp2
      go_loopw [5] (fun iv wx => ∃ i : Nat, i ≤ N ∧ iv = .int .i64 i ∧ (∀ t, t < i → ∀ k, t < k → k < N → sgR ps ps t k = wantL ps t k) ∧ Below w.heap.size w wx) (fun iv _ => N - (intOf iv).toNat)
      case atStart => exact ⟨0, by omega, rfl, (fun i hi => absurd hi (Nat.not_lt_zero i)), HB.out⟩
      case round =>
        clear HB hiI
        obtain ⟨j, hj, rfl, hpr, hbx⟩ := hrel
        have HPR := hid hpr
        have HB := hid hbx
        clear hpr hbx
        by_cases hjl : j < N
        · have hjI : (j : Int) < M := (HMN.out j).2 hjl
          go_wp2
          go_loopw [6] (fun kv wy => ∃ k : Nat, j < k ∧ k ≤ N ∧ kv = .int .i64 k ∧ (∀ t, j < t → t < k → sgR ps ps j t = wantL ps j t) ∧ Below w.heap.size w wy) (fun kv _ => N - (intOf kv).toNat)
          case atStart => exact ⟨j + 1, by omega, by omega, by go_num, (fun t h1 h2 => by omega), HB.out⟩
          case round =>
            clear HB
            obtain ⟨k, hjk, hk, rfl, hpk, hby⟩ := hrel
            have HPK := hid hpk
            have HB := hid hby
            by_cases hkl : k < N
            · have hkI : (k : Int) < M := (HMN.out k).2 hkl
              have HM1 := hid (show M = (N : Int) from HMM.out (by omega))
              have hnN : k + 1 < n := by have := HNN.out; omega
              have hnI : (k : Int) + 1 < (n : Int) := by omega
              have hnJ : (k : Int) < (n : Int) := by omega
              have hmI : (j : Int) + 1 < (n : Int) := by omega
              have hmJ : (j : Int) < (n : Int) := by omega
              obtain ⟨WB, hWB⟩ : ∃ WB : Bool, wantL ps j k = if WB = true then 1 else 0 := by
                unfold wantL
                split
                · exact ⟨true, rfl⟩
                · exact ⟨false, rfl⟩
              have HWT := hid hWB
              clear hby hpk hWB
              go_upto_region 14 with fail
              go_cut [61] from 40 to 60 (fun wv wx => wv = .bool WB ∧ Below w.heap.size w wx)
              case first =>
                have HW0 : Hid ((if WB = true then (1 : Int) else 0) = if k = j + 1 ∨ (j = 0 ∧ k + 1 = N ∧ 2 < N ∧ closedL ps = true) then 1 else 0) := hid (by rw [← HWT.out]; unfold wantL; rw [HLN.out])
                have HW1 : Hid (WB = true ↔ k = j + 1 ∨ (j = 0 ∧ k + 1 = N ∧ 2 < N ∧ closedL ps = true)) := hid (by
                  have h := HW0.out
                  by_cases hc : k = j + 1 ∨ (j = 0 ∧ k + 1 = N ∧ 2 < N ∧ closedL ps = true)
                  · rw [if_pos hc] at h
                    refine ⟨fun _ => hc, fun _ => ?_⟩
                    cases WB with
                    | true => rfl
                    | false => simp at h
                  · rw [if_neg hc] at h
                    refine ⟨fun hb => ?_, fun h' => absurd h' hc⟩
                    rw [if_pos hb] at h
                    cases h)
                clear HW0
                by_cases w1 : k = j + 1
                · have g1 : ((k : Int) == (j : Int) + 1) = true := by simp [w1]
                  have HW := hid (HW1.out.2 (.inl w1))
                  clear w1
                  go_wp2
                  go_meet
                  case rel => exact ⟨by rw [HW.out], HB.out⟩
                · have g1 : ((k : Int) == (j : Int) + 1) = false := by simpa using fun h => w1 (by omega)
                  by_cases w2 : j = 0
                  · have g2 : ((j : Int) == 0) = true := by simp [w2]
                    by_cases w3 : k + 1 = N
                    · have g3 : ((k : Int) == M - 1) = true := by have := HM1.out; simp; omega
                      by_cases w4 : 2 < N
                      · have g4 : decide ((2 : Int) < M) = true := decide_eq_true (by have := HM1.out; omega)
                        have HC := hid (fun W hW => refClosed_any (.slice a n cap) ps W hW (by rw [HN.out]; exact hl))
                        have HW := hid (show WB = closedL ps by rw [Bool.eq_iff_iff]; exact HW1.out.trans ⟨fun h => h.elim (fun h => absurd h w1) fun h => h.2.2.2, fun h => .inr ⟨w2, w3, w4, h⟩⟩)
                        generalize closedL ps = CL at *
                        clear w1 w2 w3 w4 HW1
                        subst WB
                        cases CL with
                        | true =>
                          go_wp2_with (go_at_call 33; refine (HC.out _ (HP.out.below HB.out)).mono ?_; rintro e w1 ⟨rfl, hb1⟩; replace HB := hid (HB.out.trans (hb1.mono HB.out.size)); clear hb1)
                          go_meet
                          case rel => exact ⟨rfl, HB.out⟩
                        | false =>
                          go_wp2_with (go_at_call 33; refine (HC.out _ (HP.out.below HB.out)).mono ?_; rintro e w1 ⟨rfl, hb1⟩; replace HB := hid (HB.out.trans (hb1.mono HB.out.size)); clear hb1)
                          go_meet
                          case rel => exact ⟨rfl, HB.out⟩
                      · have g4 : decide ((2 : Int) < M) = false := decide_eq_false (by have := HM1.out; omega)
                        have HW := hid (show WB = false by cases WB with | false => rfl | true => have := HW1.out.1 rfl; omega)
                        clear w1 w2 w3 w4
                        go_wp2
                        go_meet
                        case rel => exact ⟨by rw [HW.out], HB.out⟩
                    · have g3 : ((k : Int) == M - 1) = false := by have := HM1.out; simpa using fun h => w3 (by omega)
                      have HW := hid (show WB = false by cases WB with | false => rfl | true => have := HW1.out.1 rfl; omega)
                      clear w1 w2 w3
                      go_wp2
                      go_meet
                      case rel => exact ⟨by rw [HW.out], HB.out⟩
                  · have g2 : ((j : Int) == 0) = false := by simpa using fun h => w2 (by omega)
                    have HW := hid (show WB = false by cases WB with | false => rfl | true => have := HW1.out.1 rfl; omega)
                    clear w1 w2
                    go_wp2
                    go_meet
                    case rel => exact ⟨by rw [HW.out], HB.out⟩
              case rest =>
                obtain ⟨rfl, hbc⟩ := hcut
                clear HB
                have HB := hid hbc
                obtain ⟨b, off, rfl, hc⟩ := (HP.out.below hbc).row (by rw [HN.out]; omega)
                obtain ⟨z0, z1⟩ := hc j (by rw [HN.out]; omega)
                obtain ⟨x0, x1⟩ := hc (j + 1) (by rw [HN.out]; omega)
                obtain ⟨z2, z3⟩ := hc k (by rw [HN.out]; omega)
                obtain ⟨x2, x3⟩ := hc (k + 1) (by rw [HN.out]; omega)
                have y0 := cell_regrown z0; have y1 := cell_regrown z1; have u0 := cell_regrown x0; have u1 := cell_regrown x1
                have y2 := cell_regrown z2; have y3 := cell_regrown z3; have u2 := cell_regrown x2; have u3 := cell_regrown x3
                have c1 := fun d os => refRelate_any (lpt ps j).1 (lpt ps j).2 (lpt ps (j + 1)).1 (lpt ps (j + 1)).2 (lpt ps k).1 (lpt ps k).2 (lpt ps (k + 1)).1 (lpt ps (k + 1)).2 (grow (redrawn wc d) os)
                have HRL : Hid (sgR ps ps j k = relP (near (lpt ps j).1, near (lpt ps j).2) (near (lpt ps (j + 1)).1, near (lpt ps (j + 1)).2) (near (lpt ps k).1, near (lpt ps k).2) (near (lpt ps (k + 1)).1, near (lpt ps (k + 1)).2)) := hid rfl
                generalize relP (near (lpt ps j).1, near (lpt ps j).2) (near (lpt ps (j + 1)).1, near (lpt ps (j + 1)).2) (near (lpt ps k).1, near (lpt ps k).2) (near (lpt ps (k + 1)).1, near (lpt ps (k + 1)).2) = RL at *
                generalize (lpt ps j).1 = X0 at *
                generalize (lpt ps j).2 = Y0 at *
                generalize (lpt ps (j + 1)).1 = X1 at *
                generalize (lpt ps (j + 1)).2 = Y1 at *
                generalize (lpt ps k).1 = X2 at *
                generalize (lpt ps k).2 = Y2 at *
                generalize (lpt ps (k + 1)).1 = X3 at *
                generalize (lpt ps (k + 1)).2 = Y3 at *
                clear z0 z1 x0 x1 z2 z3 x2 x3 hc hbc
                cases WB with
                | true =>
                  by_cases hr : RL = 1
                  · have gr : (RL != 1) = false := by simp [hr]
                    have HRW := hid hr
                    clear hr
                    go_wp2
                    refine wp_region_quiet_below (by kernel_rfl) (by kernel_rfl) ?_
                    go_big_quiet_step (fail)
                    go_big_quiet_step (fail)
                    go_big_quiet_step (fail)
                    go_big_quiet_step (fail)
                    go_big_quiet_step (fail)
                    go_big_quiet_step (fail)
                    go_big_quiet_step (fail)
                    go_big_quiet_step (fail)
                    go_big_quiet_step (fail)
                    go_big_quiet_step (fail)
                    go_big_quiet_step (fail)
                    go_big_quiet_step (fail)
                    go_big_quiet_step (fail)
                    go_big_quiet_step (fail)
                    go_big_quiet_step (fail)
                    go_big_quiet_step (fail)
                    go_big_quiet_step (fail)
                    go_big_quiet_step (fail)
                    go_big_quiet_step (exact Calls.regrown_of (c1 _ _))
                    go_big_quiet_step (fail)
                    go_big_quiet_step (fail)
                    refine wpQuiet_nil ?_
                    intro W1 hW'
                    obtain ⟨⟨dq, osq⟩, hW⟩ := hW'
                    have HW1 := hid (show Below wc.heap.size wc W1 by rw [hW]; exact below_regrown _ _ _)
                    clear hW
                    clear y0 y1 y2 y3 u0 u1 u2 u3 c1
                    go_wp2
                    go_roundw
                    case rel =>
                      refine ⟨k + 1, by omega, by omega, by go_num, fun t h1 h2 => ?_, HB.out.trans (HW1.out.mono HB.out.size)⟩
                      by_cases htk : t = k
                      · rw [htk, HRL.out, HWT.out, HRW.out]; rfl
                      · exact HPK.out t h1 (by omega)
                    case measure => simp [intOf]; omega
                  · have gr : (RL != 1) = true := by simpa using hr
                    have HRW := hid hr
                    clear hr
                    go_wp2
                    refine wp_region_quiet_below (by kernel_rfl) (by kernel_rfl) ?_
                    go_big_quiet_step (fail)
                    go_big_quiet_step (fail)
                    go_big_quiet_step (fail)
                    go_big_quiet_step (fail)
                    go_big_quiet_step (fail)
                    go_big_quiet_step (fail)
                    go_big_quiet_step (fail)
                    go_big_quiet_step (fail)
                    go_big_quiet_step (fail)
                    go_big_quiet_step (fail)
                    go_big_quiet_step (fail)
                    go_big_quiet_step (fail)
                    go_big_quiet_step (fail)
                    go_big_quiet_step (fail)
                    go_big_quiet_step (fail)
                    go_big_quiet_step (fail)
                    go_big_quiet_step (fail)
                    go_big_quiet_step (fail)
                    go_big_quiet_step (exact Calls.regrown_of (c1 _ _))
                    go_big_quiet_step (fail)
                    go_big_quiet_step (fail)
                    refine wpQuiet_nil ?_
                    intro W1 hW'
                    obtain ⟨⟨dq, osq⟩, hW⟩ := hW'
                    have HW1 := hid (show Below wc.heap.size wc W1 by rw [hW]; exact below_regrown _ _ _)
                    clear hW
                    clear y0 y1 y2 y3 u0 u1 u2 u3 c1
                    go_wp2
                    go_ret
                    refine ⟨?_, HB.out.trans (HW1.out.mono HB.out.size)⟩
                    rw [simpleL_noPair hjk (by rw [HLN.out]; exact hkl) (by rw [HRL.out, HWT.out]; exact HRW.out)]
                    rfl
                | false =>
                  by_cases hr : RL = 0
                  · have gr : (RL != 0) = false := by simp [hr]
                    have HRW := hid hr
                    clear hr
                    go_wp2
                    refine wp_region_quiet_below (by kernel_rfl) (by kernel_rfl) ?_
                    go_big_quiet_step (fail)
                    go_big_quiet_step (fail)
                    go_big_quiet_step (fail)
                    go_big_quiet_step (fail)
                    go_big_quiet_step (fail)
                    go_big_quiet_step (fail)
                    go_big_quiet_step (fail)
                    go_big_quiet_step (fail)
                    go_big_quiet_step (fail)
                    go_big_quiet_step (fail)
                    go_big_quiet_step (fail)
                    go_big_quiet_step (fail)
                    go_big_quiet_step (fail)
                    go_big_quiet_step (fail)
                    go_big_quiet_step (fail)
                    go_big_quiet_step (fail)
                    go_big_quiet_step (fail)
                    go_big_quiet_step (fail)
                    go_big_quiet_step (exact Calls.regrown_of (c1 _ _))
                    go_big_quiet_step (fail)
                    go_big_quiet_step (fail)
                    refine wpQuiet_nil ?_
                    intro W1 hW'
                    obtain ⟨⟨dq, osq⟩, hW⟩ := hW'
                    have HW1 := hid (show Below wc.heap.size wc W1 by rw [hW]; exact below_regrown _ _ _)
                    clear hW
                    clear y0 y1 y2 y3 u0 u1 u2 u3 c1
                    go_wp2
                    go_roundw
                    case rel =>
                      refine ⟨k + 1, by omega, by omega, by go_num, fun t h1 h2 => ?_, HB.out.trans (HW1.out.mono HB.out.size)⟩
                      by_cases htk : t = k
                      · rw [htk, HRL.out, HWT.out, HRW.out]; rfl
                      · exact HPK.out t h1 (by omega)
                    case measure => simp [intOf]; omega
                  · have gr : (RL != 0) = true := by simpa using hr
                    have HRW := hid hr
                    clear hr
                    go_wp2
                    refine wp_region_quiet_below (by kernel_rfl) (by kernel_rfl) ?_
                    go_big_quiet_step (fail)
                    go_big_quiet_step (fail)
                    go_big_quiet_step (fail)
                    go_big_quiet_step (fail)
                    go_big_quiet_step (fail)
                    go_big_quiet_step (fail)
                    go_big_quiet_step (fail)
                    go_big_quiet_step (fail)
                    go_big_quiet_step (fail)
                    go_big_quiet_step (fail)
                    go_big_quiet_step (fail)
                    go_big_quiet_step (fail)
                    go_big_quiet_step (fail)
                    go_big_quiet_step (fail)
                    go_big_quiet_step (fail)
                    go_big_quiet_step (fail)
                    go_big_quiet_step (fail)
                    go_big_quiet_step (fail)
                    go_big_quiet_step (exact Calls.regrown_of (c1 _ _))
                    go_big_quiet_step (fail)
                    go_big_quiet_step (fail)
                    refine wpQuiet_nil ?_
                    intro W1 hW'
                    obtain ⟨⟨dq, osq⟩, hW⟩ := hW'
                    have HW1 := hid (show Below wc.heap.size wc W1 by rw [hW]; exact below_regrown _ _ _)
                    clear hW
                    clear y0 y1 y2 y3 u0 u1 u2 u3 c1
                    go_wp2
                    go_ret
                    refine ⟨?_, HB.out.trans (HW1.out.mono HB.out.size)⟩
                    rw [simpleL_noPair hjk (by rw [HLN.out]; exact hkl) (by rw [HRL.out, HWT.out]; exact HRW.out)]
                    rfl
            · have hkI : ¬ (k : Int) < M := fun h => hkl ((HMN.out k).1 h)
              clear hby hpk
              go_wp2
              go_roundw
              case rel =>
                refine ⟨j + 1, by omega, by go_num, fun t ht k' h1 h2 => ?_, HB.out⟩
                by_cases htj : t = j
                · subst htj; exact HPK.out k' h1 (by omega)
                · exact HPR.out t (by omega) k' h1 h2
              case measure => simp [intOf]; omega
        · have hjI : ¬ (j : Int) < M := fun h => hjl ((HMN.out j).1 h)
          go_wp2
          go_ret
          refine ⟨?_, HB.out⟩
          rw [simpleL_true (fun t ht => HS1.out t (by rw [HLN.out] at ht; exact ht)) (fun t ht k' h1 h2 => HPR.out t (by rw [HLN.out] at ht; omega) k' h1 (by rw [HLN.out] at h2; exact h2))]
          rfl

end Go.Proofs.Ytlnjjkgjknheiaa

namespace Go.Proofs.Ytlnjjkgjknheiaa
open Go.RowKit Go.Sort

theorem gridL_true {ps : List Pp} (h : ∀ i, i < ps.length → okP (lpt ps i).1 (lpt ps i).2 = true) : gridL ps = true := by
  unfold gridL
  rw [List.all_eq_true]
  intro p hp
  obtain ⟨i, hi⟩ := List.getElem?_of_mem hp
  have := h i (List.getElem?_eq_some_iff.1 hi).1
  rwa [lpt_at hi] at this
theorem gridL_at {ps : List Pp} (h : gridL ps = true) {i : Nat} (hi : i < ps.length) : okP (lpt ps i).1 (lpt ps i).2 = true := by
  unfold gridL at h
  rw [List.all_eq_true] at h
  exact h _ (List.mem_of_getElem? (at_lpt hi))

theorem okL_len {ps : List Pp} (h : okL ps = true) : 2 ≤ ps.length ∧ ps.length ≤ 64 := by
  unfold okL at h
  simp only [Bool.and_eq_true, decide_eq_true_eq] at h
  exact ⟨h.1.1.1, h.1.1.2⟩


set_option maxHeartbeats 1600000 in
theorem refOk12_any (v : Value) (ps : List Pp) (w : World) (hp : Pts w v ps) (hl : ps.length ≤ 140737488355328) :
    Calls Try.prog 7 #[v] w fun e w' => e = .returned (.bool (okL ps)) ∧ Below w.heap.size w w' := by
  have hp' := hp
  obtain ⟨a, cap, rfl, _⟩ := hp'
  obtain ⟨n, hn⟩ : ∃ n, ps.length = n := ⟨_, rfl⟩
  have HN := hid hn
  rw [hn] at hl hp ⊢
  have HP := hid hp
  have HOK : Hid (okL ps = (decide (2 ≤ n) && decide (n ≤ 64) && gridL ps && simpleL ps)) := hid (by unfold okL; rw [HN.out])
  clear hp hn
  by_cases h2 : n < 2
  · have h2I : (n : Int) < 2 := by omega
    have g1 : decide ((n : Int) < 2) = true := decide_eq_true h2I
    go_enter Try.func7, Try.ntmps7
    go_wp2
    go_ret
    refine ⟨?_, Below.refl _ _⟩
    rw [HOK.out, decide_eq_false (show ¬ 2 ≤ n by omega)]
    rfl
  · have h2I : ¬ (n : Int) < 2 := by omega
    have g1 : decide ((n : Int) < 2) = false := decide_eq_false h2I
    by_cases h64 : 64 < n
    · have h64I : (64 : Int) < (n : Int) := by omega
      go_enter Try.func7, Try.ntmps7
      go_wp2
      go_ret
      refine ⟨?_, Below.refl _ _⟩
      rw [HOK.out, decide_eq_false (show ¬ n ≤ 64 by omega)]
      simp
    · have h64I : ¬ (64 : Int) < (n : Int) := by omega
      go_enter Try.func7, Try.ntmps7
      go_wp2
      go_loopw [3] (fun iv wr => ∃ k : Nat, k ≤ n ∧ iv = .int .i64 k ∧ (∀ i, i < k → okP (lpt ps i).1 (lpt ps i).2 = true) ∧ Below w.heap.size w wr) (fun iv _ => n - (intOf iv).toNat)
      case atStart => exact ⟨0, by omega, rfl, (fun i hi => absurd hi (Nat.not_lt_zero i)), Below.refl _ _⟩
      case round =>
        obtain ⟨k, hk, rfl, hok, hbr⟩ := hrel
        have HG := hid hok
        have HBR := hid hbr
        clear hok
        by_cases hlt : k < n
        · have hkI : (k : Int) < (n : Int) := by omega
          obtain ⟨b, off, rfl, hc⟩ := (HP.out.below hbr).row (by rw [HN.out]; omega)
          obtain ⟨z0, z1⟩ := hc k (by rw [HN.out]; omega)
          have HC := hid (fun W => refOk_any (lpt ps k).1 (lpt ps k).2 W)
          obtain ⟨O, hO⟩ : ∃ O, okP (lpt ps k).1 (lpt ps k).2 = O := ⟨_, rfl⟩
          have HO := hid (show ∀ i, i = k → okP (lpt ps i).1 (lpt ps i).2 = O from fun i hi => by rw [hi]; exact hO)
          rw [hO] at HC
          generalize (lpt ps k).1 = X0 at *
          generalize (lpt ps k).2 = Y0 at *
          clear hc hbr hO
          cases O with
          | true =>
            go_wp2_with (go_at_call 17; refine (HC.out _).mono ?_; rintro e w1 ⟨rfl, hb1⟩; replace HBR := hid (HBR.out.trans (hb1.mono HBR.out.size)); clear hb1)
            go_roundw
            case rel =>
              refine ⟨k + 1, by omega, by go_num, fun i hi => ?_, HBR.out⟩
              by_cases hik : i = k
              · exact HO.out i hik
              · exact HG.out i (by omega)
            case measure => simp [intOf]; omega
          | false =>
            go_wp2_with (go_at_call 17; refine (HC.out _).mono ?_; rintro e w1 ⟨rfl, hb1⟩; replace HBR := hid (HBR.out.trans (hb1.mono HBR.out.size)); clear hb1)
            go_ret
            refine ⟨?_, HBR.out⟩
            rw [HOK.out, show gridL ps = false by
              cases hg : gridL ps with
              | false => rfl
              | true => have := gridL_at hg (i := k) (by rw [HN.out]; exact hlt); rw [HO.out k rfl] at this; cases this]
            simp
        · have hkI : ¬ (k : Int) < (n : Int) := by omega
          have HS := hid (fun W hW => refSimple_any (.slice a n cap) ps W hW (by rw [HN.out]; omega))
          have HOK2 := hid (show okL ps = simpleL ps by
            rw [HOK.out, decide_eq_true (show 2 ≤ n by omega), decide_eq_true (show n ≤ 64 by omega), gridL_true (fun i hi => HG.out i (by rw [HN.out] at hi; omega))]
            rfl)
          clear hbr
          go_wp2_with (go_at_call 18; refine (HS.out _ (HP.out.below HBR.out)).mono ?_; rintro e w1 ⟨rfl, hb1⟩; replace HBR := hid (HBR.out.trans (hb1.mono HBR.out.size)); clear hb1)
          go_ret
          exact ⟨by rw [HOK2.out]; rfl, HBR.out⟩

end Go.Proofs.Ytlnjjkgjknheiaa

namespace Go.Proofs.Ytlnjjkgjknheiaa
open Go.RowKit Go.Sort

/-- An append touches its own row alone, and makes it anew behind all, if at all. -/
structure RowBy (w w' : World) (v v' : Value) : Prop where
  keep : ∀ b, b < w.heap.size → v.ownBlock ≠ some b → w'.heap[b]? = w.heap[b]?
  own : ∀ k, v'.ownBlock = some k → v.ownBlock = some k ∨ w.heap.size ≤ k
def Other (u v : Value) : Prop := ∀ k, u.ownBlock = some k → v.ownBlock ≠ some k
theorem PtRow.lt {w : World} {base : Nat} {v : Value} {ps : List Pp} (h : PtRow w base v ps) {k : Nat} (hk : v.ownBlock = some k) : k < w.heap.size ∧ base ≤ k := by
  rcases h.2 with ⟨rfl, h0⟩ | ⟨g, cap, cur, rfl, h1, h2, _⟩
  · cases hk
  · cases hk
    exact ⟨lt_of_heap h2, h1⟩
theorem PtRow.keep {w w' : World} {base : Nat} {v u u' : Value} {ps : List Pp} (h : PtRow w base v ps) (hg : RowBy w w' u u') (ha : Other u v) : PtRow w' base v ps ∧ Other u' v := by
  refine ⟨⟨h.1, ?_⟩, fun k hk hv => ?_⟩
  · rcases h.2 with h0 | ⟨g, cap, cur, rfl, h2, h3, h4⟩
    · exact .inl h0
    · exact .inr ⟨g, cap, cur, rfl, h2, (hg.keep g (lt_of_heap h3) fun e => ha g e rfl).trans h3, h4⟩
  · rcases hg.own k hk with e | e
    · exact ha k e hv
    · have := (h.lt hv).1
      omega
theorem ptCells_len (ps : List Pp) : (ptCells ps).length = ps.length * 2 := by
  induction ps with
  | nil => rfl
  | cons p ps ih =>
    show (ptCells ps).length + 1 + 1 = _
    rw [ih, List.length_cons]
    omega
theorem ptCells_mem {ps : List Pp} {u : Value} (h : u ∈ ptCells ps) : u.oneCell' = true := by
  unfold ptCells at h
  rw [List.mem_flatMap] at h
  obtain ⟨p, _, hp⟩ := h
  simp only [List.mem_cons, List.not_mem_nil, or_false] at hp
  rcases hp with rfl | rfl <;> rfl
theorem ptCells_get {ps : List Pp} {j : Nat} {u : Value} (h : (ptCells ps)[j]? = some u) : ∃ k p, ps[k]? = some p ∧ ((j = k * 2 ∧ u = .int .i64 p.1) ∨ (j = k * 2 + 1 ∧ u = .int .i64 p.2)) := by
  have hj := (List.getElem?_eq_some_iff.1 h).1
  rw [ptCells_len] at hj
  have hk : j / 2 < ps.length := by omega
  have hp : ps[j / 2]? = some ps[j / 2] := List.getElem?_eq_getElem hk
  obtain ⟨c0, c1⟩ := ptCells_at ps (j / 2) _ hp
  refine ⟨j / 2, _, hp, ?_⟩
  rcases (show j = j / 2 * 2 ∨ j = j / 2 * 2 + 1 by omega) with e | e
  · refine .inl ⟨e, ?_⟩
    rw [e, c0] at h
    exact (Option.some.inj h).symm
  · refine .inr ⟨e, ?_⟩
    rw [e, c1] at h
    exact (Option.some.inj h).symm
theorem addr_add (b off j : Nat) : (⟨b, off, none⟩ : Addr).add j = ⟨b, off + j, none⟩ := by
  unfold Addr.add
  split
  · rename_i h; rw [h]; rfl
  · rfl
theorem PtRow.add {w : World} {base : Nat} {v u : Value} {ps qs : List Pp} (h : PtRow w base v ps) (hs : Src w u qs) (hb : base ≤ w.heap.size) (hl : ps.length + qs.length ≤ 1000000) :
    ∃ v' w', (Builtin.append_ #[25, 25] 25 #[v, u]).run Try.prog w = .ok v' w' ∧ PtRow w' base v' (ps ++ qs) ∧ Below base w w' ∧ RowBy w w' v v' := by
  obtain ⟨i0, hi, hz0, hz1, hz2⟩ := info_parts infoPt
  rcases hs with ⟨rfl, rfl⟩ | ⟨b, off, cap, rfl, hcap, hc⟩
  · refine ⟨v, w, run_append_owned_none w base 25 25 24 i0 2 Try.underlying25 hi v ps.length _ h, by rw [List.append_nil]; exact h, Below.refl _ _, fun b _ _ => rfl, fun k hk => .inl hk⟩
  · obtain ⟨v', w', hrun, r1, r2, _, r4⟩ := run_append_own_at (P := Try.prog) w base 25 25 24 i0 _ 2 16 Try.underlying25 hi hz0 hz1 hz2 rfl (by decide) v ps.length _ h ⟨b, off, none⟩ qs.length cap (ptCells qs) (ptCells_len qs)
      (fun j u hj => by
        obtain ⟨k, p, hk, h2⟩ := ptCells_get hj
        obtain ⟨c0, c1⟩ := hc k p hk
        rcases h2 with ⟨rfl, rfl⟩ | ⟨rfl, rfl⟩
        · rw [addr_add]; exact c0
        · rw [addr_add]; exact c1) (fun u hu => ptCells_mem hu) (by unfold maxLen; omega) (by omega) hb
    refine ⟨v', w', hrun, ?_, ?_, ?_⟩
    · unfold PtRow
      rw [ptCells_app, List.length_append]
      exact r1
    · refine (Below.refl _ w).grown r2 hb (fun k e => ?_)
      exact (h.lt e).2
    · refine ⟨fun b' hb' hne => r2.block b' hb' (fun e => hne e.symm), fun k hk => ?_⟩
      rcases r4 with r4 | r4
      · exact .inl (r4.symm.trans hk)
      · rw [r4] at hk
        injection hk with hk
        exact .inr (by omega)
/-- An empty row, laid anew. -/
theorem PtRow.lit0 (w : World) : PtRow (w.alloc (.cells #[] 24)) w.heap.size (.slice (some ⟨w.heap.size, 0, none⟩) 0 0) [] :=
  World.ownsRow_lit (e := 24) (size := 2) w #[] 0 (Nat.le_refl _) (by unfold maxLen; omega) rfl
theorem PtRow.base {w : World} {base base' : Nat} {v : Value} {ps : List Pp} (h : PtRow w base v ps) (hb : base' ≤ base) : PtRow w base' v ps := by
  refine ⟨h.1, ?_⟩
  rcases h.2 with h0 | ⟨g, cap, cur, h1, h2, h3⟩
  · exact .inl h0
  · exact .inr ⟨g, cap, cur, h1, Nat.le_trans hb h2, h3⟩
/-- A slice without its first ones. -/
theorem Src.drop {w : World} {b off n cap : Nat} {ps : List Pp} (h : Src w (.slice (some ⟨b, off, none⟩) n cap) ps) {k : Nat} (hk : k ≤ ps.length) : Src w (.slice (some ⟨b, off + k * 2, none⟩) (n - k) (cap - k)) (ps.drop k) := by
  rcases h with ⟨h, _⟩ | ⟨b', off', cap', e, h1, hc⟩
  · cases h
  · injection e with e1 e2 e3
    injection e1 with e1
    injection e1 with e4 e5
    subst e2 e3 e4 e5
    refine .inr ⟨b, off + k * 2, cap - k, by rw [List.length_drop], by rw [List.length_drop]; omega, fun j p hj => ?_⟩
    rw [List.getElem?_drop] at hj
    obtain ⟨c0, c1⟩ := hc (k + j) p hj
    rw [show off + k * 2 + j * 2 = off + (k + j) * 2 by omega]
    exact ⟨c0, c1⟩
/-- Where nothing is left of the room the address stays. -/
theorem Src.none_left {w : World} {b off k : Nat} {ps : List Pp} (hk : ps.length = k) : Src w (.slice (some ⟨b, off, none⟩) 0 0) (ps.drop k) := by
  rw [List.drop_of_length_le (by omega)]
  exact .inr ⟨b, off, 0, rfl, Nat.le_refl _, fun j p hj => by cases hj⟩
theorem Src.drop1 {w : World} {b off n cap : Nat} {ps : List Pp} (h : Src w (.slice (some ⟨b, off, none⟩) n cap) ps) (hk : 1 ≤ ps.length) : Src w (.slice (some ⟨b, off + 2, none⟩) (n - 1) (cap - 1)) (ps.drop 1) := h.drop hk
theorem Src.take {w : World} {b off n cap : Nat} {ps : List Pp} (h : Src w (.slice (some ⟨b, off, none⟩) n cap) ps) {k : Nat} (hk : k ≤ ps.length) : Src w (.slice (some ⟨b, off, none⟩) k cap) (ps.take k) := by
  rcases h with ⟨h, _⟩ | ⟨b', off', cap', e, h1, hc⟩
  · cases h
  · injection e with e1 e2 e3
    injection e1 with e1
    injection e1 with e4 e5
    subst e2 e3 e4 e5
    refine .inr ⟨b, off, cap, by rw [List.length_take]; congr 1; omega, by rw [List.length_take]; omega, fun j p hj => hc j p ?_⟩
    rw [List.getElem?_take] at hj
    split at hj
    · exact hj
    · cases hj
theorem Src.at {w : World} {ao : Option Addr} {n cap : Nat} {ps : List Pp} (h : Src w (.slice ao n cap) ps) (hn : 1 ≤ ps.length) : ∃ b off, ao = some ⟨b, off, none⟩ ∧ n ≤ cap := by
  rcases h with ⟨_, rfl⟩ | ⟨b, off, cap', e, h1, _⟩
  · simp at hn
  · injection e with e1 e2 e3
    subst e1 e2 e3
    exact ⟨b, off, rfl, h1⟩
end Go.Proofs.Ytlnjjkgjknheiaa
