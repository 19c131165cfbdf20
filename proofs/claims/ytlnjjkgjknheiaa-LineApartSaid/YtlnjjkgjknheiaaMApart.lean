/-
  line's apartAt.
-/
import Derived.Test.YtlnjjkgjknheiaaMFar
import Derived.Test.YtlnjjkgjknheiaaMG
import Derived.Test.YtlnjjkgjknheiaaESeg
import Derived.WalkMore
namespace Go.Proofs.Ytlnjjkgjknheiaa
open Go.RowKit Go.Sort

set_option maxRecDepth 100000 in
set_option maxHeartbeats 8000000 in
theorem apartAt_any (u v : Value) (ps qs : List Pp) (j k : Nat) (w : World) (hp : Pts w u ps) (hq : Pts w v qs) (hlp : ps.length ≤ 100000) (hlq : qs.length ≤ 100000) (hj : j < ps.length - 1) (hk : k < qs.length - 1) :
    Calls Try.prog 13 #[u, v, .int .i64 j, .int .i64 k] w fun e w' => e = .returned (.bool (meetL ps qs j k)) ∧ Below w.heap.size w w' := by
  obtain ⟨ao, ca, e1, _⟩ := id hp
  obtain ⟨bo, cb, e2, _⟩ := id hq
  subst e1 e2
  obtain ⟨n, hn⟩ : ∃ n, ps.length = n := ⟨_, rfl⟩
  obtain ⟨m, hm⟩ : ∃ m, qs.length = m := ⟨_, rfl⟩
  have HN := hid hn
  have HM := hid hm
  rw [hn] at hp hlp hj ⊢
  rw [hm] at hq hlq hk ⊢
  have HP := hid hp
  have HQ := hid hq
  have hjI : (j : Int) + 1 < (n : Int) := by omega
  have hjJ : (j : Int) < (n : Int) := by omega
  have hkI : (k : Int) + 1 < (m : Int) := by omega
  have hkJ : (k : Int) < (m : Int) := by omega
  obtain ⟨b1, o1, rfl, hc⟩ := hp.row (by rw [HN.out]; omega)
  obtain ⟨b2, o2, rfl, hd⟩ := hq.row (by rw [HM.out]; omega)
  obtain ⟨z0, x0⟩ := hc j (by rw [HN.out]; omega)
  obtain ⟨z1, x1⟩ := hc (j + 1) (by rw [HN.out]; omega)
  obtain ⟨z2, x2⟩ := hd k (by rw [HM.out]; omega)
  obtain ⟨z3, x3⟩ := hd (k + 1) (by rw [HM.out]; omega)
  have F1 := hid (fun W => segRelate_any (lpt ps j).1 (lpt ps j).2 (lpt ps (j + 1)).1 (lpt ps (j + 1)).2 (lpt qs k).1 (lpt qs k).2 (lpt qs (k + 1)).1 (lpt qs (k + 1)).2 W)
  have F2 := hid (fun W => segShared_any (lpt ps j).1 (lpt ps j).2 (lpt ps (j + 1)).1 (lpt ps (j + 1)).2 (lpt qs k).1 (lpt qs k).2 (lpt qs (k + 1)).1 (lpt qs (k + 1)).2 W)
  have F3 := hid (fun (sx sy : Int) W h => isEnd_any (.slice (some ⟨b1, o1, none⟩) n ca) ps sx sy W h (by rw [HN.out]; omega) (by rw [HN.out]; omega))
  have F4 := hid (fun (sx sy : Int) W h => isEnd_any (.slice (some ⟨b2, o2, none⟩) m cb) qs sx sy W h (by rw [HM.out]; omega) (by rw [HM.out]; omega))
  have HMT : Hid (meetL ps qs j k = (sgR ps qs j k == 0 || (sgR ps qs j k == 1 && endL ps (shdL ps qs j k) && endL qs (shdL ps qs j k)))) := hid rfl
  have HSG : Hid (sgR ps qs j k = relP (near (lpt ps j).1, near (lpt ps j).2) (near (lpt ps (j + 1)).1, near (lpt ps (j + 1)).2) (near (lpt qs k).1, near (lpt qs k).2) (near (lpt qs (k + 1)).1, near (lpt qs (k + 1)).2)) := hid rfl
  have HSH : Hid (shdL ps qs j k = (shdP (near (lpt ps j).1, near (lpt ps j).2) (near (lpt ps (j + 1)).1, near (lpt ps (j + 1)).2) (near (lpt qs k).1, near (lpt qs k).2) (near (lpt qs (k + 1)).1, near (lpt qs (k + 1)).2)).1) := hid rfl
  generalize shdP (near (lpt ps j).1, near (lpt ps j).2) (near (lpt ps (j + 1)).1, near (lpt ps (j + 1)).2) (near (lpt qs k).1, near (lpt qs k).2) (near (lpt qs (k + 1)).1, near (lpt qs (k + 1)).2) = SH at *
  generalize relP (near (lpt ps j).1, near (lpt ps j).2) (near (lpt ps (j + 1)).1, near (lpt ps (j + 1)).2) (near (lpt qs k).1, near (lpt qs k).2) (near (lpt qs (k + 1)).1, near (lpt qs (k + 1)).2) = RL at *
  obtain ⟨⟨SX, SY⟩, SB⟩ := SH
  dsimp only at F2 HSH
  rw [HSG.out, HSH.out] at HMT
  generalize (lpt ps j).1 = X0 at *
  generalize (lpt ps j).2 = Y0 at *
  generalize (lpt ps (j + 1)).1 = X1 at *
  generalize (lpt ps (j + 1)).2 = Y1 at *
  generalize (lpt qs k).1 = X2 at *
  generalize (lpt qs k).2 = Y2 at *
  generalize (lpt qs (k + 1)).1 = X3 at *
  generalize (lpt qs (k + 1)).2 = Y3 at *
  have c1 := fun d os => F1.out (grow (redrawn w d) os)
  have y0 := cell_regrown z0; have u0 := cell_regrown x0
  have y1 := cell_regrown z1; have u1 := cell_regrown x1
  have y2 := cell_regrown z2; have u2 := cell_regrown x2
  have y3 := cell_regrown z3; have u3 := cell_regrown x3
  clear hc hd hp hq hn hm
  by_cases hr0 : RL = 0
  · subst hr0
    go_enter Try.func13, Try.ntmps13
    go_wp2
    refine wp_region_quiet_below (by kernel_rfl) (by kernel_rfl) ?_
    go_big_quiet_step (fail)
    go_big_quiet_step (fail)
    go_big_quiet_step (fail)
    go_big_quiet_step (fail)
    go_big_quiet_step (fail)
    go_big_quiet_step (fail)
    go_big_quiet_step (fail)
    go_big_quiet_step (fail)
    go_big_quiet_step (fail)
    go_big_quiet_step (fail)
    go_big_quiet_step (fail)
    go_big_quiet_step (fail)
    go_big_quiet_step (fail)
    go_big_quiet_step (fail)
    go_big_quiet_step (fail)
    go_big_quiet_step (fail)
    go_big_quiet_step (fail)
    go_big_quiet_step (fail)
    go_big_quiet_step (exact Calls.regrown_of (c1 _ _))
    refine wpQuiet_nil ?_
    intro W1 hW'
    obtain ⟨⟨dq, osq⟩, hW⟩ := hW'
    have HW1 := hid (show Below w.heap.size w W1 by rw [hW]; exact below_regrown _ _ _)
    clear hW
    clear y0 y1 y2 y3 u0 u1 u2 u3 c1
    go_wp2
    go_ret
    exact ⟨by rw [HMT.out]; rfl, HW1.out⟩
  · have g0 : (RL == 0) = false := by simpa using hr0
    by_cases hr1 : RL = 1
    · subst hr1
      go_enter Try.func13, Try.ntmps13
      go_wp2
      refine wp_region_quiet_below (by kernel_rfl) (by kernel_rfl) ?_
      go_big_quiet_step (fail)
      go_big_quiet_step (fail)
      go_big_quiet_step (fail)
      go_big_quiet_step (fail)
      go_big_quiet_step (fail)
      go_big_quiet_step (fail)
      go_big_quiet_step (fail)
      go_big_quiet_step (fail)
      go_big_quiet_step (fail)
      go_big_quiet_step (fail)
      go_big_quiet_step (fail)
      go_big_quiet_step (fail)
      go_big_quiet_step (fail)
      go_big_quiet_step (fail)
      go_big_quiet_step (fail)
      go_big_quiet_step (fail)
      go_big_quiet_step (fail)
      go_big_quiet_step (fail)
      go_big_quiet_step (exact Calls.regrown_of (c1 _ _))
      refine wpQuiet_nil ?_
      intro W1 hW'
      obtain ⟨⟨dq, osq⟩, hW⟩ := hW'
      have HW1 := hid (show Below w.heap.size w W1 by rw [hW]; exact below_regrown _ _ _)
      clear hW
      clear y0 y1 y2 y3 u0 u1 u2 u3 c1
      go_wp2
      have HS1 := hid (show ∀ W, Below w.heap.size w W → (fun w' => w'.cell? ⟨b1, o1 + j * 2, none⟩ = some (.int .i64 X0) ∧ w'.cell? ⟨b1, o1 + j * 2 + 1, none⟩ = some (.int .i64 Y0) ∧ w'.cell? ⟨b1, o1 + (j + 1) * 2, none⟩ = some (.int .i64 X1) ∧ w'.cell? ⟨b1, o1 + (j + 1) * 2 + 1, none⟩ = some (.int .i64 Y1) ∧ w'.cell? ⟨b2, o2 + k * 2, none⟩ = some (.int .i64 X2) ∧ w'.cell? ⟨b2, o2 + k * 2 + 1, none⟩ = some (.int .i64 Y2) ∧ w'.cell? ⟨b2, o2 + (k + 1) * 2, none⟩ = some (.int .i64 X3) ∧ w'.cell? ⟨b2, o2 + (k + 1) * 2 + 1, none⟩ = some (.int .i64 Y3)) W from fun W h => ⟨cell_in z0 h, cell_in x0 h, cell_in z1 h, cell_in x1 h, cell_in z2 h, cell_in x2 h, cell_in z3 h, cell_in x3 h⟩)
      clear z0 z1 z2 z3 x0 x1 x2 x3
      have hwj : IntKind.i64.wrap ((j : Int) + 1) = (j : Int) + 1 := by rw [IntKind.wrap_i64]; omega
      have hwk : IntKind.i64.wrap ((k : Int) + 1) = (k : Int) + 1 := by rw [IntKind.wrap_i64]; omega
      have h0j : (0 : Int) ≤ (j : Int) + 1 := by omega
      have h0k : (0 : Int) ≤ (k : Int) + 1 := by omega
      have HB := HW1
      have S1 := HS1.out _ HW1.out
      have S1a := fun o => HS1.out (W1.drew.alloc o) (HW1.out.drew.alloc HW1.out.size _)
      go_cut [9, 10] from 34 to 55 (fun s7 s8 wx => ∃ bp, s7 = .pointer (some ⟨bp, 0, none⟩) ∧ s8 = .bool SB ∧ Pt wx bp SX SY ∧ Below w.heap.size w wx)
      case first =>
        go_region_held (fun w' => w'.cell? ⟨b1, o1 + j * 2, none⟩ = some (.int .i64 X0) ∧ w'.cell? ⟨b1, o1 + j * 2 + 1, none⟩ = some (.int .i64 Y0) ∧ w'.cell? ⟨b1, o1 + (j + 1) * 2, none⟩ = some (.int .i64 X1) ∧ w'.cell? ⟨b1, o1 + (j + 1) * 2 + 1, none⟩ = some (.int .i64 Y1) ∧ w'.cell? ⟨b2, o2 + k * 2, none⟩ = some (.int .i64 X2) ∧ w'.cell? ⟨b2, o2 + k * 2 + 1, none⟩ = some (.int .i64 Y2) ∧ w'.cell? ⟨b2, o2 + (k + 1) * 2, none⟩ = some (.int .i64 X3) ∧ w'.cell? ⟨b2, o2 + (k + 1) * 2 + 1, none⟩ = some (.int .i64 Y3)) (first | exact S1 | exact S1a _ | exact S5 | exact S5a _ | exact S5s) (first | (go_at_call 26; refine (F2.out _).mono ?_; rintro e w5 ⟨rfl, hb5⟩; have HB5 := hid (show Below W1.heap.size W1 w5 by first | exact (Below.refl _ W1).drew.trans hb5 | exact ((Below.refl _ W1).drew.alloc (Nat.le_refl _) _).trans (hb5.mono (by simp))); have S5 := HS1.out _ (HW1.out.trans (HB5.out.mono HW1.out.size)); have S5a := fun o => HS1.out (w5.alloc o) ((HW1.out.trans (HB5.out.mono HW1.out.size)).alloc (by have := HW1.out.size; have := HB5.out.size; omega) _); have S5s := HS1.out _ (below_set2 (b := W1.heap.size) (u := .int .i64 SX) (v := .int .i64 SY) (HW1.out.trans (HB5.out.mono HW1.out.size)) HW1.out.size); first | (have hPB : Pt w5 W1.heap.size 0 0 := (Pt.new W1.drew 0 0).below hb5 (by simp); have HPB := hid hPB; have q0 := hPB.c0; have q1 := hPB.c1; have q2 := hPB.f0; have q3 := hPB.f1; clear hPB hb5) | clear hb5))
        all_goals
          go_wp2
          go_meet
          case rel => first
            | exact ⟨_, rfl, rfl, Pt.new _ _ _, (HB.out.trans (HB5.out.mono HB.out.size)).alloc (by have := HB.out.size; have := HB5.out.size; omega) _⟩
            | exact ⟨_, rfl, rfl, HPB.out.set _ _, below_set2 (HB.out.trans (HB5.out.mono HB.out.size)) HB.out.size⟩
      case rest =>
        obtain ⟨bp, rfl, rfl, hpv, hbv⟩ := hcut
        clear HB
        have HPV := hid hpv
        have HB := hid hbv
        have v0 := HPV.out.c0; have v1 := HPV.out.c1
        obtain ⟨E1, hE1⟩ : ∃ E, endL ps (SX, SY) = E := ⟨_, rfl⟩
        obtain ⟨E2, hE2⟩ : ∃ E, endL qs (SX, SY) = E := ⟨_, rfl⟩
        have HE1 := hid hE1
        have HE2 := hid hE2
        clear hpv hbv hE1 hE2 S1 S1a HS1
        cases E1 with
        | true =>
          go_wp2_with (first
            | (go_at_call 27; refine (F3.out SX SY _ (HP.out.below HB.out)).mono ?_; rintro e w5 ⟨rfl, hb5⟩; rw [HE1.out]; replace HPV := hid (HPV.out.below hb5 HPV.out.lt); have p2 := HPV.out.c0; have p3 := HPV.out.c1; replace HB := hid (HB.out.trans (hb5.mono HB.out.size)); clear hb5 F3)
            | (go_at_call 27; refine (F4.out SX SY _ (HQ.out.below HB.out)).mono ?_; rintro e w6 ⟨rfl, hb6⟩; rw [HE2.out]; replace HB := hid (HB.out.trans (hb6.mono HB.out.size)); clear hb6 F4))
          go_ret
          exact ⟨by rw [HMT.out, HE1.out, HE2.out]; cases E2 <;> rfl, HB.out⟩
        | false =>
          go_wp2_with (first
            | (go_at_call 27; refine (F3.out SX SY _ (HP.out.below HB.out)).mono ?_; rintro e w5 ⟨rfl, hb5⟩; rw [HE1.out]; replace HPV := hid (HPV.out.below hb5 HPV.out.lt); have p2 := HPV.out.c0; have p3 := HPV.out.c1; replace HB := hid (HB.out.trans (hb5.mono HB.out.size)); clear hb5 F3)
            | (go_at_call 27; refine (F4.out SX SY _ (HQ.out.below HB.out)).mono ?_; rintro e w6 ⟨rfl, hb6⟩; rw [HE2.out]; replace HB := hid (HB.out.trans (hb6.mono HB.out.size)); clear hb6 F4))
          go_ret
          exact ⟨by rw [HMT.out, HE1.out]; rfl, HB.out⟩
    · have g1 : (RL == 1) = false := by simpa using hr1
      go_enter Try.func13, Try.ntmps13
      go_wp2
      refine wp_region_quiet_below (by kernel_rfl) (by kernel_rfl) ?_
      go_big_quiet_step (fail)
      go_big_quiet_step (fail)
      go_big_quiet_step (fail)
      go_big_quiet_step (fail)
      go_big_quiet_step (fail)
      go_big_quiet_step (fail)
      go_big_quiet_step (fail)
      go_big_quiet_step (fail)
      go_big_quiet_step (fail)
      go_big_quiet_step (fail)
      go_big_quiet_step (fail)
      go_big_quiet_step (fail)
      go_big_quiet_step (fail)
      go_big_quiet_step (fail)
      go_big_quiet_step (fail)
      go_big_quiet_step (fail)
      go_big_quiet_step (fail)
      go_big_quiet_step (fail)
      go_big_quiet_step (exact Calls.regrown_of (c1 _ _))
      refine wpQuiet_nil ?_
      intro W1 hW'
      obtain ⟨⟨dq, osq⟩, hW⟩ := hW'
      have HW1 := hid (show Below w.heap.size w W1 by rw [hW]; exact below_regrown _ _ _)
      clear hW
      clear y0 y1 y2 y3 u0 u1 u2 u3 c1
      go_wp2
      go_ret
      exact ⟨by rw [HMT.out, g0, g1]; rfl, HW1.out⟩
end Go.Proofs.Ytlnjjkgjknheiaa
