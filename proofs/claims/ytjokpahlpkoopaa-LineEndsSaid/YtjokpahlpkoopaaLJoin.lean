/-
  Layer 12: the document's Join.
-/
import Derived.Test.YtjokpahlpkoopaaMF
namespace Go.Proofs.Ytjokpahlpkoopaa
open Go.RowKit Go.Sort


set_option maxRecDepth 100000 in
set_option maxHeartbeats 3200000 in
theorem refJoin_any (u v : Value) (ps qs : List Pp) (w : World) (ha : Src w u ps) (hb : Src w v qs) (hl : ps.length ≤ 1000) (hm : qs.length ≤ 1000) :
    Calls Try.prog 24 #[u, v] w fun e w' => (∃ x, e = .returned x ∧ Src w' x (joinL ps qs)) ∧ Below w.heap.size w w' := by
  obtain ⟨ao, ca, hu, _⟩ := ha.pts
  obtain ⟨bo, cb, hv, _⟩ := hb.pts
  subst hu hv
  obtain ⟨n, hn⟩ : ∃ n, ps.length = n := ⟨_, rfl⟩
  obtain ⟨m, hmm⟩ : ∃ m, qs.length = m := ⟨_, rfl⟩
  have HN := hid hn
  have HM := hid hmm
  rw [hn] at hl ha ⊢
  rw [hmm] at hm hb ⊢
  have HA0 := hid ha
  have HB0 := hid hb
  obtain ⟨wA, hwA⟩ : ∃ wA, w.alloc (.cells #[] 29) = wA := ⟨_, rfl⟩
  have hbA : Below w.heap.size w wA := by rw [← hwA]; exact (Below.refl _ _).alloc (Nat.le_refl _) _
  obtain ⟨v1, w1, hrun1, hrow1, hb1, _⟩ := (show PtRow wA w.heap.size (.slice (some ⟨w.heap.size, 0, none⟩) 0 0) [] by rw [← hwA]; exact PtRow.lit0 w).add (ha.below hbA) hbA.size (by rw [hn]; simp; omega)
  rw [List.nil_append] at hrow1
  have HRUN1 := hid hrun1
  have HROW1 := hid hrow1
  have HBW1 := hid (hbA.trans hb1)
  clear hrun1 hrow1 hb1 hbA ha hb hn hmm
  by_cases h1 : 0 < n
  · have h1I : (0 : Int) < (n : Int) := by omega
    have g1 : decide ((0 : Int) < (n : Int)) = true := decide_eq_true h1I
    have g1' : decide (0 < n) = true := decide_eq_true h1
    by_cases h2 : 0 < m
    · have h2I : (0 : Int) < (m : Int) := by omega
      have g2 : decide ((0 : Int) < (m : Int)) = true := decide_eq_true h2I
      have g2' : decide (0 < m) = true := decide_eq_true h2
      obtain ⟨b1, o1, rfl, hc⟩ := (HA0.out.pts.below HBW1.out).row (by rw [HN.out]; omega)
      obtain ⟨b2, o2, rfl, hd⟩ := (HB0.out.pts.below HBW1.out).row (by rw [HM.out]; omega)
      have hcap := HB0.out.at (by rw [HM.out]; omega)
      obtain ⟨_, _, -, hcap⟩ := hcap
      obtain ⟨z0, z1⟩ := hc (n - 1) (by rw [HN.out]; omega)
      obtain ⟨x0, x1⟩ := hd 0 (by rw [HM.out]; omega)
      have HJ : Hid (joinL ps qs = if lpt ps (n - 1) = lpt qs 0 then ps ++ qs.drop 1 else ps ++ qs) := hid (by unfold joinL; rw [HN.out, HM.out]; simp [h1, h2])
      generalize lpt ps (n - 1) = P at *
      generalize lpt qs 0 = Q at *
      obtain ⟨px, py⟩ := P
      obtain ⟨qx, qy⟩ := Q
      rw [show (0 : Nat) * 2 = 0 from rfl, Nat.add_zero] at x0 x1
      obtain ⟨k, rfl⟩ : ∃ k, n = k + 1 := ⟨n - 1, by omega⟩
      rw [Nat.add_sub_cancel] at z0 z1
      have hk1 : ((k : Int) + 1 - 1) = (k : Int) := by omega
      have g3 : decide ((0 : Int) < (k : Int) + 1) = true := decide_eq_true (by omega)
      have g3' : decide (0 < k + 1) = true := decide_eq_true (by omega)
      dsimp only at z0 z1 x0 x1
      have y0 := cell_regrown z0; have y1 := cell_regrown z1; have u0 := cell_regrown x0; have u1 := cell_regrown x1
      clear z0 z1 x0 x1 hc hd
      cases f : (px == qx && py == qy) with
      | true =>
        by_cases hcb : cb = 1
        · obtain rfl : m = 1 := by omega
          subst hcb
          have rf := fun x y => ite2_yes f (α := Result Next) x y
          have sf := fun x y => ite2_yes f (α := Prop) x y
          have HF := hid f
          go_enter Try.func24, Try.ntmps24
          go_wp2_with (at_builtin; refine wpList_append_run rfl (.tmp 6) (.tmp 7) 22 rfl rfl rfl HRUN1.out ?_)
          refine wp_region_quiet_below (by kernel_rfl) (by kernel_rfl) ?_
          go_big_quiet_step (fail)
          go_big_quiet_step (fail)
          go_big_quiet_step (fail)
          go_big_quiet_step (fail)
          go_big_quiet_step (fail)
          go_big_quiet_step (fail)
          go_big_quiet_step (fail)
          go_big_quiet_step (fail)
          go_big_quiet_step (fail)
          go_big_quiet_step (fail)
          go_big_quiet_step (fail)
          go_big_quiet_step (fail)
          go_big_quiet_step (fail)
          go_big_quiet_step (fail)
          go_big_quiet_step (fail)
          go_big_quiet_step (fail)
          go_big_quiet_step (fail)
          go_big_quiet_step (fail)
          go_big_quiet_step (fail)
          go_big_quiet_step (fail)
          refine wpQuiet_nil ?_
          intro W2 hW'
          obtain ⟨⟨dq, osq⟩, hW⟩ := hW'
          have HW2 := hid (show Below w1.heap.size w1 W2 by rw [hW]; exact below_regrown _ _ _)
          clear hW
          clear y0 y1 u0 u1 rf sf
          have hsrc := ((HB0.out.below HBW1.out).below HW2.out)
          obtain ⟨v2, w3, hrun2, hrow2, hb2, _⟩ := (HROW1.out.below HW2.out).add (Src.none_left (b := b2) (off := o2) (k := 1) HM.out) (HBW1.out.trans (HW2.out.mono HBW1.out.size)).size (by rw [HN.out, List.length_drop, HM.out]; omega)
          have HRUN2 := hid hrun2
          have HROW2 := hid hrow2
          have HB3 := hid ((HBW1.out.trans (HW2.out.mono HBW1.out.size)).trans hb2)
          clear hsrc hrun2 hrow2 hb2
          go_wp2_with (at_builtin; refine wpList_append_run rfl (.tmp 29) (.tmp 31) 22 rfl rfl rfl HRUN2.out ?_)
          go_ret
          refine ⟨⟨_, rfl, ?_⟩, HB3.out⟩
          rw [show joinL ps qs = ps ++ qs.drop 1 by rw [HJ.out, if_pos (by have := HF.out; simp at this; rw [this.1, this.2])]]
          exact HROW2.out.src
        · have hcb1 : 1 ≤ m := h2
          have hcb2 : (1 : Int) ≤ (m : Int) := by omega
          have rf := fun x y => ite2_yes f (α := Result Next) x y
          have sf := fun x y => ite2_yes f (α := Prop) x y
          have HF := hid f
          go_enter Try.func24, Try.ntmps24
          go_wp2_with (at_builtin; refine wpList_append_run rfl (.tmp 6) (.tmp 7) 22 rfl rfl rfl HRUN1.out ?_)
          refine wp_region_quiet_below (by kernel_rfl) (by kernel_rfl) ?_
          go_big_quiet_step (fail)
          go_big_quiet_step (fail)
          go_big_quiet_step (fail)
          go_big_quiet_step (fail)
          go_big_quiet_step (fail)
          go_big_quiet_step (fail)
          go_big_quiet_step (fail)
          go_big_quiet_step (fail)
          go_big_quiet_step (fail)
          go_big_quiet_step (fail)
          go_big_quiet_step (fail)
          go_big_quiet_step (fail)
          go_big_quiet_step (fail)
          go_big_quiet_step (fail)
          go_big_quiet_step (fail)
          go_big_quiet_step (fail)
          go_big_quiet_step (fail)
          go_big_quiet_step (fail)
          go_big_quiet_step (fail)
          go_big_quiet_step (fail)
          refine wpQuiet_nil ?_
          intro W2 hW'
          obtain ⟨⟨dq, osq⟩, hW⟩ := hW'
          have HW2 := hid (show Below w1.heap.size w1 W2 by rw [hW]; exact below_regrown _ _ _)
          clear hW
          clear y0 y1 u0 u1 rf sf
          have hsrc := ((HB0.out.below HBW1.out).below HW2.out)
          obtain ⟨v2, w3, hrun2, hrow2, hb2, _⟩ := (HROW1.out.below HW2.out).add (hsrc.drop1 (by rw [HM.out]; omega)) (HBW1.out.trans (HW2.out.mono HBW1.out.size)).size (by rw [HN.out, List.length_drop, HM.out]; omega)
          have HRUN2 := hid hrun2
          have HROW2 := hid hrow2
          have HB3 := hid ((HBW1.out.trans (HW2.out.mono HBW1.out.size)).trans hb2)
          clear hsrc hrun2 hrow2 hb2
          go_wp2_with (at_builtin; refine wpList_append_run rfl (.tmp 29) (.tmp 31) 22 rfl rfl rfl HRUN2.out ?_)
          go_ret
          refine ⟨⟨_, rfl, ?_⟩, HB3.out⟩
          rw [show joinL ps qs = ps ++ qs.drop 1 by rw [HJ.out, if_pos (by have := HF.out; simp at this; rw [this.1, this.2])]]
          exact HROW2.out.src
      | false =>
        have rf := fun x y => ite2_no f (α := Result Next) x y
        have sf := fun x y => ite2_no f (α := Prop) x y
        have HF := hid f
        go_enter Try.func24, Try.ntmps24
        go_wp2_with (at_builtin; refine wpList_append_run rfl (.tmp 6) (.tmp 7) 22 rfl rfl rfl HRUN1.out ?_)
        refine wp_region_quiet_below (by kernel_rfl) (by kernel_rfl) ?_
        go_big_quiet_step (fail)
        go_big_quiet_step (fail)
        go_big_quiet_step (fail)
        go_big_quiet_step (fail)
        go_big_quiet_step (fail)
        go_big_quiet_step (fail)
        go_big_quiet_step (fail)
        go_big_quiet_step (fail)
        go_big_quiet_step (fail)
        go_big_quiet_step (fail)
        go_big_quiet_step (fail)
        go_big_quiet_step (fail)
        go_big_quiet_step (fail)
        go_big_quiet_step (fail)
        go_big_quiet_step (fail)
        go_big_quiet_step (fail)
        go_big_quiet_step (fail)
        go_big_quiet_step (fail)
        go_big_quiet_step (fail)
        go_big_quiet_step (fail)
        refine wpQuiet_nil ?_
        intro W2 hW'
        obtain ⟨⟨dq, osq⟩, hW⟩ := hW'
        have HW2 := hid (show Below w1.heap.size w1 W2 by rw [hW]; exact below_regrown _ _ _)
        clear hW
        clear y0 y1 u0 u1 rf sf
        have hsrc := ((HB0.out.below HBW1.out).below HW2.out)
        obtain ⟨v2, w3, hrun2, hrow2, hb2, _⟩ := (HROW1.out.below HW2.out).add hsrc (HBW1.out.trans (HW2.out.mono HBW1.out.size)).size (by rw [HN.out, HM.out]; omega)
        have HRUN2 := hid hrun2
        have HROW2 := hid hrow2
        have HB3 := hid ((HBW1.out.trans (HW2.out.mono HBW1.out.size)).trans hb2)
        clear hsrc hrun2 hrow2 hb2
        go_wp2_with (at_builtin; refine wpList_append_run rfl (.tmp 33) (.tmp 34) 22 rfl rfl rfl HRUN2.out ?_)
        go_ret
        refine ⟨⟨_, rfl, ?_⟩, HB3.out⟩
        rw [show joinL ps qs = ps ++ qs by rw [HJ.out, if_neg (by have := HF.out; rintro h; injection h with e1 e2; subst e1 e2; simp at this)]]
        exact HROW2.out.src
    · have h2I : ¬ (0 : Int) < (m : Int) := by omega
      have g2 : decide ((0 : Int) < (m : Int)) = false := decide_eq_false h2I
      have g2' : decide (0 < m) = false := decide_eq_false h2
      go_enter Try.func24, Try.ntmps24
      go_wp2_with (at_builtin; refine wpList_append_run rfl (.tmp 6) (.tmp 7) 22 rfl rfl rfl HRUN1.out ?_)
      refine wp_region_quiet_below (by kernel_rfl) (by kernel_rfl) ?_
      go_big_quiet_step (fail)
      go_big_quiet_step (fail)
      go_big_quiet_step (fail)
      go_big_quiet_step (fail)
      go_big_quiet_step (fail)
      go_big_quiet_step (fail)
      go_big_quiet_step (fail)
      go_big_quiet_step (fail)
      go_big_quiet_step (fail)
      go_big_quiet_step (fail)
      go_big_quiet_step (fail)
      go_big_quiet_step (fail)
      go_big_quiet_step (fail)
      go_big_quiet_step (fail)
      go_big_quiet_step (fail)
      go_big_quiet_step (fail)
      go_big_quiet_step (fail)
      go_big_quiet_step (fail)
      go_big_quiet_step (fail)
      go_big_quiet_step (fail)
      refine wpQuiet_nil ?_
      intro W2 hW'
      obtain ⟨⟨dq, osq⟩, hW⟩ := hW'
      have HW2 := hid (show Below w1.heap.size w1 W2 by rw [hW]; exact below_regrown _ _ _)
      clear hW
      have hsrc := ((HB0.out.below HBW1.out).below HW2.out)
      obtain ⟨v2, w3, hrun2, hrow2, hb2, _⟩ := (HROW1.out.below HW2.out).add hsrc (HBW1.out.trans (HW2.out.mono HBW1.out.size)).size (by rw [HN.out, HM.out]; omega)
      have HRUN2 := hid hrun2
      have HROW2 := hid hrow2
      have HB3 := hid ((HBW1.out.trans (HW2.out.mono HBW1.out.size)).trans hb2)
      clear hsrc hrun2 hrow2 hb2
      go_wp2_with (at_builtin; refine wpList_append_run rfl (.tmp 33) (.tmp 34) 22 rfl rfl rfl HRUN2.out ?_)
      go_ret
      refine ⟨⟨_, rfl, ?_⟩, HB3.out⟩
      rw [show joinL ps qs = ps ++ qs by unfold joinL; rw [if_neg (by rw [HM.out]; omega)]]
      exact HROW2.out.src
  · have h1I : ¬ (0 : Int) < (n : Int) := by omega
    have g1 : decide ((0 : Int) < (n : Int)) = false := decide_eq_false h1I
    have g1' : decide (0 < n) = false := decide_eq_false h1
    go_enter Try.func24, Try.ntmps24
    go_wp2_with (at_builtin; refine wpList_append_run rfl (.tmp 6) (.tmp 7) 22 rfl rfl rfl HRUN1.out ?_)
    refine wp_region_quiet_below (by kernel_rfl) (by kernel_rfl) ?_
    go_big_quiet_step (fail)
    go_big_quiet_step (fail)
    go_big_quiet_step (fail)
    go_big_quiet_step (fail)
    go_big_quiet_step (fail)
    go_big_quiet_step (fail)
    go_big_quiet_step (fail)
    go_big_quiet_step (fail)
    go_big_quiet_step (fail)
    go_big_quiet_step (fail)
    go_big_quiet_step (fail)
    go_big_quiet_step (fail)
    go_big_quiet_step (fail)
    go_big_quiet_step (fail)
    go_big_quiet_step (fail)
    go_big_quiet_step (fail)
    go_big_quiet_step (fail)
    go_big_quiet_step (fail)
    go_big_quiet_step (fail)
    go_big_quiet_step (fail)
    refine wpQuiet_nil ?_
    intro W2 hW'
    obtain ⟨⟨dq, osq⟩, hW⟩ := hW'
    have HW2 := hid (show Below w1.heap.size w1 W2 by rw [hW]; exact below_regrown _ _ _)
    clear hW
    have hsrc := ((HB0.out.below HBW1.out).below HW2.out)
    obtain ⟨v2, w3, hrun2, hrow2, hb2, _⟩ := (HROW1.out.below HW2.out).add hsrc (HBW1.out.trans (HW2.out.mono HBW1.out.size)).size (by rw [HN.out, HM.out]; omega)
    have HRUN2 := hid hrun2
    have HROW2 := hid hrow2
    have HB3 := hid ((HBW1.out.trans (HW2.out.mono HBW1.out.size)).trans hb2)
    clear hsrc hrun2 hrow2 hb2
    go_wp2_with (at_builtin; refine wpList_append_run rfl (.tmp 33) (.tmp 34) 22 rfl rfl rfl HRUN2.out ?_)
    go_ret
    refine ⟨⟨_, rfl, ?_⟩, HB3.out⟩
    rw [show joinL ps qs = ps ++ qs by unfold joinL; rw [if_neg (by rw [HN.out]; omega)]]
    exact HROW2.out.src

end Go.Proofs.Ytjokpahlpkoopaa
