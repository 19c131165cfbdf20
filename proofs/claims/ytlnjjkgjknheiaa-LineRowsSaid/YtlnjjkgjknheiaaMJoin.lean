/-
  line's Join.
-/
import Derived.Test.YtlnjjkgjknheiaaMJ
namespace Go.Proofs.Ytlnjjkgjknheiaa
open Go.RowKit Go.Sort

set_option maxRecDepth 100000 in
set_option maxHeartbeats 3200000 in
/-- The last part: both slices, behind each other. -/
theorem joinRest {u v : Value} {ps qs : List Pp} {w W : World} (hb : Below w.heap.size w W) (hu : Src W u ps) (hv : Src W v qs) (hl : ps.length ≤ 1000) (hm : qs.length ≤ 1000) :
    Calls Try.prog 41 #[.slice (some ⟨W.heap.size, 0, none⟩) 2 2] (W.alloc (.cells #[u, v] 25)) fun e w' => (∃ x, e = .returned x ∧ PtRow w' w.heap.size x (ps ++ qs)) ∧ Below w.heap.size w w' := by
  obtain ⟨wA, hwA⟩ : ∃ wA, W.alloc (.cells #[u, v] 25) = wA := ⟨_, rfl⟩
  have hbA : Below W.heap.size W wA := by rw [← hwA]; exact (Below.refl _ _).alloc (Nat.le_refl _) _
  have hbw : Below w.heap.size w wA := hb.trans (hbA.mono hb.size)
  rw [hwA]
  refine (concat_any u v ps qs W.heap.size wA (hu.below hbA) (hv.below hbA) (by rw [← hwA]; unfold World.alloc; simp) hl hm).mono fun e w' ⟨⟨x, he, hx⟩, hb'⟩ => ⟨⟨x, he, hx.base hbw.size⟩, hbw.trans (hb'.mono hbw.size)⟩

set_option maxRecDepth 100000 in
set_option maxHeartbeats 3200000 in
theorem joinRow_any (u v : Value) (ps qs : List Pp) (w : World) (ha : Src w u ps) (hb : Src w v qs) (hl : ps.length ≤ 1000) (hm : qs.length ≤ 1000) :
    Calls Try.prog 29 #[u, v] w fun e w' => (∃ x, e = .returned x ∧ PtRow w' w.heap.size x (joinL ps qs)) ∧ Below w.heap.size w w' := by
  obtain ⟨ao, ca, hu, _⟩ := ha.pts
  obtain ⟨bo, cb, hv, _⟩ := hb.pts
  subst hu hv
  obtain ⟨n, hn⟩ : ∃ n, ps.length = n := ⟨_, rfl⟩
  obtain ⟨m, hmm⟩ : ∃ m, qs.length = m := ⟨_, rfl⟩
  have HN := hid hn
  have HM := hid hmm
  rw [hn] at hl ha ⊢
  rw [hmm] at hm hb ⊢
  have HA0 := hid ha
  have HB0 := hid hb
  have HC := hid (fun W (h : Below w.heap.size w W) => joinRest h (ha.below h) (hb.below h) (by rw [hn]; exact hl) (by rw [hmm]; exact hm))
  clear ha hb hn hmm
  by_cases h1 : 0 < n
  · have h1I : (0 : Int) < (n : Int) := by omega
    have g1 : decide ((0 : Int) < (n : Int)) = true := decide_eq_true h1I
    have g1' : decide (0 < n) = true := decide_eq_true h1
    by_cases h2 : 0 < m
    · have h2I : (0 : Int) < (m : Int) := by omega
      have g2 : decide ((0 : Int) < (m : Int)) = true := decide_eq_true h2I
      have g2' : decide (0 < m) = true := decide_eq_true h2
      obtain ⟨b1, o1, rfl, hc⟩ := HA0.out.pts.row (by rw [HN.out]; omega)
      obtain ⟨b2, o2, rfl, hd⟩ := HB0.out.pts.row (by rw [HM.out]; omega)
      have hcap := HB0.out.at (by rw [HM.out]; omega)
      obtain ⟨_, _, -, hcap⟩ := hcap
      obtain ⟨z0, z1⟩ := hc (n - 1) (by rw [HN.out]; omega)
      obtain ⟨x0, x1⟩ := hd 0 (by rw [HM.out]; omega)
      have HJ : Hid (joinL ps qs = if lpt ps (n - 1) = lpt qs 0 then ps ++ qs.drop 1 else ps ++ qs) := hid (by unfold joinL; rw [HN.out, HM.out]; simp [h1, h2])
      generalize lpt ps (n - 1) = P at *
      generalize lpt qs 0 = Q at *
      obtain ⟨px, py⟩ := P
      obtain ⟨qx, qy⟩ := Q
      rw [show (0 : Nat) * 2 = 0 from rfl, Nat.add_zero] at x0 x1
      obtain ⟨k, rfl⟩ : ∃ k, n = k + 1 := ⟨n - 1, by omega⟩
      rw [Nat.add_sub_cancel] at z0 z1
      have hk1 : ((k : Int) + 1 - 1) = (k : Int) := by omega
      have g3 : decide ((0 : Int) < (k : Int) + 1) = true := decide_eq_true (by omega)
      have g3' : decide (0 < k + 1) = true := decide_eq_true (by omega)
      dsimp only at z0 z1 x0 x1
      have y0 := cell_regrown z0; have y1 := cell_regrown z1; have u0 := cell_regrown x0; have u1 := cell_regrown x1
      clear z0 z1 x0 x1 hc hd
      cases f : (px == qx && py == qy) with
      | true =>
        have HF := hid f
        have HJ2 := hid (show joinL ps qs = ps ++ qs.drop 1 by rw [HJ.out, if_pos (by have := HF.out; simp at this; rw [this.1, this.2])])
        by_cases hc1 : cb = 1
        · have hm1 : m = 1 := by omega
          have HC1 := hid (fun W (h : Below w.heap.size w W) => joinRest h (HA0.out.below h) (Src.none_left (w := W) (b := b2) (off := o2) (ps := qs) (k := 1) (by rw [HM.out]; exact hm1)) (by rw [HN.out]; exact hl) (by rw [List.length_drop, HM.out]; omega))
          clear HC
          subst hc1 hm1
          have rf := fun x y => ite2_yes f (α := Result Next) x y
          have sf := fun x y => ite2_yes f (α := Prop) x y
          go_enter Try.func29, Try.ntmps29
          go_wp2
          refine wp_region_quiet_below (by kernel_rfl) (by kernel_rfl) ?_
          repeat (go_big_quiet_step (fail))
          refine wpQuiet_nil ?_
          intro W2 hW'
          obtain ⟨⟨dq, osq⟩, hW⟩ := hW'
          have HW2 := hid (show Below w.heap.size w W2 by rw [hW]; exact below_regrown _ _ _)
          clear hW
          clear y0 y1 u0 u1 rf sf
          go_wp2_with (go_at_call 41; refine (HC1.out _ HW2.out).mono ?_; rintro e w1 ⟨⟨x, rfl, hx⟩, hb1⟩; have HX := hid hx; have HB := hid hb1; clear hx hb1 HC1)
          go_ret
          exact ⟨⟨_, rfl, by rw [HJ2.out]; exact HX.out⟩, HB.out⟩
        · have hcb1 : 1 ≤ m := h2
          have hcb2 : (1 : Int) ≤ (m : Int) := by omega
          have HC1 := hid (fun W (h : Below w.heap.size w W) => joinRest h (HA0.out.below h) ((HB0.out.below h).drop1 (by rw [HM.out]; omega)) (by rw [HN.out]; exact hl) (by rw [List.length_drop, HM.out]; omega))
          clear HC
          have rf := fun x y => ite2_yes f (α := Result Next) x y
          have sf := fun x y => ite2_yes f (α := Prop) x y
          go_enter Try.func29, Try.ntmps29
          go_wp2
          refine wp_region_quiet_below (by kernel_rfl) (by kernel_rfl) ?_
          repeat (go_big_quiet_step (fail))
          refine wpQuiet_nil ?_
          intro W2 hW'
          obtain ⟨⟨dq, osq⟩, hW⟩ := hW'
          have HW2 := hid (show Below w.heap.size w W2 by rw [hW]; exact below_regrown _ _ _)
          clear hW
          clear y0 y1 u0 u1 rf sf
          go_wp2_with (go_at_call 41; refine (HC1.out _ HW2.out).mono ?_; rintro e w1 ⟨⟨x, rfl, hx⟩, hb1⟩; have HX := hid hx; have HB := hid hb1; clear hx hb1 HC1)
          go_ret
          exact ⟨⟨_, rfl, by rw [HJ2.out]; exact HX.out⟩, HB.out⟩
      | false =>
        have HF := hid f
        have HJ2 := hid (show joinL ps qs = ps ++ qs by rw [HJ.out, if_neg (by have := HF.out; rintro h; injection h with e1 e2; subst e1 e2; simp at this)])
        have rf := fun x y => ite2_no f (α := Result Next) x y
        have sf := fun x y => ite2_no f (α := Prop) x y
        go_enter Try.func29, Try.ntmps29
        go_wp2
        refine wp_region_quiet_below (by kernel_rfl) (by kernel_rfl) ?_
        repeat (go_big_quiet_step (fail))
        refine wpQuiet_nil ?_
        intro W2 hW'
        obtain ⟨⟨dq, osq⟩, hW⟩ := hW'
        have HW2 := hid (show Below w.heap.size w W2 by rw [hW]; exact below_regrown _ _ _)
        clear hW
        clear y0 y1 u0 u1 rf sf
        go_wp2_with (go_at_call 41; refine (HC.out _ HW2.out).mono ?_; rintro e w1 ⟨⟨x, rfl, hx⟩, hb1⟩; have HX := hid hx; have HB := hid hb1; clear hx hb1 HC)
        go_ret
        exact ⟨⟨_, rfl, by rw [HJ2.out]; exact HX.out⟩, HB.out⟩
    · have h2I : ¬ (0 : Int) < (m : Int) := by omega
      have g2 : decide ((0 : Int) < (m : Int)) = false := decide_eq_false h2I
      have g2' : decide (0 < m) = false := decide_eq_false h2
      have HJ2 := hid (show joinL ps qs = ps ++ qs by unfold joinL; rw [if_neg (by rw [HM.out]; omega)])
      go_enter Try.func29, Try.ntmps29
      go_wp2
      refine wp_region_quiet_below (by kernel_rfl) (by kernel_rfl) ?_
      repeat (go_big_quiet_step (fail))
      refine wpQuiet_nil ?_
      intro W2 hW'
      obtain ⟨⟨dq, osq⟩, hW⟩ := hW'
      have HW2 := hid (show Below w.heap.size w W2 by rw [hW]; exact below_regrown _ _ _)
      clear hW
      go_wp2_with (go_at_call 41; refine (HC.out _ HW2.out).mono ?_; rintro e w1 ⟨⟨x, rfl, hx⟩, hb1⟩; have HX := hid hx; have HB := hid hb1; clear hx hb1 HC)
      go_ret
      exact ⟨⟨_, rfl, by rw [HJ2.out]; exact HX.out⟩, HB.out⟩
  · have h1I : ¬ (0 : Int) < (n : Int) := by omega
    have g1 : decide ((0 : Int) < (n : Int)) = false := decide_eq_false h1I
    have g1' : decide (0 < n) = false := decide_eq_false h1
    have HJ2 := hid (show joinL ps qs = ps ++ qs by unfold joinL; rw [if_neg (by rw [HN.out]; omega)])
    go_enter Try.func29, Try.ntmps29
    go_wp2
    refine wp_region_quiet_below (by kernel_rfl) (by kernel_rfl) ?_
    repeat (go_big_quiet_step (fail))
    refine wpQuiet_nil ?_
    intro W2 hW'
    obtain ⟨⟨dq, osq⟩, hW⟩ := hW'
    have HW2 := hid (show Below w.heap.size w W2 by rw [hW]; exact below_regrown _ _ _)
    clear hW
    go_wp2_with (go_at_call 41; refine (HC.out _ HW2.out).mono ?_; rintro e w1 ⟨⟨x, rfl, hx⟩, hb1⟩; have HX := hid hx; have HB := hid hb1; clear hx hb1 HC)
    go_ret
    exact ⟨⟨_, rfl, by rw [HJ2.out]; exact HX.out⟩, HB.out⟩
end Go.Proofs.Ytlnjjkgjknheiaa
