/-
  LineSplits, given what line answers.
-/
import Derived.Test.YtjokpahlpkoopaaMG
namespace Go.Proofs.Ytjokpahlpkoopaa
open Go.RowKit Go.Sort


set_option maxRecDepth 100000 in
set_option maxHeartbeats 6400000 in
theorem lineSplits_core (H : LineC) (w : World) (v : Value) (ps : List Pp) (px py : Int) (hs : Src w v ps) (hlp : ps.length ≤ 140737488355328) :
    Calls Try.prog 8 #[v, pv px py] w fun e w' => e = .returned (.bool true) ∧ Below w.heap.size w w' := by
  obtain ⟨ao, ca, hu, _⟩ := hs.pts
  subst hu
  obtain ⟨n, hn⟩ : ∃ n, ps.length = n := ⟨_, rfl⟩
  have HN := hid hn
  rw [hn] at hs hlp ⊢
  obtain ⟨wP, hwP⟩ : ∃ wP, w.alloc (.cells #[.int .i64 px, .int .i64 py] 29) = wP := ⟨_, rfl⟩
  obtain ⟨hPp, hBP, hszP⟩ := box1 hwP
  have a0 := hPp.c0; have a1 := hPp.c1
  have HP := hid hPp
  have HB := hid hBP
  have HS := hid (hs.below hBP)
  clear hs hn hPp hBP
  by_cases h70 : 70 < n
  · have hI : (70 : Int) < (n : Int) := by omega
    go_enter Try.func8, Try.ntmps8
    go_wp2_with (first
      | (go_at_call 10; refine (lineAwake_any H _).mono ?_; rintro e w9 ⟨rfl, hb9⟩; replace HB := hid (HB.out.trans (hb9.mono HB.out.size)); clear hb9))
    go_ret
    exact ⟨rfl, HB.out⟩
  · have hI : ¬ (70 : Int) < (n : Int) := by omega
    obtain ⟨xs, hxs⟩ : ∃ xs, ps.map clP = xs := ⟨_, rfl⟩
    have HXN := hid (show xs.length = n by rw [← hxs, List.length_map]; exact HN.out)
    have HG := hid (show Gl xs by rw [← hxs]; exact gl_map ps)
    have hgp : clP (near px, near py) = (near px, near py) := clP_clP (px, py)
    have F1 := hid (show ∀ W, Pts W (.slice ao n ca) ps → Calls Try.prog 15 #[.slice ao n ca] W fun e w' => (∃ u, e = .returned u ∧ PtRow w' W.heap.size u xs) ∧ Below W.heap.size W w' from fun W h => by rw [← hxs]; exact gridRow_any _ ps W h (by rw [HN.out]; omega))
    have F2 := hid (fun W => refClean_any px py W)
    generalize near px = NX at *
    generalize near py = NY at *
    have F3 := hid (fun v W h => H.at_ v xs NX NY W h HG.out hgp (by rw [HXN.out]; omega))
    have F4 := hid (fun v W h => refAt_any v xs NX NY W h (by rw [HXN.out]; omega))
    have F5 := hid (fun v W h => H.split v xs NX NY W h HG.out hgp (by rw [HXN.out]; omega))
    have F6 := hid (fun v W h => refSplit_any v xs NX NY W h (by rw [HXN.out]; omega))
    obtain ⟨g1, g2, g3, g4⟩ := split_gl HG.out hgp
    rw [HXN.out] at g3 g4
    have HJ := hid (split_join (ps := xs) (p := (NX, NY)))
    have HNO := hid (splitL_no (ps := xs) (p := (NX, NY)))
    generalize atI (atL xs (NX, NY)) = AT at *
    generalize splitL xs (NX, NY) = SP at *
    obtain ⟨⟨la, lb⟩, OK⟩ := SP
    dsimp only at F5 F6 g1 g2 g3 g4 HJ HNO
    have F7 := hid (fun x y W h h' => refSame_any x y la la W h h' (by omega))
    have F8 := hid (fun x y W h h' => refSame_any x y lb lb W h h' (by omega))
    have D1 : Hid (decide (la = la) = true) := hid (by simp)
    have D2 : Hid (decide (lb = lb) = true) := hid (by simp)
    have G1 := hid g1
    have G2 := hid g2
    clear hxs hgp g1 g2
    cases OK with
    | false =>
      go_enter Try.func8, Try.ntmps8
      go_wp2_with (first
        | (go_at_call 15; refine (F1.out _ HS.out.pts).mono ?_; rintro e w1 ⟨⟨x, rfl, hx⟩, hb1⟩; replace HB := hid (HB.out.trans (hb1.mono HB.out.size)); obtain ⟨ax, cx, ex⟩ := hx.form; subst ex; rw [HXN.out] at hx ⊢; have HXR := hid hx; replace HP := hid (HP.out.below hb1 HP.out.lt); have p0 := HP.out.c0; have p1 := HP.out.c1; clear hx F1; clear hb1)
        | (go_at_call 26; refine (F2.out _).mono ?_; rintro e w2 ⟨rfl, hb2⟩; replace HXR := hid (HXR.out.below hb2); replace HB := hid (HB.out.trans (hb2.mono HB.out.size)); replace HP := hid (HP.out.below hb2 HP.out.lt); have q0 := HP.out.c0; have q1 := HP.out.c1; have q2 := HP.out.f0; have q3 := HP.out.f1; obtain ⟨V, hV⟩ : ∃ V, (w2.setCell ⟨w.heap.size, 0, none⟩ (.int .i64 NX)).setCell ⟨w.heap.size, 1, none⟩ (.int .i64 NY) = V := ⟨_, rfl⟩; replace HP := hid (show Pt V w.heap.size NX NY by rw [← hV]; exact HP.out.set _ _); replace HB := hid (show Below w.heap.size w V by rw [← hV]; exact below_set2 HB.out (Nat.le_refl _)); have HX := hid (show Src V (.slice ax n cx) xs by rw [← hV]; exact (HXR.out.set2 (by omega) _ _).src); clear F2 HXR; clear hb2))
      have p2 := cell_regrown HP.out.c0; have p3 := cell_regrown HP.out.c1
      have c1 := fun d os => F3.out _ (grow (redrawn V d) os) (HX.out.below (below_regrown _ _ _))
      have c2 := fun d os => F4.out _ (grow (redrawn V d) os) ((HX.out.below (below_regrown _ _ _)).pts)
      refine wp_region_quiet_below (by kernel_rfl) (by kernel_rfl) ?_
      go_big_quiet_step (fail)
      go_big_quiet_step (fail)
      go_big_quiet_step (exact Calls.regrown_of (c1 _ _))
      go_big_quiet_step (fail)
      go_big_quiet_step (fail)
      go_big_quiet_step (exact Calls.regrown_of (c2 _ _))
      go_big_quiet_step (fail)
      refine wpQuiet_nil ?_
      intro W3 hW'
      obtain ⟨⟨dq, osq⟩, hW⟩ := hW'
      have HW3 := hid (show Below V.heap.size V W3 by rw [hW]; exact below_regrown _ _ _)
      clear hW
      replace HX := hid (HX.out.below HW3.out)
      replace HP := hid (HP.out.below HW3.out HP.out.lt)
      replace HB := hid (HB.out.trans (HW3.out.mono HB.out.size))
      clear p2 p3 c1 c2 HW3 F3 F4
      have p4 := HP.out.c0; have p5 := HP.out.c1
      go_wp2_with (first
        | (go_at_call 11; refine (F5.out _ _ HX.out).mono ?_; rintro e w5 ⟨⟨a, b, rfl, ha, hb, _, _⟩, hb5⟩; replace HX := hid (HX.out.below hb5); replace HB := hid (HB.out.trans (hb5.mono HB.out.size)); have HA := hid ha; have HC := hid hb; replace HP := hid (HP.out.below hb5 HP.out.lt); have p6 := HP.out.c0; have p7 := HP.out.c1; clear ha hb F5; clear hb5)
        | (go_at_call 28; refine (F6.out _ _ HX.out).mono ?_; rintro e w6 ⟨⟨c, d, rfl, hc, hd⟩, hb6⟩; replace HX := hid (HX.out.below hb6); replace HA := hid (HA.out.below hb6); replace HC := hid (HC.out.below hb6); replace HB := hid (HB.out.trans (hb6.mono HB.out.size)); have HC2 := hid hc; have HD2 := hid hd; clear hc hd F6; clear hb6)
        | (go_at_call 13; refine (F7.out _ _ _ HA.out.pts HC2.out.pts).mono ?_; rintro e w7 ⟨rfl, hb7⟩; replace HX := hid (HX.out.below hb7); replace HA := hid (HA.out.below hb7); replace HC := hid (HC.out.below hb7); replace HD2 := hid (HD2.out.below hb7); replace HB := hid (HB.out.trans (hb7.mono HB.out.size)); rw [D1.out]; clear F7 HC2; clear hb7)
        | (go_at_call 13; refine (F8.out _ _ _ HC.out.pts HD2.out.pts).mono ?_; rintro e w8 ⟨rfl, hb8⟩; replace HX := hid (HX.out.below hb8); replace HA := hid (HA.out.below hb8); replace HC := hid (HC.out.below hb8); replace HB := hid (HB.out.trans (hb8.mono HB.out.size)); rw [D2.out]; clear F8 HD2; clear hb8)
        | (go_at_call 10; refine (lineAwake_any H _).mono ?_; rintro e w9 ⟨rfl, hb9⟩; replace HB := hid (HB.out.trans (hb9.mono HB.out.size)); clear hb9))
      go_ret
      exact ⟨rfl, HB.out⟩
    | true =>
      obtain ⟨j1, j2, j3, j4, j5⟩ := HJ.out rfl
      have F9 := hid (fun x y W h h' => H.join x y la lb W h h' G1.out G2.out (by omega) (by omega))
      obtain ⟨jl, hjl⟩ : ∃ jl, joinL la lb = jl := ⟨_, rfl⟩
      rw [hjl] at j1 j2 j3 j4 F9
      rw [HXN.out] at j1 j2 j4 j5
      obtain ⟨m, hm⟩ : ∃ m, jl.length = m := ⟨_, rfl⟩
      rw [hm] at j1 j2 j4
      have HM := hid hm
      clear hjl hm HJ HNO
      go_enter Try.func8, Try.ntmps8
      go_wp2_with (first
        | (go_at_call 15; refine (F1.out _ HS.out.pts).mono ?_; rintro e w1 ⟨⟨x, rfl, hx⟩, hb1⟩; replace HB := hid (HB.out.trans (hb1.mono HB.out.size)); obtain ⟨ax, cx, ex⟩ := hx.form; subst ex; rw [HXN.out] at hx ⊢; have HXR := hid hx; replace HP := hid (HP.out.below hb1 HP.out.lt); have p0 := HP.out.c0; have p1 := HP.out.c1; clear hx F1; clear hb1)
        | (go_at_call 26; refine (F2.out _).mono ?_; rintro e w2 ⟨rfl, hb2⟩; replace HXR := hid (HXR.out.below hb2); replace HB := hid (HB.out.trans (hb2.mono HB.out.size)); replace HP := hid (HP.out.below hb2 HP.out.lt); have q0 := HP.out.c0; have q1 := HP.out.c1; have q2 := HP.out.f0; have q3 := HP.out.f1; obtain ⟨V, hV⟩ : ∃ V, (w2.setCell ⟨w.heap.size, 0, none⟩ (.int .i64 NX)).setCell ⟨w.heap.size, 1, none⟩ (.int .i64 NY) = V := ⟨_, rfl⟩; replace HP := hid (show Pt V w.heap.size NX NY by rw [← hV]; exact HP.out.set _ _); replace HB := hid (show Below w.heap.size w V by rw [← hV]; exact below_set2 HB.out (Nat.le_refl _)); have HX := hid (show Src V (.slice ax n cx) xs by rw [← hV]; exact (HXR.out.set2 (by omega) _ _).src); clear F2 HXR; clear hb2))
      have p2 := cell_regrown HP.out.c0; have p3 := cell_regrown HP.out.c1
      have c1 := fun d os => F3.out _ (grow (redrawn V d) os) (HX.out.below (below_regrown _ _ _))
      have c2 := fun d os => F4.out _ (grow (redrawn V d) os) ((HX.out.below (below_regrown _ _ _)).pts)
      refine wp_region_quiet_below (by kernel_rfl) (by kernel_rfl) ?_
      go_big_quiet_step (fail)
      go_big_quiet_step (fail)
      go_big_quiet_step (exact Calls.regrown_of (c1 _ _))
      go_big_quiet_step (fail)
      go_big_quiet_step (fail)
      go_big_quiet_step (exact Calls.regrown_of (c2 _ _))
      go_big_quiet_step (fail)
      refine wpQuiet_nil ?_
      intro W3 hW'
      obtain ⟨⟨dq, osq⟩, hW⟩ := hW'
      have HW3 := hid (show Below V.heap.size V W3 by rw [hW]; exact below_regrown _ _ _)
      clear hW
      replace HX := hid (HX.out.below HW3.out)
      replace HP := hid (HP.out.below HW3.out HP.out.lt)
      replace HB := hid (HB.out.trans (HW3.out.mono HB.out.size))
      clear p2 p3 c1 c2 HW3 F3 F4
      have p4 := HP.out.c0; have p5 := HP.out.c1
      go_wp2_with (first
        | (go_at_call 11; refine (F5.out _ _ HX.out).mono ?_; rintro e w5 ⟨⟨a, b, rfl, ha, hb, _, _⟩, hb5⟩; replace HX := hid (HX.out.below hb5); replace HB := hid (HB.out.trans (hb5.mono HB.out.size)); have HA := hid ha; have HC := hid hb; replace HP := hid (HP.out.below hb5 HP.out.lt); have p6 := HP.out.c0; have p7 := HP.out.c1; clear ha hb F5; clear hb5)
        | (go_at_call 28; refine (F6.out _ _ HX.out).mono ?_; rintro e w6 ⟨⟨c, d, rfl, hc, hd⟩, hb6⟩; replace HX := hid (HX.out.below hb6); replace HA := hid (HA.out.below hb6); replace HC := hid (HC.out.below hb6); replace HB := hid (HB.out.trans (hb6.mono HB.out.size)); have HC2 := hid hc; have HD2 := hid hd; clear hc hd F6; clear hb6)
        | (go_at_call 13; refine (F7.out _ _ _ HA.out.pts HC2.out.pts).mono ?_; rintro e w7 ⟨rfl, hb7⟩; replace HX := hid (HX.out.below hb7); replace HA := hid (HA.out.below hb7); replace HC := hid (HC.out.below hb7); replace HD2 := hid (HD2.out.below hb7); replace HB := hid (HB.out.trans (hb7.mono HB.out.size)); rw [D1.out]; clear F7 HC2; clear hb7)
        | (go_at_call 13; refine (F8.out _ _ _ HC.out.pts HD2.out.pts).mono ?_; rintro e w8 ⟨rfl, hb8⟩; replace HX := hid (HX.out.below hb8); replace HA := hid (HA.out.below hb8); replace HC := hid (HC.out.below hb8); replace HB := hid (HB.out.trans (hb8.mono HB.out.size)); rw [D2.out]; clear F8 HD2; clear hb8)
        | (go_at_call 12; refine (F9.out _ _ _ HA.out HC.out).mono ?_; rintro e w10 ⟨⟨jv, rfl, hj⟩, hb10⟩; replace HX := hid (HX.out.below hb10); replace HB := hid (HB.out.trans (hb10.mono HB.out.size)); obtain ⟨aj, cj, ej, _⟩ := hj.pts; subst ej; rw [HM.out] at hj ⊢; have HJV := hid hj; clear hj F9; clear hb10))
      obtain ⟨bx, ox, rfl, hcx⟩ := HX.out.pts.row (by rw [HXN.out]; omega)
      obtain ⟨bj, oj, rfl, hcj⟩ := HJV.out.pts.row (by rw [HM.out]; omega)
      obtain ⟨k, rfl⟩ : ∃ k, n = k + 1 := ⟨n - 1, by omega⟩
      obtain ⟨q, rfl⟩ : ∃ q, m = q + 1 := ⟨m - 1, by omega⟩
      obtain ⟨x0, x1⟩ := hcx 0 (by rw [HXN.out]; omega)
      obtain ⟨x2, x3⟩ := hcx k (by rw [HXN.out]; omega)
      obtain ⟨y0, y1⟩ := hcj 0 (by rw [HM.out]; omega)
      obtain ⟨y2, y3⟩ := hcj q (by rw [HM.out]; omega)
      rw [Nat.add_sub_cancel, Nat.add_sub_cancel] at j4
      rw [j3] at y0 y1
      rw [j4] at y2 y3
      rw [show (0 : Nat) * 2 = 0 from rfl, Nat.add_zero] at x0 x1 y0 y1
      generalize (lpt xs 0).1 = FX at *
      generalize (lpt xs 0).2 = FY at *
      generalize (lpt xs k).1 = LX at *
      generalize (lpt xs k).2 = LY at *
      have z0 := cell_regrown x0; have z1 := cell_regrown x1; have z2 := cell_regrown x2; have z3 := cell_regrown x3
      have u0 := cell_regrown y0; have u1 := cell_regrown y1; have u2 := cell_regrown y2; have u3 := cell_regrown y3
      have caw := fun d os => lineAwake_any H (grow (redrawn w10 d) os)
      have e1 : decide ((k : Int) + 1 ≤ (q : Int) + 1) = true := decide_eq_true (by omega)
      have e1' : decide (k ≤ q) = true := decide_eq_true (by omega)
      have e1n : (k : Int) ≤ (q : Int) := by omega
      have e1m : k ≤ q := by omega
      have e2 : decide ((q : Int) + 1 ≤ (k : Int) + 1 + 1) = true := decide_eq_true (by omega)
      have e2' : decide (q ≤ k + 1) = true := decide_eq_true (by omega)
      have e2n : (q : Int) ≤ (k : Int) + 1 := by omega
      have e2m : q ≤ k + 1 := by omega
      have e3 : (k : Int) + 1 - 1 = (k : Int) := by omega
      have e4 : (q : Int) + 1 - 1 = (q : Int) := by omega
      have e5 : (k : Int) < 1000 := by omega
      have e6 : (q : Int) < 1000 := by omega
      clear hcx hcj x0 x1 x2 x3 y0 y1 y2 y3 j1 j2 j3 j4 j5
      refine wp_region_quiet_below (by kernel_rfl) (by kernel_rfl) ?_
      go_big_quiet_step (fail)
      go_big_quiet_step (fail)
      go_big_quiet_step (fail)
      go_big_quiet_step (fail)
      go_big_quiet_step (fail)
      go_big_quiet_step (fail)
      go_big_quiet_step (fail)
      go_big_quiet_step (fail)
      go_big_quiet_step (fail)
      go_big_quiet_step (fail)
      go_big_quiet_step (fail)
      go_big_quiet_step (fail)
      go_big_quiet_step (fail)
      go_big_quiet_step (fail)
      go_big_quiet_step (fail)
      go_big_quiet_step (fail)
      go_big_quiet_step (fail)
      go_big_quiet_step (fail)
      go_big_quiet_step (fail)
      go_big_quiet_step (fail)
      go_big_quiet_step (fail)
      go_big_quiet_step (fail)
      go_big_quiet_step (fail)
      go_big_quiet_step (fail)
      go_big_quiet_step (fail)
      go_big_quiet_step (fail)
      go_big_quiet_step (fail)
      go_big_quiet_step (fail)
      go_big_quiet_step (fail)
      go_big_quiet_step (fail)
      go_big_quiet_step (fail)
      go_big_quiet_step (fail)
      go_big_quiet_step (fail)
      go_big_quiet_step (fail)
      go_big_quiet_step (fail)
      go_big_quiet_step (fail)
      go_big_quiet_step (fail)
      go_big_quiet_step (fail)
      go_big_quiet_step (exact Calls.regrown_of (caw _ _))
      go_big_quiet_step (fail)
      go_big_quiet_step (fail)
      refine wpQuiet_nil ?_
      intro W9 hW'
      obtain ⟨⟨dq, osq⟩, hW⟩ := hW'
      have HW9 := hid (show Below w10.heap.size w10 W9 by rw [hW]; exact below_regrown _ _ _)
      clear hW
      clear z0 z1 z2 z3 u0 u1 u2 u3 caw
      go_wp2
      go_ret
      exact ⟨rfl, HB.out.trans (HW9.out.mono HB.out.size)⟩

end Go.Proofs.Ytjokpahlpkoopaa
