/-
  LineOk, LineTurns, given what line answers.
-/
import Derived.Test.YtjokpahlpkoopaaLLaw
import Derived.Test.YtjokpahlpkoopaaLRev
namespace Go.Proofs.Ytjokpahlpkoopaa
open Go.RowKit Go.Sort


set_option maxRecDepth 100000 in
set_option maxHeartbeats 3200000 in
theorem lineOk_core (H : LineC) (w : World) (v : Value) (ps : List Pp) (hs : Src w v ps) (h64 : ∀ p ∈ ps, P64 p) :
    Calls Try.prog 6 #[v] w fun e w' => e = .returned (.bool true) ∧ Below w.heap.size w w' := by
  obtain ⟨ao, ca, hu, _⟩ := hs.pts
  subst hu
  obtain ⟨n, hn⟩ : ∃ n, ps.length = n := ⟨_, rfl⟩
  have HN := hid hn
  rw [hn] at hs ⊢
  have HS := hid hs
  have H64 := hid h64
  have HB := hid (Below.refl w.heap.size w)
  clear hs hn h64
  by_cases h70 : 70 < n
  · have hI : (70 : Int) < (n : Int) := by omega
    go_enter Try.func6, Try.ntmps6
    go_wp2_with (first
      | (go_at_call 10; refine (lineAwake_any H _).mono ?_; rintro e w9 ⟨rfl, hb9⟩; replace HB := hid (HB.out.trans (hb9.mono HB.out.size)); clear hb9))
    go_ret
    exact ⟨rfl, HB.out⟩
  · have hI : ¬ (70 : Int) < (n : Int) := by omega
    have HL := hid (show ps.length ≤ 70 by rw [HN.out]; omega)
    have HG := hid (gl_map ps)
    have HGL := hid (show (ps.map clP).length ≤ 70 by rw [List.length_map]; exact HL.out)
    have H1 := hid (fun W h => H.ok (.slice ao n ca) ps W h H64.out (by have := HL.out; omega))
    have H2 := hid (fun W h => refOk12_any (.slice ao n ca) ps W h (by have := HL.out; omega))
    have H3 := hid (fun v W h => H.closed v (ps.map clP) W h HG.out (by have := HGL.out; omega))
    have H4 := hid (fun v W h => refClosed_any v (ps.map clP) W h (by have := HGL.out; omega))
    have H5 := hid (fun v W h => H.simple v (ps.map clP) W h HG.out (by have := HGL.out; omega))
    have H6 := hid (fun v W h => refSimple_any v (ps.map clP) W h (by have := HGL.out; omega))
    have H7 := hid (fun W h => grid_any (.slice ao n ca) ps W h (by have := HL.out; omega))
    generalize okL ps = O1 at *
    generalize closedL (ps.map clP) = O2 at *
    generalize simpleL (ps.map clP) = O3 at *
    go_enter Try.func6, Try.ntmps6
    go_wp2_with (first
      | (go_at_call 15; refine (H7.out _ HS.out.pts).mono ?_; rintro e w1 ⟨⟨g, rfl, hg⟩, hb1⟩; replace HS := hid (HS.out.below hb1); replace HB := hid (HB.out.trans (hb1.mono HB.out.size)); have HGS := hid hg; clear hg; clear hb1)
      | (go_at_call 16; refine (H1.out _ HS.out).mono ?_; rintro e w2 ⟨rfl, hb2⟩; replace HS := hid (HS.out.below hb2); replace HGS := hid (HGS.out.below hb2); replace HB := hid (HB.out.trans (hb2.mono HB.out.size)); clear hb2)
      | (go_at_call 9; refine (H2.out _ HS.out.pts).mono ?_; rintro e w3 ⟨rfl, hb3⟩; replace HS := hid (HS.out.below hb3); replace HGS := hid (HGS.out.below hb3); replace HB := hid (HB.out.trans (hb3.mono HB.out.size)); clear hb3)
      | (go_at_call 18; refine (H3.out _ _ HGS.out).mono ?_; rintro e w4 ⟨rfl, hb4⟩; replace HGS := hid (HGS.out.below hb4); replace HB := hid (HB.out.trans (hb4.mono HB.out.size)); clear hb4)
      | (go_at_call 20; refine (H4.out _ _ HGS.out.pts).mono ?_; rintro e w5 ⟨rfl, hb5⟩; replace HGS := hid (HGS.out.below hb5); replace HB := hid (HB.out.trans (hb5.mono HB.out.size)); clear hb5)
      | (go_at_call 21; refine (H5.out _ _ HGS.out).mono ?_; rintro e w6 ⟨rfl, hb6⟩; replace HGS := hid (HGS.out.below hb6); replace HB := hid (HB.out.trans (hb6.mono HB.out.size)); clear hb6)
      | (go_at_call 22; refine (H6.out _ _ HGS.out.pts).mono ?_; rintro e w7 ⟨rfl, hb7⟩; replace HGS := hid (HGS.out.below hb7); replace HB := hid (HB.out.trans (hb7.mono HB.out.size)); clear hb7)
      | (go_at_call 10; refine (lineAwake_any H _).mono ?_; rintro e w8 ⟨rfl, hb8⟩; replace HB := hid (HB.out.trans (hb8.mono HB.out.size)); clear hb8))
    go_ret
    exact ⟨rfl, HB.out⟩



set_option maxRecDepth 100000 in
set_option maxHeartbeats 3200000 in
theorem lineTurns_core (H : LineC) (w : World) (u v : Value) (ps qs : List Pp) (hu : Src w u ps) (hv : Src w v qs) (hlp : ps.length ≤ 140737488355328) (hlq : qs.length ≤ 140737488355328) :
    Calls Try.prog 7 #[u, v] w fun e w' => e = .returned (.bool true) ∧ Below w.heap.size w w' := by
  obtain ⟨ao, ca, e1, _⟩ := hu.pts
  obtain ⟨bo, cb, e2, _⟩ := hv.pts
  subst e1 e2
  obtain ⟨n, hn⟩ : ∃ n, ps.length = n := ⟨_, rfl⟩
  obtain ⟨m, hm⟩ : ∃ m, qs.length = m := ⟨_, rfl⟩
  have HN := hid hn
  have HM := hid hm
  rw [hn] at hu hlp ⊢
  rw [hm] at hv hlq ⊢
  have HU := hid hu
  have HV := hid hv
  have HB := hid (Below.refl w.heap.size w)
  clear hu hv hn hm
  by_cases h140 : 140 < n + m
  · have hI : (140 : Int) < (n : Int) + (m : Int) := by omega
    go_enter Try.func7, Try.ntmps7
    go_wp2_with (first
      | (go_at_call 10; refine (lineAwake_any H _).mono ?_; rintro e w9 ⟨rfl, hb9⟩; replace HB := hid (HB.out.trans (hb9.mono HB.out.size)); clear hb9))
    go_ret
    exact ⟨rfl, HB.out⟩
  · have hI : ¬ (140 : Int) < (n : Int) + (m : Int) := by omega
    obtain ⟨xs, hxs⟩ : ∃ xs, ps.map clP = xs := ⟨_, rfl⟩
    obtain ⟨ys, hys⟩ : ∃ ys, qs.map clP = ys := ⟨_, rfl⟩
    have HGX := hid (show Gl xs by rw [← hxs]; exact gl_map ps)
    have HGY := hid (show Gl ys by rw [← hys]; exact gl_map qs)
    have HLX := hid (show xs.length ≤ 140 by rw [← hxs, List.length_map, HN.out]; omega)
    have HLY := hid (show ys.length ≤ 140 by rw [← hys, List.length_map, HM.out]; omega)
    have H1 := hid (show ∀ W, Pts W (.slice ao n ca) ps → Calls Try.prog 15 #[.slice ao n ca] W fun e w' => (∃ u, e = .returned u ∧ Src w' u xs) ∧ Below W.heap.size W w' from fun W h => by rw [← hxs]; exact grid_any _ ps W h (by rw [HN.out]; omega))
    have H2 := hid (show ∀ W, Pts W (.slice bo m cb) qs → Calls Try.prog 15 #[.slice bo m cb] W fun e w' => (∃ u, e = .returned u ∧ Src w' u ys) ∧ Below W.heap.size W w' from fun W h => by rw [← hys]; exact grid_any _ qs W h (by rw [HM.out]; omega))
    have HLR := hid (show xs.reverse.length ≤ 140 by rw [List.length_reverse]; exact HLX.out)
    have HGR := hid HGX.out.rev
    have HJL := hid (show (joinL xs ys).length ≤ 100000 by
      have h1 := HLX.out; have h2 := HLY.out
      unfold joinL
      split
      · rw [List.length_append, List.length_drop]; omega
      · rw [List.length_append]; omega)
    have HRR : Hid (okL xs.reverse = okL xs) := hid (okL_rev xs)
    have D1 : Hid (decide (xs.reverse = xs.reverse) = true) := hid (by simp)
    have D2 : Hid (decide (xs.reverse.reverse = xs) = true) := hid (by simp)
    have D3 : Hid (decide (joinL xs ys = joinL xs ys) = true) := hid (by simp)
    obtain ⟨DS, hDS⟩ : ∃ DS, decide (xs = ys) = DS := ⟨_, rfl⟩
    have HDS := hid hDS
    obtain ⟨OK, hOK⟩ : ∃ OK, okL xs = OK := ⟨_, rfl⟩
    have HOK := hid hOK
    have F3 := hid (fun x W h => H.rev x xs W h HGX.out (by have := HLX.out; omega))
    have F4 := hid (fun x W h => refReverse_any x xs W h (by have := HLX.out; omega))
    have F5 := hid (fun r r2 W h h' => refSame_any r r2 xs.reverse xs.reverse W h h' (by have := HLR.out; omega))
    have F6 := hid (fun r W h => H.rev r xs.reverse W h HGR.out (by have := HLR.out; omega))
    have F7 := hid (fun r x W h h' => refSame_any r x xs.reverse.reverse xs W h h' (by rw [List.reverse_reverse]; have := HLX.out; omega))
    have F8 := hid (fun x y W h h' => H.join x y xs ys W h h' HGX.out HGY.out (by have := HLX.out; omega) (by have := HLY.out; omega))
    have F10 := hid (fun x y W h h' => refJoin_any x y xs ys W h h' (by have := HLX.out; omega) (by have := HLY.out; omega))
    have F11 := hid (fun x y W h h' => refSame_any x y (joinL xs ys) (joinL xs ys) W h h' HJL.out)
    have F12 := hid (fun x y W h h' => H.same x y xs ys W h h' HGX.out HGY.out (by have := HLX.out; omega) (by have := HLY.out; omega))
    have F13 := hid (fun x y W h h' => refSame_any x y xs ys W h h' (by have := HLX.out; omega))
    have F14 := hid (fun r W h => H.ok r xs.reverse W h HGR.out.p64 (by have := HLR.out; omega))
    have F15 := hid (fun x W h => H.ok x xs W h HGX.out.p64 (by have := HLX.out; omega))
    clear hxs hys hDS hOK
    go_enter Try.func7, Try.ntmps7
    go_wp2_with (first
      | (go_at_call 15; refine (H1.out _ HU.out.pts).mono ?_; rintro e w1 ⟨⟨x, rfl, hx⟩, hb1⟩; replace HU := hid (HU.out.below hb1); replace HV := hid (HV.out.below hb1); replace HB := hid (HB.out.trans (hb1.mono HB.out.size)); have HX := hid hx; clear hx H1; clear hb1)
      | (go_at_call 15; refine (H2.out _ HV.out.pts).mono ?_; rintro e w2 ⟨⟨y, rfl, hy⟩, hb2⟩; replace HX := hid (HX.out.below hb2); replace HB := hid (HB.out.trans (hb2.mono HB.out.size)); have HY := hid hy; clear hy H2; clear hb2)
      | (go_at_call 17; refine (F3.out _ _ HX.out).mono ?_; rintro e w3 ⟨⟨r, rfl, hr⟩, hb3⟩; replace HX := hid (HX.out.below hb3); replace HY := hid (HY.out.below hb3); replace HB := hid (HB.out.trans (hb3.mono HB.out.size)); have HR := hid hr; clear hr F3; clear hb3)
      | (go_at_call 23; refine (F4.out _ _ HX.out.pts).mono ?_; rintro e w4 ⟨⟨r2, rfl, hr⟩, hb4⟩; replace HX := hid (HX.out.below hb4); replace HY := hid (HY.out.below hb4); replace HR := hid (HR.out.below hb4); replace HB := hid (HB.out.trans (hb4.mono HB.out.size)); have HR2 := hid hr; clear hr F4; clear hb4)
      | (go_at_call 13; refine (F5.out _ _ _ HR.out.pts HR2.out.pts).mono ?_; rintro e w5 ⟨rfl, hb5⟩; replace HX := hid (HX.out.below hb5); replace HY := hid (HY.out.below hb5); replace HR := hid (HR.out.below hb5); replace HB := hid (HB.out.trans (hb5.mono HB.out.size)); rw [D1.out]; clear F5 HR2 D1; clear hb5)
      | (go_at_call 17; refine (F6.out _ _ HR.out).mono ?_; rintro e w6 ⟨⟨r3, rfl, hr⟩, hb6⟩; replace HX := hid (HX.out.below hb6); replace HY := hid (HY.out.below hb6); replace HR := hid (HR.out.below hb6); replace HB := hid (HB.out.trans (hb6.mono HB.out.size)); have HR3 := hid hr; clear hr F6; clear hb6)
      | (go_at_call 13; refine (F7.out _ _ _ HR3.out.pts HX.out.pts).mono ?_; rintro e w7 ⟨rfl, hb7⟩; replace HX := hid (HX.out.below hb7); replace HY := hid (HY.out.below hb7); replace HR := hid (HR.out.below hb7); replace HB := hid (HB.out.trans (hb7.mono HB.out.size)); rw [D2.out]; clear F7 HR3 D2; clear hb7)
      | (go_at_call 12; refine (F8.out _ _ _ HX.out HY.out).mono ?_; rintro e w8 ⟨⟨j1, rfl, hr⟩, hb8⟩; replace HX := hid (HX.out.below hb8); replace HY := hid (HY.out.below hb8); replace HR := hid (HR.out.below hb8); replace HB := hid (HB.out.trans (hb8.mono HB.out.size)); have HJ1 := hid hr; clear hr F8; clear hb8)
      | (go_at_call 24; refine (F10.out _ _ _ HX.out HY.out).mono ?_; rintro e w10 ⟨⟨j2, rfl, hr⟩, hb10⟩; replace HX := hid (HX.out.below hb10); replace HY := hid (HY.out.below hb10); replace HR := hid (HR.out.below hb10); replace HJ1 := hid (HJ1.out.below hb10); replace HB := hid (HB.out.trans (hb10.mono HB.out.size)); have HJ2 := hid hr; clear hr F10; clear hb10)
      | (go_at_call 13; refine (F11.out _ _ _ HJ1.out.pts HJ2.out.pts).mono ?_; rintro e w11 ⟨rfl, hb11⟩; replace HX := hid (HX.out.below hb11); replace HY := hid (HY.out.below hb11); replace HR := hid (HR.out.below hb11); replace HB := hid (HB.out.trans (hb11.mono HB.out.size)); rw [D3.out]; clear F11 HJ1 HJ2 D3; clear hb11)
      | (go_at_call 25; refine (F12.out _ _ _ HX.out HY.out).mono ?_; rintro e w12 ⟨rfl, hb12⟩; replace HX := hid (HX.out.below hb12); replace HY := hid (HY.out.below hb12); replace HR := hid (HR.out.below hb12); replace HB := hid (HB.out.trans (hb12.mono HB.out.size)); rw [HDS.out]; clear F12; clear hb12)
      | (go_at_call 13; refine (F13.out _ _ _ HX.out.pts HY.out.pts).mono ?_; rintro e w13 ⟨rfl, hb13⟩; replace HX := hid (HX.out.below hb13); replace HY := hid (HY.out.below hb13); replace HR := hid (HR.out.below hb13); replace HB := hid (HB.out.trans (hb13.mono HB.out.size)); rw [HDS.out]; clear F13; clear hb13)
      | (go_at_call 16; refine (F14.out _ _ HR.out).mono ?_; rintro e w14 ⟨rfl, hb14⟩; replace HX := hid (HX.out.below hb14); replace HB := hid (HB.out.trans (hb14.mono HB.out.size)); rw [HRR.out, HOK.out]; clear F14; clear hb14)
      | (go_at_call 16; refine (F15.out _ _ HX.out).mono ?_; rintro e w15 ⟨rfl, hb15⟩; replace HB := hid (HB.out.trans (hb15.mono HB.out.size)); rw [HOK.out]; clear F15; clear hb15)
      | (go_at_call 10; refine (lineAwake_any H _).mono ?_; rintro e w16 ⟨rfl, hb16⟩; replace HB := hid (HB.out.trans (hb16.mono HB.out.size)); clear hb16))
    go_ret
    exact ⟨rfl, HB.out⟩

end Go.Proofs.Ytjokpahlpkoopaa
