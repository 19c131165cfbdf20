/-
  LineEnds, given what line answers.
-/
import Derived.Test.YtjokpahlpkoopaaLEndsP
namespace Go.Proofs.Ytjokpahlpkoopaa
open Go.RowKit Go.Sort


set_option maxRecDepth 100000 in
set_option maxHeartbeats 6400000 in
theorem lineEnds_core (H : LineC) (w : World) (v : Value) (ps : List Pp) (hs : Src w v ps) (hlp : ps.length ≤ 140737488355328) :
    Calls Try.prog 5 #[v] w fun e w' => e = .returned (.bool true) ∧ Below w.heap.size w w' := by
  obtain ⟨ao, ca, hu, _⟩ := hs.pts
  subst hu
  obtain ⟨n, hn⟩ : ∃ n, ps.length = n := ⟨_, rfl⟩
  have HN := hid hn
  rw [hn] at hs hlp ⊢
  have HS := hid hs
  have HB := hid (Below.refl w.heap.size w)
  clear hs hn
  by_cases h64 : 64 < n
  · have hI : (64 : Int) < (n : Int) := by omega
    have g1 : decide ((64 : Int) < (n : Int)) = true := decide_eq_true hI
    have g1' : decide (64 < n) = true := decide_eq_true h64
    go_enter Try.func5, Try.ntmps5
    go_wp2_with (first
      | (go_at_call 10; refine (lineAwake_any H _).mono ?_; rintro e w9 ⟨rfl, hb9⟩; replace HB := hid (HB.out.trans (hb9.mono HB.out.size)); clear hb9))
    go_ret
    exact ⟨rfl, HB.out⟩
  · have hI : ¬ (64 : Int) < (n : Int) := by omega
    have g1 : decide ((64 : Int) < (n : Int)) = false := decide_eq_false hI
    have g1' : decide (64 < n) = false := decide_eq_false h64
    by_cases h2 : n < 2
    · have h2I : (n : Int) < 2 := by omega
      have g2 : decide ((n : Int) < 2) = true := decide_eq_true h2I
      have g2' : decide (n < 2) = true := decide_eq_true h2
      go_enter Try.func5, Try.ntmps5
      go_wp2_with (first
        | (go_at_call 10; refine (lineAwake_any H _).mono ?_; rintro e w9 ⟨rfl, hb9⟩; replace HB := hid (HB.out.trans (hb9.mono HB.out.size)); clear hb9))
      go_ret
      exact ⟨rfl, HB.out⟩
    · have h2I : ¬ (n : Int) < 2 := by omega
      have g2 : decide ((n : Int) < 2) = false := decide_eq_false h2I
      have g2' : decide (n < 2) = false := decide_eq_false h2
      obtain ⟨xs, hxs⟩ : ∃ xs, ps.map clP = xs := ⟨_, rfl⟩
      have HXN := hid (show xs.length = n by rw [← hxs, List.length_map]; exact HN.out)
      have HG := hid (show Gl xs by rw [← hxs]; exact gl_map ps)
      have F1 := hid (show ∀ W, Pts W (.slice ao n ca) ps → Calls Try.prog 15 #[.slice ao n ca] W fun e w' => (∃ u, e = .returned u ∧ Src w' u xs) ∧ Below W.heap.size W w' from fun W h => by rw [← hxs]; exact grid_any _ ps W h (by rw [HN.out]; omega))
      have HRL := hid (show xs.reverse.length ≤ 64 by rw [List.length_reverse, HXN.out]; omega)
      have F2 := hid (fun x W h => H.ok x xs W h HG.out.p64 (by rw [HXN.out]; omega))
      have F3 := hid (fun x W h => H.rev x xs W h HG.out (by rw [HXN.out]; omega))
      have F4 := hid (fun x W h => H.ok x xs.reverse W h HG.out.rev.p64 (by have := HRL.out; omega))
      have F5 := hid (fun x W h => H.rev x xs W h HG.out (by rw [HXN.out]; omega))
      have F6 := hid (fun x W h => H.closed x xs.reverse W h HG.out.rev (by have := HRL.out; omega))
      have F7 := hid (fun x W h => H.closed x xs W h HG.out (by rw [HXN.out]; omega))
      have F8 := F7
      rw [okL_rev] at F4
      rw [closedL_rev] at F6
      obtain ⟨OK, hOK⟩ : ∃ O, okL xs = O := ⟨_, rfl⟩
      have HOK := hid hOK
      rw [hOK] at F2 F4
      generalize closedL xs = CL at F6 F7 F8
      clear hxs hOK
      go_enter Try.func5, Try.ntmps5
      go_wp2_with (first
        | (go_at_call 15; refine (F1.out _ HS.out.pts).mono ?_; rintro e w1 ⟨⟨x, rfl, hx⟩, hb1⟩; replace HB := hid (HB.out.trans (hb1.mono HB.out.size)); obtain ⟨ax, cx, ex, _⟩ := hx.pts; subst ex; rw [HXN.out] at hx ⊢; have HX := hid hx; clear hx F1; clear hb1)
        | (go_at_call 16; refine (F2.out _ _ HX.out).mono ?_; rintro e w2 ⟨rfl, hb2⟩; replace HX := hid (HX.out.below hb2); replace HB := hid (HB.out.trans (hb2.mono HB.out.size)); clear F2; clear hb2)
        | (go_at_call 17; refine (F3.out _ _ HX.out).mono ?_; rintro e w3 ⟨⟨r, rfl, hr⟩, hb3⟩; replace HX := hid (HX.out.below hb3); replace HB := hid (HB.out.trans (hb3.mono HB.out.size)); have HR := hid hr; clear hr F3; clear hb3)
        | (go_at_call 16; refine (F4.out _ _ HR.out).mono ?_; rintro e w4 ⟨rfl, hb4⟩; replace HX := hid (HX.out.below hb4); replace HB := hid (HB.out.trans (hb4.mono HB.out.size)); clear F4 HR; clear hb4)
        | (go_at_call 17; refine (F5.out _ _ HX.out).mono ?_; rintro e w5 ⟨⟨r2, rfl, hr⟩, hb5⟩; replace HX := hid (HX.out.below hb5); replace HB := hid (HB.out.trans (hb5.mono HB.out.size)); have HR2 := hid hr; clear hr F5; clear hb5)
        | (go_at_call 18; refine (F6.out _ _ HR2.out).mono ?_; rintro e w6 ⟨rfl, hb6⟩; replace HX := hid (HX.out.below hb6); replace HB := hid (HB.out.trans (hb6.mono HB.out.size)); clear F6 HR2; clear hb6)
        | (go_at_call 18; refine (F7.out _ _ HX.out).mono ?_; rintro e w7 ⟨rfl, hb7⟩; replace HX := hid (HX.out.below hb7); replace HB := hid (HB.out.trans (hb7.mono HB.out.size)); clear F7; clear hb7))
      go_loopw [5] (fun iv wr => ∃ i : Nat, i ≤ n ∧ iv = .int .i64 i ∧ Src wr (.slice ax n cx) xs ∧ Below w.heap.size w wr) (fun iv _ => n - (intOf iv).toNat)
      case atStart => exact ⟨0, by omega, rfl, HX.out, HB.out⟩
      case round =>
        obtain ⟨i, hi, rfl, hX, hbr⟩ := hrel
        clear HX HB
        have HX := hid hX
        have HB := hid hbr
        by_cases hlt : i < n
        · have hiI : (i : Int) < (n : Int) := by omega
          obtain ⟨b, off, rfl, hc⟩ := hX.pts.row (by rw [HXN.out]; omega)
          obtain ⟨z0, z1⟩ := hc i (by rw [HXN.out]; omega)
          obtain ⟨k, hat, hk⟩ := at_own (ps := xs) (i := i) (by rw [HXN.out]; exact hlt) (by rw [HXN.out]; omega)
          have hgp : clP (lpt xs i) = lpt xs i := HG.out _ (List.mem_of_getElem? (at_lpt (by rw [HXN.out]; exact hlt)))
          have HSO := hid (fun h => split_own HG.out h (i := i) (by rw [HXN.out]; exact hlt))
          obtain ⟨⟨qx, qy⟩, hq⟩ : ∃ q, lpt xs i = q := ⟨_, rfl⟩
          rw [hq] at z0 z1 hat hgp HSO
          dsimp only at z0 z1
          have G1 := hid (fun v W h => H.at_ v xs qx qy W h HG.out hgp (by rw [HXN.out]; omega))
          rw [hat] at G1
          have G2 := hid (fun v W h => H.split v xs qx qy W h HG.out hgp (by rw [HXN.out]; omega))
          have e0 : atI (some k) = (k : Int) := rfl
          rw [e0] at G1
          rw [HXN.out] at HSO
          have k0 : decide ((k : Int) < 0) = false := decide_eq_false (by omega)
          have k0' : ¬ (k : Int) < 0 := by omega
          have kmI : ¬ max ((i : Int) - 1) 0 < (k : Int) := by omega
          have kmB : decide (max ((i : Int) - 1) 0 < (k : Int)) = false := decide_eq_false kmI
          generalize splitL xs (qx, qy) = SP at *
          obtain ⟨⟨la, lb⟩, SB⟩ := SP
          dsimp only at G2 HSO
          clear hX hbr hc hat hgp hq e0
          cases OK with
          | false =>
            go_wp2_with (first
              | (go_at_call 19; refine (G1.out _ _ HX.out).mono ?_; rintro e w10 ⟨rfl, hb10⟩; replace HX := hid (HX.out.below hb10); replace HB := hid (HB.out.trans (hb10.mono HB.out.size)); have y0 := (hb10.cell (p := ⟨b, off + i * 2, none⟩) (World.block_lt_of_cell? _ _ z0)).trans z0; have y1 := (hb10.cell (p := ⟨b, off + i * 2 + 1, none⟩) (World.block_lt_of_cell? _ _ z1)).trans z1; clear G1; clear hb10)
              | (go_at_call 11; refine (G2.out _ _ HX.out).mono ?_; rintro e w11 ⟨⟨sx, sy, rfl, _, _⟩, hb11⟩; replace HX := hid (HX.out.below hb11); replace HB := hid (HB.out.trans (hb11.mono HB.out.size)); clear G2; clear hb11))
            all_goals
              go_roundw
              case rel => exact ⟨i + 1, by omega, by go_num, HX.out, HB.out⟩
              case measure => simp [intOf]; omega
          | true =>
            have HSB := hid (HSO.out HOK.out)
            by_cases hi0 : 0 < i
            · have d0 : decide ((0 : Int) < (i : Int)) = true := decide_eq_true (by omega)
              have d0' : decide (0 < i) = true := decide_eq_true hi0
              by_cases hin : i < n - 1
              · have d1 : decide ((i : Int) < (n : Int) - 1) = true := decide_eq_true (by omega)
                have d1' : (i : Int) < (n : Int) - 1 := by omega
                obtain rfl : SB = true := by rw [HSB.out, d0', decide_eq_true hin]; rfl
                go_wp2_with (first
                  | (go_at_call 19; refine (G1.out _ _ HX.out).mono ?_; rintro e w10 ⟨rfl, hb10⟩; replace HX := hid (HX.out.below hb10); replace HB := hid (HB.out.trans (hb10.mono HB.out.size)); have y0 := (hb10.cell (p := ⟨b, off + i * 2, none⟩) (World.block_lt_of_cell? _ _ z0)).trans z0; have y1 := (hb10.cell (p := ⟨b, off + i * 2 + 1, none⟩) (World.block_lt_of_cell? _ _ z1)).trans z1; clear G1; clear hb10)
                  | (go_at_call 11; refine (G2.out _ _ HX.out).mono ?_; rintro e w11 ⟨⟨sx, sy, rfl, _, _⟩, hb11⟩; replace HX := hid (HX.out.below hb11); replace HB := hid (HB.out.trans (hb11.mono HB.out.size)); clear G2; clear hb11))
                all_goals
                  go_roundw
                  case rel => exact ⟨i + 1, by omega, by go_num, HX.out, HB.out⟩
                  case measure => simp [intOf]; omega
              · have d1 : decide ((i : Int) < (n : Int) - 1) = false := decide_eq_false (by omega)
                have d1' : ¬ (i : Int) < (n : Int) - 1 := by omega
                obtain rfl : SB = false := by rw [HSB.out, d0', decide_eq_false hin]; rfl
                go_wp2_with (first
                  | (go_at_call 19; refine (G1.out _ _ HX.out).mono ?_; rintro e w10 ⟨rfl, hb10⟩; replace HX := hid (HX.out.below hb10); replace HB := hid (HB.out.trans (hb10.mono HB.out.size)); have y0 := (hb10.cell (p := ⟨b, off + i * 2, none⟩) (World.block_lt_of_cell? _ _ z0)).trans z0; have y1 := (hb10.cell (p := ⟨b, off + i * 2 + 1, none⟩) (World.block_lt_of_cell? _ _ z1)).trans z1; clear G1; clear hb10)
                  | (go_at_call 11; refine (G2.out _ _ HX.out).mono ?_; rintro e w11 ⟨⟨sx, sy, rfl, _, _⟩, hb11⟩; replace HX := hid (HX.out.below hb11); replace HB := hid (HB.out.trans (hb11.mono HB.out.size)); clear G2; clear hb11))
                all_goals
                  go_roundw
                  case rel => exact ⟨i + 1, by omega, by go_num, HX.out, HB.out⟩
                  case measure => simp [intOf]; omega
            · have d0 : decide ((0 : Int) < (i : Int)) = false := decide_eq_false (by omega)
              have d0' : decide (0 < i) = false := decide_eq_false hi0
              obtain rfl : SB = false := by rw [HSB.out, d0']; rfl
              go_wp2_with (first
                | (go_at_call 19; refine (G1.out _ _ HX.out).mono ?_; rintro e w10 ⟨rfl, hb10⟩; replace HX := hid (HX.out.below hb10); replace HB := hid (HB.out.trans (hb10.mono HB.out.size)); have y0 := (hb10.cell (p := ⟨b, off + i * 2, none⟩) (World.block_lt_of_cell? _ _ z0)).trans z0; have y1 := (hb10.cell (p := ⟨b, off + i * 2 + 1, none⟩) (World.block_lt_of_cell? _ _ z1)).trans z1; clear G1; clear hb10)
                | (go_at_call 11; refine (G2.out _ _ HX.out).mono ?_; rintro e w11 ⟨⟨sx, sy, rfl, _, _⟩, hb11⟩; replace HX := hid (HX.out.below hb11); replace HB := hid (HB.out.trans (hb11.mono HB.out.size)); clear G2; clear hb11))
              all_goals
                go_roundw
                case rel => exact ⟨i + 1, by omega, by go_num, HX.out, HB.out⟩
                case measure => simp [intOf]; omega
        · have hiI : ¬ (i : Int) < (n : Int) := by omega
          clear hX hbr
          go_wp2_with (first
            | (go_at_call 10; refine (lineAwake_any H _).mono ?_; rintro e w12 ⟨rfl, hb12⟩; replace HB := hid (HB.out.trans (hb12.mono HB.out.size)); clear hb12))
          go_ret
          exact ⟨rfl, HB.out⟩

end Go.Proofs.Ytjokpahlpkoopaa
