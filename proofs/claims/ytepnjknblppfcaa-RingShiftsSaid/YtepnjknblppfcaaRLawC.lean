/-
  Layer 13: RingShifts.
-/
import Derived.Test.YtepnjknblppfcaaRMove
namespace Go.Proofs.Ytepnjknblppfcaa
open Go.RowKit Go.Sort


theorem tmod_tt (x : Int) : -10000 < Int.tmod x 10000 ∧ Int.tmod x 10000 < 10000 := by
  have h1 := Int.tmod_lt_of_pos x (show (0 : Int) < 10000 by decide)
  have h2 := Int.lt_tmod_of_pos x (show (0 : Int) < 10000 by decide)
  omega
set_option maxRecDepth 100000 in
set_option maxHeartbeats 16000000 in
theorem ringShifts_core (H : RingC) (w : World) (u : Value) (ps : List Pp) (px py dx dy fr : Int) (hu : Src w u ps) (hlp : ps.length ≤ 140737488355328) :
    Calls Try.prog 3 #[u, pv px py, .int .i64 dx, .int .i64 dy, .int .i64 fr] w fun e w' => e = .returned (.bool true) ∧ Below w.heap.size w w' := by
  obtain ⟨ao, ca, e1, _⟩ := hu.pts
  subst e1
  obtain ⟨n, hn⟩ : ∃ n, ps.length = n := ⟨_, rfl⟩
  have HN := hid hn
  rw [hn] at hu hlp ⊢
  obtain ⟨wA, hwA⟩ : ∃ wA, w.alloc (.cells #[.int .i64 px, .int .i64 py] 24) = wA := ⟨_, rfl⟩
  obtain ⟨hA, hBL, hszA⟩ := box1 hwA
  have HPT := hid hA
  have HU := hid (hu.below hBL).pts
  have HBL := hid hBL
  clear hu hn hA hBL
  by_cases h60 : 60 < n
  · have hI : (60 : Int) < (n : Int) := by omega
    go_enter Try.func3, Try.ntmps3
    go_wp2_with (go_at_call 8; refine (ringAwake_any H _).mono ?_; rintro e w9 ⟨rfl, hb9⟩; have HB := hid (HBL.out.trans (hb9.mono HBL.out.size)); clear hb9)
    go_ret
    exact ⟨rfl, HB.out⟩
  · have hI : ¬ (60 : Int) < (n : Int) := by omega
    have hX := tmod_tt dx
    have hY := tmod_tt dy
    obtain ⟨X, eX⟩ : ∃ X, Int.tmod dx 10000 = X := ⟨_, rfl⟩
    obtain ⟨Y, eY⟩ : ∃ Y, Int.tmod dy 10000 = Y := ⟨_, rfl⟩
    rw [eX] at hX
    rw [eY] at hY
    obtain ⟨B0, hB0⟩ : ∃ B0, wA.heap.size = B0 := ⟨_, rfl⟩
    have HB0 := hid hB0
    go_enter Try.func3, Try.ntmps3
    go_wp2
    go_loopw [11, 12, 16] (fun av bv iv wr => ∃ (k : Nat) (xo yo : Option Addr) (xc yc : Nat), k ≤ n ∧ iv = .int .i64 k ∧ av = .slice xo k xc ∧ bv = .slice yo k yc ∧ PtRow wr B0 (.slice xo k xc) ((ps.take k).map md) ∧ PtRow wr B0 (.slice yo k yc) (((ps.take k).map md).map (mvP X Y)) ∧ Other (.slice xo k xc) (.slice yo k yc) ∧ Below B0 wA wr) (fun _ _ iv _ => n - (intOf iv).toNat)
    case atStart => exact ⟨0, none, none, 0, 0, by omega, rfl, rfl, rfl, PtRow.nil _ _, PtRow.nil _ _, other_nil _, Below.refl _ _⟩
    case round =>
      obtain ⟨k, xo, yo, xc, yc, hk, rfl, rfl, rfl, hra, hrb, hoth, hbr⟩ := hrel
      have HB := hid hbr
      by_cases hlt : k < n
      · have hkI : (k : Int) < (n : Int) := by omega
        have hkp : k < ps.length := by have := HN.out; omega
        have hbr' : Below wA.heap.size wA wr := by rw [hB0]; exact hbr
        obtain ⟨g, off, rfl, hcx⟩ := (HU.out.below hbr').row (by rw [HN.out]; omega)
        obtain ⟨z0, z1⟩ := hcx k hkp
        have hsB : B0 ≤ wr.heap.size := by have := hbr.size; omega
        have HLN := hid (show ((ps.take k).map md).length = k by rw [List.length_map, List.length_take]; omega)
        have HLM := hid (show (((ps.take k).map md).map (mvP X Y)).length = k by rw [List.length_map, HLN.out])
        have HT := hid (show (ps.take (k + 1)).map md = (ps.take k).map md ++ [md (lpt ps k)] by rw [take_snoc (at_lpt hkp), List.map_append]; rfl)
        have HT2 := hid (show ((ps.take (k + 1)).map md).map (mvP X Y) = ((ps.take k).map md).map (mvP X Y) ++ [mvP X Y (md (lpt ps k))] by rw [HT.out, List.map_append]; rfl)
        have hsm := sm_md (lpt ps k)
        obtain ⟨a1, c1, w1, hrun1, hrow1, hb1, hkeep1⟩ := (hra.below (Below.refl _ wr).drew).snocBy hsB (by rw [HLN.out]; omega) (md (lpt ps k)).1 (md (lpt ps k)).2
        rw [HLN.out] at hrun1 hrow1 hkeep1
        obtain ⟨hrb1, ho1⟩ := hkeep1 _ _ (hrb.below (Below.refl _ wr).drew) hoth
        obtain ⟨a2, c2, w2, hrun2, hrow2, hb2, hkeep2⟩ := (hrb1.below (Below.refl _ w1).drew).snocBy (show B0 ≤ w1.heap.size by have q : wr.heap.size ≤ w1.heap.size := hb1.size; omega) (by rw [HLM.out]; omega) (mvP X Y (md (lpt ps k))).1 (mvP X Y (md (lpt ps k))).2
        rw [HLM.out] at hrun2 hrow2 hkeep2
        obtain ⟨hra2, ho2⟩ := hkeep2 _ _ (hrow1.below (Below.refl _ w1).drew) ho1.symm
        have HA2 := hid (show PtRow w2 B0 (.slice a1 (k + 1) c1) ((ps.take (k + 1)).map md) by rw [HT.out]; exact hra2)
        have HC2 := hid (show PtRow w2 B0 (.slice a2 (k + 1) c2) (((ps.take (k + 1)).map md).map (mvP X Y)) by rw [HT2.out]; exact hrow2)
        have HO2 := hid ho2.symm
        have HB2 := hid (show Below B0 wA w2 from (hbr.drew.trans hb1).drew.trans hb2)
        obtain ⟨g1, hg1, y0, y1⟩ := hrow1.at (k := k) (p := md (lpt ps k)) (by rw [List.getElem?_append_right (by rw [HLN.out]; exact Nat.le_refl _), HLN.out, Nat.sub_self]; rfl)
        subst hg1
        have e0 : Int.tmod (lpt ps k).1 100 = (md (lpt ps k)).1 := rfl
        have e1 : Int.tmod (lpt ps k).2 100 = (md (lpt ps k)).2 := rfl
        have e2 : (md (lpt ps k)).1 + X = (mvP X Y (md (lpt ps k))).1 := rfl
        have e3 : (md (lpt ps k)).2 + Y = (mvP X Y (md (lpt ps k))).2 := rfl
        have hs1 : -100 ≤ (md (lpt ps k)).1 ∧ (md (lpt ps k)).1 ≤ 100 := hsm.1
        have hs2 : -100 ≤ (md (lpt ps k)).2 ∧ (md (lpt ps k)).2 ≤ 100 := hsm.2
        have HRUN1 := hid hrun1
        have HRUN2 := hid hrun2
        have d0 : wr.drew.cell? ⟨g, off + k * 2, none⟩ = some (.int .i64 (lpt ps k).1) := z0
        have d1 : wr.drew.cell? ⟨g, off + k * 2 + 1, none⟩ = some (.int .i64 (lpt ps k).2) := z1
        have x0 : w1.drew.cell? ⟨g1, k * 2, none⟩ = some (.int .i64 (md (lpt ps k)).1) := y0
        have x1 : w1.drew.cell? ⟨g1, k * 2 + 1, none⟩ = some (.int .i64 (md (lpt ps k)).2) := y1
        clear hsm hra hrb hoth hbr hbr' hcx hrun1 hrow1 hb1 hkeep1 hrb1 ho1 hrun2 hrow2 hb2 hkeep2 hra2 ho2 HLN HLM HT HT2
        generalize (mvP X Y (md (lpt ps k))).1 = SX at *
        generalize (mvP X Y (md (lpt ps k))).2 = SY at *
        generalize (md (lpt ps k)).1 = RX at *
        generalize (md (lpt ps k)).2 = RY at *
        generalize (lpt ps k).1 = X0 at *
        generalize (lpt ps k).2 = Y0 at *
        have hwSX : IntKind.i64.wrap SX = SX := by rw [IntKind.wrap_i64]; omega
        have hwSY : IntKind.i64.wrap SY = SY := by rw [IntKind.wrap_i64]; omega
        have hkk : k < k + 1 := by omega
        have hkkI : (k : Int) < (k : Int) + 1 := by omega
        go_wp2
        go_region_law (first
          | (refine step_append_known rfl (.tmp 34) (.tmp 48) 22 rfl rfl rfl HRUN1.out ?_))
        all_goals
          go_wp2
          go_region_law (first
            | (refine step_append_known rfl (.tmp 50) (.tmp 66) 22 rfl rfl rfl HRUN2.out ?_))
          all_goals
            go_wp2
            go_roundw
            case rel => exact ⟨k + 1, _, a2, c1, c2, by omega, by go_num, rfl, rfl, HA2.out, HC2.out, HO2.out, HB2.out⟩
            case measure => simp [intOf]; omega
      · have hkI : ¬ (k : Int) < (n : Int) := by omega
        obtain rfl : k = n := by omega
        have hall : ps.take k = ps := List.take_of_length_le (by rw [HN.out]; exact Nat.le_refl _)
        rw [hall] at hra hrb
        obtain ⟨xs, hxs⟩ : ∃ xs, ps.map md = xs := ⟨_, rfl⟩
        rw [hxs] at hra hrb
        have HLX := hid (show xs.length = k by rw [← hxs, List.length_map, HN.out])
        have HSM := hid (show ∀ p ∈ xs, Sm 100 p from fun p hp => by rw [← hxs] at hp; obtain ⟨q, _, rfl⟩ := List.mem_map.1 hp; exact sm_md q)
        have HRA := hid hra
        have HRB := hid hrb
        have HOT := hid hoth
        clear hra hrb hoth hbr hall hxs
        obtain ⟨F, hF⟩ : ∃ F : Nat, bits .and .i64 fr 255 = (F : Int) := ⟨(fr % 256).toNat, by rw [and255_ring]; omega⟩
        have hF256 : F < 256 := by have := and255_ring fr; omega
        go_wp2
        go_loopw [13, 17] (fun cv iv wx => ∃ (i : Nat) (zo : Option Addr) (zc : Nat), i ≤ k ∧ iv = .int .i64 i ∧ cv = .slice zo i zc ∧ PtRow wx B0 (.slice zo i zc) (rotL xs F i) ∧ PtRow wx B0 (.slice xo k xc) xs ∧ PtRow wx B0 (.slice yo k yc) (xs.map (mvP X Y)) ∧ Other (.slice zo i zc) (.slice xo k xc) ∧ Other (.slice zo i zc) (.slice yo k yc) ∧ Below B0 wA wx) (fun _ iv _ => k - (intOf iv).toNat)
        case atStart => exact ⟨0, none, 0, by omega, rfl, rfl, PtRow.nil _ _, HRA.out, HRB.out, other_nil _, other_nil _, HB.out⟩
        case round =>
          clear HRA HRB HOT HB
          obtain ⟨i, zo, zc, hi, rfl, rfl, hrc, hra, hrb, ho1, ho2, hbr⟩ := hrel
          have HB := hid hbr
          by_cases hlt2 : i < k
          · have hiI : (i : Int) < (k : Int) := by omega
            have hk0 : ¬ (k : Int) = 0 := by omega
            have hk0B : ((k : Int) == 0) = false := by simpa using hk0
            obtain ⟨j, hj⟩ : ∃ j : Nat, (i + F) % k = j := ⟨_, rfl⟩
            have hjk : j < k := by rw [← hj]; exact Nat.mod_lt _ (by omega)
            have hjI : (j : Int) < (k : Int) := by omega
            have hmod : ((i : Int) + (F : Int)) % (k : Int) = (j : Int) := by rw [← hj, Int.natCast_emod, Int.natCast_add]
            have htmod : Int.tmod ((i : Int) + (F : Int)) (k : Int) = (j : Int) := by rw [Int.tmod_eq_emod_of_nonneg (by omega)]; exact hmod
            have hsB : B0 ≤ wr.heap.size := by have := hbr.size; omega
            obtain ⟨g1, hg1, y0, y1⟩ := hra.at (k := j) (p := lpt xs j) (at_lpt (by rw [HLX.out]; exact hjk))
            subst hg1
            have HT := hid (show rotL xs F (i + 1) = rotL xs F i ++ [((lpt xs j).1, (lpt xs j).2)] by rw [rotL_succ, HLX.out, hj])
            obtain ⟨a1, c1, w1, hrun1, hrow1, hb1, hkeep1⟩ := hrc.snocBy hsB (by rw [rotL_len]; omega) (lpt xs j).1 (lpt xs j).2
            rw [rotL_len] at hrun1 hrow1 hkeep1
            obtain ⟨hra1, hoa1⟩ := hkeep1 _ _ hra ho1
            obtain ⟨hrb1, hob1⟩ := hkeep1 _ _ hrb ho2
            have HC1 := hid (show PtRow w1 B0 (.slice a1 (i + 1) c1) (rotL xs F (i + 1)) by rw [HT.out]; exact hrow1)
            have HA1 := hid hra1
            have HB1 := hid hrb1
            have HOA := hid hoa1
            have HOB := hid hob1
            have HBB := hid (show Below B0 wA w1 from hbr.trans hb1)
            have HRUN := hid hrun1
            clear hrc hra hrb ho1 ho2 hbr hrun1 hrow1 hb1 hkeep1 hra1 hrb1 hoa1 hob1 HT hj
            generalize (lpt xs j).1 = X0 at *
            generalize (lpt xs j).2 = Y0 at *
            go_wp2_with (at_builtin; refine wpList_append_run rfl (.tmp 74) (.tmp 85) 22 rfl rfl rfl HRUN.out ?_)
            go_roundw
            case rel => exact ⟨i + 1, a1, c1, by omega, by go_num, rfl, HC1.out, HA1.out, HB1.out, HOA.out, HOB.out, HBB.out⟩
            case measure => simp [intOf]; omega
          · have hiI : ¬ (i : Int) < (k : Int) := by omega
            obtain rfl : i = k := by omega
            have hpt := HPT.out.below hbr (show w.heap.size < B0 by have := HB0.out; omega)
            have p0 := hpt.c0; have p1 := hpt.c1; have p2 := hpt.f0; have p3 := hpt.f1
            have hm1 := tmod_100 px
            have hm2 := tmod_100 py
            have hsp : Sm 100 (Int.tmod px 100, Int.tmod py 100) := by unfold Sm; dsimp only; omega
            obtain ⟨PX, ePX⟩ : ∃ PX, Int.tmod px 100 = PX := ⟨_, rfl⟩
            obtain ⟨PY, ePY⟩ : ∃ PY, Int.tmod py 100 = PY := ⟨_, rfl⟩
            rw [ePX] at hm1 hsp
            rw [ePY] at hm2 hsp
            obtain ⟨V1, hV1⟩ : ∃ V1, (wr.setCell ⟨w.heap.size, 0, none⟩ (.int .i64 PX)).setCell ⟨w.heap.size, 1, none⟩ (.int .i64 PY) = V1 := ⟨_, rfl⟩
            have hq : Pt V1 w.heap.size PX PY := by rw [← hV1]; exact hpt.set _ _
            have hltB : w.heap.size < B0 := by have := HB0.out; omega
            have hra1 : PtRow V1 B0 (.slice xo i xc) xs := by rw [← hV1]; exact hra.set2 hltB _ _
            have hrb1 : PtRow V1 B0 (.slice yo i yc) (xs.map (mvP X Y)) := by rw [← hV1]; exact hrb.set2 hltB _ _
            have hrc1 : PtRow V1 B0 (.slice zo i zc) (rotL xs F i) := by rw [← hV1]; exact hrc.set2 hltB _ _
            have hbw : Below w.heap.size w V1 := by rw [← hV1]; exact below_set2 (HBL.out.trans (hbr.mono (by have := HB0.out; omega))) (Nat.le_refl _)
            obtain ⟨V2, hV2⟩ : ∃ V2, V1.alloc (.cells #[.int .i64 (PX + X), .int .i64 (PY + Y)] 24) = V2 := ⟨_, rfl⟩
            obtain ⟨hQ, hBQ, hszQ⟩ := box1 hV2
            have hq2 := hq.below hBQ hq.lt
            have HPP := hid hq2
            have HQQ := hid hQ
            have HA := hid (hra1.below hBQ).src
            have HBR := hid (hrb1.below hBQ).src
            have HC := hid (hrc1.below hBQ).src
            have HBW := hid (hbw.trans (hBQ.mono hbw.size))
            have q0 := hq.c0; have q1 := hq.c1
            have r0 := hq2.c0; have r1 := hq2.c1
            have hbX : -10000 ≤ X ∧ X ≤ 10000 := by omega
            have hbY : -10000 ≤ Y ∧ Y ≤ 10000 := by omega
            have hgx : Gl xs := fun p hp => clP_small (HSM.out p hp) (by decide)
            have hir : rotL xs F i = rotL xs F xs.length := by rw [HLX.out]
            have G1 := hid (fun W h => H.inG (.slice xo i xc) xs PX PY W h hgx (clP_small hsp (by decide)) (by rw [HLX.out]; omega))
            have G2 := hid (fun W h => H.inG (.slice yo i yc) (xs.map (mvP X Y)) (PX + X) (PY + Y) W h (gl_mv HSM.out hbX hbY) (clP_small (sm_mv (p := (PX, PY)) hsp hbX hbY) (by decide)) (by rw [List.length_map, HLX.out]; omega))
            have G3 := hid (fun W h => H.inG (.slice zo i zc) (rotL xs F i) PX PY W h (gl_rot hgx _ _ (by rw [HLX.out]; omega)) (clP_small hsp (by decide)) (by rw [rotL_len]; omega))
            have G4 := hid (fun W h => H.area (.slice yo i yc) (xs.map (mvP X Y)) W h (gl_mv HSM.out hbX hbY) (by rw [List.length_map, HLX.out]; omega))
            have G5 := hid (fun W h => H.area (.slice xo i xc) xs W h hgx (by rw [HLX.out]; omega))
            have G6 := hid (fun W h => H.area (.slice zo i zc) (rotL xs F i) W h (gl_rot hgx _ _ (by rw [HLX.out]; omega)) (by rw [rotL_len]; omega))
            rw [show insideL (xs.map (mvP X Y)) (PX + X, PY + Y) = insideL xs (PX, PY) from insideL_mv (p := (PX, PY)) HSM.out hsp hbX hbY] at G2
            rw [show insideL (rotL xs F i) (PX, PY) = insideL xs (PX, PY) by rw [hir]; exact insideL_rot xs F _] at G3
            rw [areaL_mv HSM.out hbX hbY] at G4
            rw [show areaL (rotL xs F i) = areaL xs by rw [hir]; exact areaL_rot xs F] at G6
            generalize insideL xs (PX, PY) = IN at *
            generalize areaL xs = AR at *
            clear hrc hra hrb ho1 ho2 hbr hra1 hrb1 hrc1 hbw hQ hBQ hpt hq hq2 hsp hgx hir HSM HB HU
            have G7 := G5
            have t00 := HQQ.out.c0; have t01 := HQQ.out.c1
            go_wp2_with (first
              | (go_at_call 9; refine (G1.out _ HA.out).mono ?_; rintro e w1 ⟨rfl, hb1⟩; replace HA := hid (HA.out.below hb1); replace HBR := hid (HBR.out.below hb1); replace HC := hid (HC.out.below hb1); replace HPP := hid (HPP.out.below hb1 HPP.out.lt); replace HQQ := hid (HQQ.out.below hb1 HQQ.out.lt); replace HBW := hid (HBW.out.trans (hb1.mono HBW.out.size)); have s10 := HPP.out.c0; have s11 := HPP.out.c1; have t10 := HQQ.out.c0; have t11 := HQQ.out.c1; clear hb1 G1)
              | (go_at_call 9; refine (G2.out _ HBR.out).mono ?_; rintro e w2 ⟨rfl, hb2⟩; replace HA := hid (HA.out.below hb2); replace HBR := hid (HBR.out.below hb2); replace HC := hid (HC.out.below hb2); replace HPP := hid (HPP.out.below hb2 HPP.out.lt); replace HQQ := hid (HQQ.out.below hb2 HQQ.out.lt); replace HBW := hid (HBW.out.trans (hb2.mono HBW.out.size)); have s20 := HPP.out.c0; have s21 := HPP.out.c1; have t20 := HQQ.out.c0; have t21 := HQQ.out.c1; clear hb2 G2)
              | (go_at_call 9; refine (G3.out _ HC.out).mono ?_; rintro e w3 ⟨rfl, hb3⟩; replace HA := hid (HA.out.below hb3); replace HBR := hid (HBR.out.below hb3); replace HC := hid (HC.out.below hb3); replace HPP := hid (HPP.out.below hb3 HPP.out.lt); replace HQQ := hid (HQQ.out.below hb3 HQQ.out.lt); replace HBW := hid (HBW.out.trans (hb3.mono HBW.out.size)); have s30 := HPP.out.c0; have s31 := HPP.out.c1; have t30 := HQQ.out.c0; have t31 := HQQ.out.c1; clear hb3 G3)
              | (go_at_call 10; refine (G4.out _ HBR.out).mono ?_; rintro e w4 ⟨rfl, hb4⟩; replace HA := hid (HA.out.below hb4); replace HBR := hid (HBR.out.below hb4); replace HC := hid (HC.out.below hb4); replace HPP := hid (HPP.out.below hb4 HPP.out.lt); replace HQQ := hid (HQQ.out.below hb4 HQQ.out.lt); replace HBW := hid (HBW.out.trans (hb4.mono HBW.out.size)); have s40 := HPP.out.c0; have s41 := HPP.out.c1; have t40 := HQQ.out.c0; have t41 := HQQ.out.c1; clear hb4 G4)
              | (go_at_call 10; refine (G5.out _ HA.out).mono ?_; rintro e w5 ⟨rfl, hb5⟩; replace HA := hid (HA.out.below hb5); replace HBR := hid (HBR.out.below hb5); replace HC := hid (HC.out.below hb5); replace HPP := hid (HPP.out.below hb5 HPP.out.lt); replace HQQ := hid (HQQ.out.below hb5 HQQ.out.lt); replace HBW := hid (HBW.out.trans (hb5.mono HBW.out.size)); have s50 := HPP.out.c0; have s51 := HPP.out.c1; have t50 := HQQ.out.c0; have t51 := HQQ.out.c1; clear hb5 G5)
              | (go_at_call 10; refine (G6.out _ HC.out).mono ?_; rintro e w6 ⟨rfl, hb6⟩; replace HA := hid (HA.out.below hb6); replace HBR := hid (HBR.out.below hb6); replace HC := hid (HC.out.below hb6); replace HPP := hid (HPP.out.below hb6 HPP.out.lt); replace HQQ := hid (HQQ.out.below hb6 HQQ.out.lt); replace HBW := hid (HBW.out.trans (hb6.mono HBW.out.size)); have s60 := HPP.out.c0; have s61 := HPP.out.c1; have t60 := HQQ.out.c0; have t61 := HQQ.out.c1; clear hb6 G6)
              | (go_at_call 10; refine (G7.out _ HA.out).mono ?_; rintro e w7 ⟨rfl, hb7⟩; replace HA := hid (HA.out.below hb7); replace HBR := hid (HBR.out.below hb7); replace HC := hid (HC.out.below hb7); replace HPP := hid (HPP.out.below hb7 HPP.out.lt); replace HQQ := hid (HQQ.out.below hb7 HQQ.out.lt); replace HBW := hid (HBW.out.trans (hb7.mono HBW.out.size)); have s70 := HPP.out.c0; have s71 := HPP.out.c1; have t70 := HQQ.out.c0; have t71 := HQQ.out.c1; clear hb7 G7)
              | (go_at_call 8; refine (ringAwake_any H _).mono ?_; rintro e w8 ⟨rfl, hb8⟩; replace HBW := hid (HBW.out.trans (hb8.mono HBW.out.size)); clear hb8))
            go_ret
            exact ⟨rfl, HBW.out⟩

end Go.Proofs.Ytepnjknblppfcaa
