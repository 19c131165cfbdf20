/-
  DiskLasts: the walk.
-/
import Derived.Test.YtindjkgkdldooaaLastsMem
namespace Go.Proofs.Ytindjkgkdldooaa
open Go.RowKit

set_option maxRecDepth 8000 in
set_option maxHeartbeats 4000000 in
theorem diskLasts_walk (w : World) (v0 : Value) (fs : List Int) (h0 : Ints w v0 fs) (_ : fs.length ≤ reachBytes) (v1 : Value) (ts : List Int) (h1 : Ints w v1 ts) (_ : ts.length ≤ reachBytes) (v2 : Value) (ks : List Int) (h2 : Ints w v2 ks) (hkl : ks.length ≤ reachBytes) :
    Calls Try.prog 5 #[v0, v1, v2] w fun e w' => e = .returned (.bool true) ∧ Below w.heap.size w w' := by
  have HK2 := hid h2
  obtain ⟨r0, a0, c0, rfl, hc0⟩ := h0
  obtain ⟨r1, a1, c1, rfl, hc1⟩ := h1
  obtain ⟨r2, a2, c2, rfl, hc2⟩ := h2
  have HC0 := hid hc0
  have HC1 := hid hc1
  have HC2 := hid hc2
  have HR2 := hid r2
  clear hc0 hc1 hc2 r0 r1 r2
  have hkl' : ks.length ≤ 140737488355328 := by unfold reachBytes at hkl; omega
  have HKL := hid hkl'
  clear hkl hkl'
  have HN := hid (new_any 16 w (by omega))
  go_enter Try.func5, Try.ntmps5
  go_wp2_with (go_at_call 7; refine HN.out.mono ?_; rintro e w1 ⟨B, rfl, hd1, hb1⟩; have HB1 := hid hb1; have HD1 := hid hd1; clear HN hd1 hb1)
  obtain ⟨W0, hW0⟩ : ∃ W0, w1.alloc (.cells ((List.replicate 16 (0 : Int)).map (Value.int .i64)).toArray 51) = W0 := ⟨_, rfl⟩
  have hLa0 : La w B w1.heap.size (Dk.new 16) (List.replicate 16 0) W0 := by
    have hf : Below w1.heap.size w1 W0 := by rw [← hW0]; exact (Below.refl _ w1).alloc (Nat.le_refl _) _
    exact ⟨HD1.out.below hf, by unfold Arr; rw [← hW0]; exact heap_new w1 _, HB1.out.trans (hf.mono HB1.out.size), HB1.out.size, rfl⟩
  change Code.wp _ _ _ _ (w1.alloc (.cells ((List.replicate 16 (0 : Int)).map (Value.int .i64)).toArray 51))
  rw [hW0]
  have HL0 := hid hLa0
  clear hW0 hLa0 HB1 HD1
  obtain ⟨Bl, hBl⟩ : ∃ Bl, w1.heap.size = Bl := ⟨_, rfl⟩
  rw [hBl] at HL0 ⊢
  clear hBl
  go_loopw [10, 11] (fun i _ wr => ∃ (k : Nat) (d : Dk) (xs : List Int), k ≤ fs.length ∧ k ≤ 40 ∧ i = .int .i64 k ∧ La w B Bl d xs wr ∧ Wants d.now xs ∧ d.wait.length ≤ k ∧ d.writes ≤ k) (fun i _ _ => 40 - (intOf i).toNat)
  case atStart => exact ⟨0, _, _, Nat.zero_le _, by omega, rfl, HL0.out, wants_new, by simp [Dk.new], by simp [Dk.new]⟩
  case round =>
    obtain ⟨k, d, xs, hkl, hk40, rfl, hLa, hWa, hwt, hwr⟩ := hrel
    clear HL0
    by_cases hlt : k < fs.length ∧ k < 40
    · obtain ⟨b, off, rfl, hce⟩ := int_at HC0.out hLa.below hlt.1
      obtain ⟨y, hy⟩ : ∃ y, y = fs.getD k 0 := ⟨_, rfl⟩
      rw [← hy] at hce
      obtain ⟨q, hq, hq16⟩ := and15 y
      have hltL : (k : Int) < (fs.length : Int) := by omega
      have hlt40 : (k : Int) < 40 := by omega
      have HS := hid (sector_any ((k : Int) + 1) wr)
      have HWX := hid (hWa.set hq16 (y := (k : Int) + 1) (by omega) (by omega))
      have hxl := hWa.xlen
      have HLA := hid hLa
      have hql : (q : Int) < 16 := by omega
      clear hy hLa hWa
      go_wp2_with (first
        | (go_at_call 9; refine HS.out.mono ?_; rintro e w3 ⟨g3, rfl, ho3, hb3⟩; have HL3 := hid (HLA.out.fresh hb3); have HW := hid (write_any HL3.out.disk (i := q) hq16 (by rw [HL3.out.left]; decide) (sec_secL ((k : Int) + 1)) (has_sec ho3) (by omega) (by omega)); clear ho3 hb3 HS HLA)
        | (go_at_call 8; refine HW.out.mono ?_; rintro e w4 ⟨rfl, hd4, hk4⟩; have HL4 := hid (HL3.out.step hd4 hk4 (by { show burn d.left = -1; rw [HL3.out.left]; rfl })); have hca := HL4.out.arr.cell (p := q) (by omega); have hfa := HL4.out.arr.frozen q; clear HW HL3 hd4 hk4))
      go_roundw
      case rel => exact ⟨k + 1, d.write q (secL ((k : Int) + 1)), xs.set q ((k : Int) + 1), by omega, by omega, by go_num, HL4.out.put q _, by rw [now_write]; exact HWX.out, by simp [Dk.write]; omega, by show d.writes + 1 ≤ _; omega⟩
      case measure => simp [intOf]; omega
    · have HF := hid (flush_any hLa.disk (by rw [hLa.left]; decide) (by omega))
      have HLA := hid hLa
      have HWA := hid hWa
      clear hLa hWa
      have HWK : Hid (Wants (app d.flush.last (kept ks d.flush.wait)) xs) := HWA.out
      rcases (show ¬ ((k : Int) < (fs.length : Int)) ∨ ((k : Int) < (fs.length : Int) ∧ ¬ ((k : Int) < 40)) by omega) with hx1 | ⟨hx1, hx2⟩
      · have hx2 : True := trivial
        clear hkl hlt HWA
        go_wp2_with (first
          | (go_at_call 10; refine HF.out.mono ?_; rintro e w5 ⟨rfl, hd5, hk5⟩; have HL5 := hid (HLA.out.step hd5 hk5 (by { show burn d.left = -1; rw [HLA.out.left]; rfl })); have HWT := hid (waiting_any hd5); clear HF HLA hd5 hk5)
          | (go_at_call 13; refine HWT.out.mono ?_; rintro e w6 ⟨rfl, hw6⟩; have hw6' := hw6.symm; clear hw6 HWT; subst hw6'))
        go_loopw [12, 13, 14] (fun i _ _ wr => ∃ (k2 : Nat) (d2 : Dk) (x2 : List Int), k2 ≤ ts.length ∧ k2 ≤ 40 ∧ i = .int .i64 k2 ∧ La w B Bl d2 x2 wr ∧ Wants (app d2.last (kept ks d2.wait)) x2 ∧ d2.wait.length = k2 ∧ d2.writes ≤ 40 + k2) (fun i _ _ _ => 40 - (intOf i).toNat)
        case atStart => exact ⟨0, _, _, Nat.zero_le _, by omega, rfl, HL5.out, HWK.out, rfl, (show d.writes ≤ 40 + ((0 : Nat) : Int) by omega)⟩
        case round =>
          obtain ⟨k2, d2, x2, hk2l, hk240, rfl, hLa, hWa, hwt2, hwr2⟩ := hrel
          clear HL5 HWK hx1 hx2 hwt hwr hk40
          by_cases hlt2 : k2 < ts.length ∧ k2 < 40
          · obtain ⟨b, off, rfl, hce⟩ := int_at HC1.out hLa.below hlt2.1
            obtain ⟨y, hy⟩ : ∃ y, y = ts.getD k2 0 := ⟨_, rfl⟩
            rw [← hy] at hce
            obtain ⟨q, hq, hq16⟩ := and15 y
            have hltL : (k2 : Int) < (ts.length : Int) := by omega
            have hlt40 : (k2 : Int) < 40 := by omega
            have HS := hid (sector_any (100 + (k2 : Int)) wr)
            have hxl := hWa.xlen
            have HLA := hid hLa
            have HWA := hid hWa
            have hql : (q : Int) < 16 := by omega
            clear hy hLa hWa
            go_wp2_with (first
              | (go_at_call 9; refine HS.out.mono ?_; rintro e w3 ⟨g3, rfl, ho3, hb3⟩; have HL3 := hid (HLA.out.fresh hb3); have HW := hid (write_any HL3.out.disk (i := q) hq16 (by rw [HL3.out.left]; decide) (sec_secL (100 + (k2 : Int))) (has_sec ho3) (by omega) (by omega)); clear ho3 hb3 HS HLA)
              | (go_at_call 8; refine HW.out.mono ?_; rintro e w4 ⟨rfl, hd4, hk4⟩; have HL4 := hid (HL3.out.step hd4 hk4 (by { show burn d2.left = -1; rw [HL3.out.left]; rfl })); clear HW HL3 hd4 hk4))
            go_loopw [14] (fun j wr2 => ∃ m : Nat, m ≤ ks.length ∧ j = .int .i64 m ∧ La w B Bl (d2.write q (secL (100 + (k2 : Int)))) (if (k2 : Int) ∈ ks.take m then x2.set q (100 + (k2 : Int)) else x2) wr2) (fun j _ => ks.length - (intOf j).toNat)
            case atStart => exact ⟨0, Nat.zero_le _, rfl, by simpa using HL4.out⟩
            case round =>
              obtain ⟨m, hml, rfl, hLm⟩ := hrel
              clear HL4 hce hq
              have hmb := HKL.out
              by_cases hlm : m < ks.length
              · obtain ⟨b2, off2, rfl, hce2⟩ := int_at HC2.out hLm.below hlm
                obtain ⟨z, hz⟩ : ∃ z, z = ks.getD m 0 := ⟨_, rfl⟩
                rw [← hz] at hce2
                have hts : ks.take (m + 1) = ks.take m ++ [z] := by rw [List.take_succ_eq_append_getElem hlm, hz]; simp [List.getD, hlm]
                have hlmI : (m : Int) < (ks.length : Int) := by omega
                have HTS := hid hts
                have HLM := hid hLm
                obtain ⟨xm, hxm⟩ : ∃ xm, xm = (if (k2 : Int) ∈ ks.take m then x2.set q (100 + (k2 : Int)) else x2) := ⟨_, rfl⟩
                rw [← hxm] at HLM hLm
                have hxml : xm.length = 16 := by rw [hxm]; split <;> simp [hxl]
                have hca := hLm.arr.cell (p := q) (by omega)
                have hfa := hLm.arr.frozen q
                have HXM := hid hxm
                clear hz hts hLm hxm
                by_cases hzk : z = (k2 : Int)
                · subst hzk
                  go_wp2
                  go_roundw
                  case rel =>
                    refine ⟨m + 1, by omega, by go_num, ?_⟩
                    have e : (if (k2 : Int) ∈ ks.take (m + 1) then x2.set q (100 + (k2 : Int)) else x2) = xm.set q (100 + (k2 : Int)) := by
                      rw [HTS.out, if_pos (by simp), HXM.out]
                      split <;> simp
                    rw [e]
                    exact HLM.out.put q _
                  case measure => simp [intOf]; omega
                · have hzk' : (z == (k2 : Int)) = false := by simpa using hzk
                  have HZ := hid hzk
                  clear hzk
                  go_wp2
                  go_roundw
                  case rel =>
                    refine ⟨m + 1, by omega, by go_num, ?_⟩
                    have e : (if (k2 : Int) ∈ ks.take (m + 1) then x2.set q (100 + (k2 : Int)) else x2) = xm := by
                      rw [HTS.out, HXM.out]
                      have hz' : ¬ ((k2 : Int) = z) := fun e => HZ.out e.symm
                      simp [hz']
                    rw [e]
                    exact HLM.out
                  case measure => simp [intOf]; omega
              · obtain rfl : m = ks.length := by omega
                rw [List.take_of_length_le (Nat.le_refl _)] at hLm
                have HLM := hid hLm
                clear hLm
                have hwk : Wants (app (d2.write q (secL (100 + (k2 : Int)))).last (kept ks (d2.write q (secL (100 + (k2 : Int)))).wait)) (if (k2 : Int) ∈ ks then x2.set q (100 + (k2 : Int)) else x2) := by
                  have e : kept ks (d2.write q (secL (100 + (k2 : Int)))).wait = kept ks d2.wait ++ (if (k2 : Int) ∈ ks then [(q, secL (100 + (k2 : Int)))] else []) := by
                    show kept ks (d2.wait ++ [_]) = _
                    rw [kept_snoc, hwt2]
                  rw [e]
                  by_cases hin : (k2 : Int) ∈ ks
                  · rw [if_pos hin, if_pos hin]
                    show Wants (app d2.last (_ ++ [_])) _
                    rw [app_snoc]
                    exact HWA.out.set hq16 (by omega) (by omega)
                  · rw [if_neg hin, if_neg hin, List.append_nil]
                    exact HWA.out
                have HWK2 := hid hwk
                clear hwk
                go_wp2
                go_roundw
                case rel =>
                  (repeat apply Exists.intro)
                  refine ⟨?_, rfl⟩
                  exact ⟨k2 + 1, _, _, by omega, by omega, by go_num, HLM.out, HWK2.out, by simp [Dk.write, hwt2], (show d2.writes + 1 ≤ 40 + ((k2 + 1 : Nat) : Int) by omega)⟩
                case measure => simp [intOf]; omega
          · have HCR := hid (crash_any hLa.disk (by omega) (HK2.out.fresh hLa.below) HKL.out)
            have HLA := hid hLa
            have hnw : Wants (d2.crash ks).now x2 := hWa
            have HWN := hid hnw
            clear hLa hWa hnw
            rcases (show ¬ ((k2 : Int) < (ts.length : Int)) ∨ ((k2 : Int) < (ts.length : Int) ∧ ¬ ((k2 : Int) < 40)) by omega) with hx1 | ⟨hx1, hx2⟩
            · have hx2 : True := trivial
              clear hk2l hlt2
              go_wp2_with (go_at_call 16; refine HCR.out.mono ?_; rintro e w7 ⟨⟨v7, rfl⟩, hd7, hk7⟩; have HL7 := hid (HLA.out.step hd7 hk7 rfl); clear HCR HLA hd7 hk7)
              go_loopw [15, 16, 17, 18] (fun i _ _ _ wr => ∃ p : Nat, p ≤ 16 ∧ i = .int .i64 p ∧ La w B Bl (d2.crash ks) x2 wr) (fun i _ _ _ _ => 16 - (intOf i).toNat)
              case atStart => exact ⟨0, by omega, rfl, HL7.out⟩
              case round =>
                obtain ⟨p, hp16, rfl, hLp⟩ := hrel
                clear HL7 hx1 hx2
                by_cases hlp : p < 16
                · have HRD := hid (read_any hLp.disk (i := p) hlp (by rw [hLp.left]; decide))
                  have his := HWN.out.is p hlp
                  rw [his] at HRD
                  have HLP := hid hLp
                  have hxl := HWN.out.xlen
                  obtain ⟨x, hx⟩ : ∃ x, x = x2.getD p 0 := ⟨_, rfl⟩
                  have hbd := HWN.out.bound p
                  rw [← hx] at HRD hbd
                  have HX := hid hx
                  have hlpI : (p : Int) < 16 := by omega
                  clear hLp his hx
                  by_cases hpos : 0 < x
                  · have hw : want x = secL x := by unfold want; rw [if_pos hpos]
                    rw [hw] at HRD
                    clear hw
                    obtain ⟨S, hS⟩ : ∃ S, S = strOfNums (secL x) := ⟨_, rfl⟩
                    have HSS := hid hS
                    clear hS
                    go_wp2_with (first
                      | (go_at_call 15; refine HRD.out.mono ?_; rintro e w8 ⟨v8, rfl, ho8, hb8⟩; have HL8 := hid (HLP.out.fresh hb8); have HO8 := hid ho8; clear HRD HLP ho8 hb8)
                      | (go_at_call 26; refine (nought_any w8).mono ?_; rintro e w9 ⟨rfl, hb9⟩; have HL9 := hid (HL8.out.fresh hb9); have HO9 := hid (own_below HO8.out hb9); have hca := HL9.out.arr.cell (p := p) (by omega); rw [← HX.out] at hca; clear HL8 HO8 hb9)
                      | (go_at_call 9; refine (sector_any x w9).mono ?_; rintro e w10 ⟨g10, rfl, ho10, hb10⟩; have HL10 := hid (HL9.out.fresh hb10); have hcv8 := (has_sec (own_below HO9.out hb10)).conv; have hcvS := (has_sec ho10).conv; rw [← HSS.out] at hcv8 hcvS; clear HL9 HO9 ho10 hb10))
                    go_roundw
                    case rel => exact ⟨p + 1, by omega, by go_num, HL10.out⟩
                    case measure => simp [intOf]; omega
                  · have hw : want x = nought := by unfold want; rw [if_neg hpos]
                    rw [hw] at HRD
                    clear hw
                    obtain ⟨S, hS⟩ : ∃ S, S = strOfNums nought := ⟨_, rfl⟩
                    have HSS := hid hS
                    clear hS
                    go_wp2_with (first
                      | (go_at_call 15; refine HRD.out.mono ?_; rintro e w8 ⟨v8, rfl, ho8, hb8⟩; have HL8 := hid (HLP.out.fresh hb8); have HO8 := hid ho8; clear HRD HLP ho8 hb8)
                      | (go_at_call 26; refine (nought_any w8).mono ?_; rintro e w9 ⟨rfl, hb9⟩; rw [← HSS.out]; have HL9 := hid (HL8.out.fresh hb9); have hcv8 := (has_sec (own_below HO8.out hb9)).conv; rw [← HSS.out] at hcv8; have hca := HL9.out.arr.cell (p := p) (by omega); rw [← HX.out] at hca; clear HL8 HO8 hb9))
                    go_roundw
                    case rel => exact ⟨p + 1, by omega, by go_num, HL9.out⟩
                    case measure => simp [intOf]; omega
                · obtain rfl : p = 16 := by omega
                  have HB := hid hLp.below
                  clear hLp
                  go_wp2_with (go_at_call 17; refine (awake_any wr).mono ?_; rintro e w9 ⟨rfl, hb9⟩)
                  go_ret
                  exact ⟨rfl, HB.out.trans (hb9.mono HB.out.size)⟩
            · clear hk2l hlt2
              go_wp2_with (go_at_call 16; refine HCR.out.mono ?_; rintro e w7 ⟨⟨v7, rfl⟩, hd7, hk7⟩; have HL7 := hid (HLA.out.step hd7 hk7 rfl); clear HCR HLA hd7 hk7)
              go_loopw [15, 16, 17, 18] (fun i _ _ _ wr => ∃ p : Nat, p ≤ 16 ∧ i = .int .i64 p ∧ La w B Bl (d2.crash ks) x2 wr) (fun i _ _ _ _ => 16 - (intOf i).toNat)
              case atStart => exact ⟨0, by omega, rfl, HL7.out⟩
              case round =>
                obtain ⟨p, hp16, rfl, hLp⟩ := hrel
                clear HL7 hx1 hx2
                by_cases hlp : p < 16
                · have HRD := hid (read_any hLp.disk (i := p) hlp (by rw [hLp.left]; decide))
                  have his := HWN.out.is p hlp
                  rw [his] at HRD
                  have HLP := hid hLp
                  have hxl := HWN.out.xlen
                  obtain ⟨x, hx⟩ : ∃ x, x = x2.getD p 0 := ⟨_, rfl⟩
                  have hbd := HWN.out.bound p
                  rw [← hx] at HRD hbd
                  have HX := hid hx
                  have hlpI : (p : Int) < 16 := by omega
                  clear hLp his hx
                  by_cases hpos : 0 < x
                  · have hw : want x = secL x := by unfold want; rw [if_pos hpos]
                    rw [hw] at HRD
                    clear hw
                    obtain ⟨S, hS⟩ : ∃ S, S = strOfNums (secL x) := ⟨_, rfl⟩
                    have HSS := hid hS
                    clear hS
                    go_wp2_with (first
                      | (go_at_call 15; refine HRD.out.mono ?_; rintro e w8 ⟨v8, rfl, ho8, hb8⟩; have HL8 := hid (HLP.out.fresh hb8); have HO8 := hid ho8; clear HRD HLP ho8 hb8)
                      | (go_at_call 26; refine (nought_any w8).mono ?_; rintro e w9 ⟨rfl, hb9⟩; have HL9 := hid (HL8.out.fresh hb9); have HO9 := hid (own_below HO8.out hb9); have hca := HL9.out.arr.cell (p := p) (by omega); rw [← HX.out] at hca; clear HL8 HO8 hb9)
                      | (go_at_call 9; refine (sector_any x w9).mono ?_; rintro e w10 ⟨g10, rfl, ho10, hb10⟩; have HL10 := hid (HL9.out.fresh hb10); have hcv8 := (has_sec (own_below HO9.out hb10)).conv; have hcvS := (has_sec ho10).conv; rw [← HSS.out] at hcv8 hcvS; clear HL9 HO9 ho10 hb10))
                    go_roundw
                    case rel => exact ⟨p + 1, by omega, by go_num, HL10.out⟩
                    case measure => simp [intOf]; omega
                  · have hw : want x = nought := by unfold want; rw [if_neg hpos]
                    rw [hw] at HRD
                    clear hw
                    obtain ⟨S, hS⟩ : ∃ S, S = strOfNums nought := ⟨_, rfl⟩
                    have HSS := hid hS
                    clear hS
                    go_wp2_with (first
                      | (go_at_call 15; refine HRD.out.mono ?_; rintro e w8 ⟨v8, rfl, ho8, hb8⟩; have HL8 := hid (HLP.out.fresh hb8); have HO8 := hid ho8; clear HRD HLP ho8 hb8)
                      | (go_at_call 26; refine (nought_any w8).mono ?_; rintro e w9 ⟨rfl, hb9⟩; rw [← HSS.out]; have HL9 := hid (HL8.out.fresh hb9); have hcv8 := (has_sec (own_below HO8.out hb9)).conv; rw [← HSS.out] at hcv8; have hca := HL9.out.arr.cell (p := p) (by omega); rw [← HX.out] at hca; clear HL8 HO8 hb9))
                    go_roundw
                    case rel => exact ⟨p + 1, by omega, by go_num, HL9.out⟩
                    case measure => simp [intOf]; omega
                · obtain rfl : p = 16 := by omega
                  have HB := hid hLp.below
                  clear hLp
                  go_wp2_with (go_at_call 17; refine (awake_any wr).mono ?_; rintro e w9 ⟨rfl, hb9⟩)
                  go_ret
                  exact ⟨rfl, HB.out.trans (hb9.mono HB.out.size)⟩
      · clear hkl hlt HWA
        go_wp2_with (first
          | (go_at_call 10; refine HF.out.mono ?_; rintro e w5 ⟨rfl, hd5, hk5⟩; have HL5 := hid (HLA.out.step hd5 hk5 (by { show burn d.left = -1; rw [HLA.out.left]; rfl })); have HWT := hid (waiting_any hd5); clear HF HLA hd5 hk5)
          | (go_at_call 13; refine HWT.out.mono ?_; rintro e w6 ⟨rfl, hw6⟩; have hw6' := hw6.symm; clear hw6 HWT; subst hw6'))
        go_loopw [12, 13, 14] (fun i _ _ wr => ∃ (k2 : Nat) (d2 : Dk) (x2 : List Int), k2 ≤ ts.length ∧ k2 ≤ 40 ∧ i = .int .i64 k2 ∧ La w B Bl d2 x2 wr ∧ Wants (app d2.last (kept ks d2.wait)) x2 ∧ d2.wait.length = k2 ∧ d2.writes ≤ 40 + k2) (fun i _ _ _ => 40 - (intOf i).toNat)
        case atStart => exact ⟨0, _, _, Nat.zero_le _, by omega, rfl, HL5.out, HWK.out, rfl, (show d.writes ≤ 40 + ((0 : Nat) : Int) by omega)⟩
        case round =>
          obtain ⟨k2, d2, x2, hk2l, hk240, rfl, hLa, hWa, hwt2, hwr2⟩ := hrel
          clear HL5 HWK hx1 hx2 hwt hwr hk40
          by_cases hlt2 : k2 < ts.length ∧ k2 < 40
          · obtain ⟨b, off, rfl, hce⟩ := int_at HC1.out hLa.below hlt2.1
            obtain ⟨y, hy⟩ : ∃ y, y = ts.getD k2 0 := ⟨_, rfl⟩
            rw [← hy] at hce
            obtain ⟨q, hq, hq16⟩ := and15 y
            have hltL : (k2 : Int) < (ts.length : Int) := by omega
            have hlt40 : (k2 : Int) < 40 := by omega
            have HS := hid (sector_any (100 + (k2 : Int)) wr)
            have hxl := hWa.xlen
            have HLA := hid hLa
            have HWA := hid hWa
            have hql : (q : Int) < 16 := by omega
            clear hy hLa hWa
            go_wp2_with (first
              | (go_at_call 9; refine HS.out.mono ?_; rintro e w3 ⟨g3, rfl, ho3, hb3⟩; have HL3 := hid (HLA.out.fresh hb3); have HW := hid (write_any HL3.out.disk (i := q) hq16 (by rw [HL3.out.left]; decide) (sec_secL (100 + (k2 : Int))) (has_sec ho3) (by omega) (by omega)); clear ho3 hb3 HS HLA)
              | (go_at_call 8; refine HW.out.mono ?_; rintro e w4 ⟨rfl, hd4, hk4⟩; have HL4 := hid (HL3.out.step hd4 hk4 (by { show burn d2.left = -1; rw [HL3.out.left]; rfl })); clear HW HL3 hd4 hk4))
            go_loopw [14] (fun j wr2 => ∃ m : Nat, m ≤ ks.length ∧ j = .int .i64 m ∧ La w B Bl (d2.write q (secL (100 + (k2 : Int)))) (if (k2 : Int) ∈ ks.take m then x2.set q (100 + (k2 : Int)) else x2) wr2) (fun j _ => ks.length - (intOf j).toNat)
            case atStart => exact ⟨0, Nat.zero_le _, rfl, by simpa using HL4.out⟩
            case round =>
              obtain ⟨m, hml, rfl, hLm⟩ := hrel
              clear HL4 hce hq
              have hmb := HKL.out
              by_cases hlm : m < ks.length
              · obtain ⟨b2, off2, rfl, hce2⟩ := int_at HC2.out hLm.below hlm
                obtain ⟨z, hz⟩ : ∃ z, z = ks.getD m 0 := ⟨_, rfl⟩
                rw [← hz] at hce2
                have hts : ks.take (m + 1) = ks.take m ++ [z] := by rw [List.take_succ_eq_append_getElem hlm, hz]; simp [List.getD, hlm]
                have hlmI : (m : Int) < (ks.length : Int) := by omega
                have HTS := hid hts
                have HLM := hid hLm
                obtain ⟨xm, hxm⟩ : ∃ xm, xm = (if (k2 : Int) ∈ ks.take m then x2.set q (100 + (k2 : Int)) else x2) := ⟨_, rfl⟩
                rw [← hxm] at HLM hLm
                have hxml : xm.length = 16 := by rw [hxm]; split <;> simp [hxl]
                have hca := hLm.arr.cell (p := q) (by omega)
                have hfa := hLm.arr.frozen q
                have HXM := hid hxm
                clear hz hts hLm hxm
                by_cases hzk : z = (k2 : Int)
                · subst hzk
                  go_wp2
                  go_roundw
                  case rel =>
                    refine ⟨m + 1, by omega, by go_num, ?_⟩
                    have e : (if (k2 : Int) ∈ ks.take (m + 1) then x2.set q (100 + (k2 : Int)) else x2) = xm.set q (100 + (k2 : Int)) := by
                      rw [HTS.out, if_pos (by simp), HXM.out]
                      split <;> simp
                    rw [e]
                    exact HLM.out.put q _
                  case measure => simp [intOf]; omega
                · have hzk' : (z == (k2 : Int)) = false := by simpa using hzk
                  have HZ := hid hzk
                  clear hzk
                  go_wp2
                  go_roundw
                  case rel =>
                    refine ⟨m + 1, by omega, by go_num, ?_⟩
                    have e : (if (k2 : Int) ∈ ks.take (m + 1) then x2.set q (100 + (k2 : Int)) else x2) = xm := by
                      rw [HTS.out, HXM.out]
                      have hz' : ¬ ((k2 : Int) = z) := fun e => HZ.out e.symm
                      simp [hz']
                    rw [e]
                    exact HLM.out
                  case measure => simp [intOf]; omega
              · obtain rfl : m = ks.length := by omega
                rw [List.take_of_length_le (Nat.le_refl _)] at hLm
                have HLM := hid hLm
                clear hLm
                have hwk : Wants (app (d2.write q (secL (100 + (k2 : Int)))).last (kept ks (d2.write q (secL (100 + (k2 : Int)))).wait)) (if (k2 : Int) ∈ ks then x2.set q (100 + (k2 : Int)) else x2) := by
                  have e : kept ks (d2.write q (secL (100 + (k2 : Int)))).wait = kept ks d2.wait ++ (if (k2 : Int) ∈ ks then [(q, secL (100 + (k2 : Int)))] else []) := by
                    show kept ks (d2.wait ++ [_]) = _
                    rw [kept_snoc, hwt2]
                  rw [e]
                  by_cases hin : (k2 : Int) ∈ ks
                  · rw [if_pos hin, if_pos hin]
                    show Wants (app d2.last (_ ++ [_])) _
                    rw [app_snoc]
                    exact HWA.out.set hq16 (by omega) (by omega)
                  · rw [if_neg hin, if_neg hin, List.append_nil]
                    exact HWA.out
                have HWK2 := hid hwk
                clear hwk
                go_wp2
                go_roundw
                case rel =>
                  (repeat apply Exists.intro)
                  refine ⟨?_, rfl⟩
                  exact ⟨k2 + 1, _, _, by omega, by omega, by go_num, HLM.out, HWK2.out, by simp [Dk.write, hwt2], (show d2.writes + 1 ≤ 40 + ((k2 + 1 : Nat) : Int) by omega)⟩
                case measure => simp [intOf]; omega
          · have HCR := hid (crash_any hLa.disk (by omega) (HK2.out.fresh hLa.below) HKL.out)
            have HLA := hid hLa
            have hnw : Wants (d2.crash ks).now x2 := hWa
            have HWN := hid hnw
            clear hLa hWa hnw
            rcases (show ¬ ((k2 : Int) < (ts.length : Int)) ∨ ((k2 : Int) < (ts.length : Int) ∧ ¬ ((k2 : Int) < 40)) by omega) with hx1 | ⟨hx1, hx2⟩
            · have hx2 : True := trivial
              clear hk2l hlt2
              go_wp2_with (go_at_call 16; refine HCR.out.mono ?_; rintro e w7 ⟨⟨v7, rfl⟩, hd7, hk7⟩; have HL7 := hid (HLA.out.step hd7 hk7 rfl); clear HCR HLA hd7 hk7)
              go_loopw [15, 16, 17, 18] (fun i _ _ _ wr => ∃ p : Nat, p ≤ 16 ∧ i = .int .i64 p ∧ La w B Bl (d2.crash ks) x2 wr) (fun i _ _ _ _ => 16 - (intOf i).toNat)
              case atStart => exact ⟨0, by omega, rfl, HL7.out⟩
              case round =>
                obtain ⟨p, hp16, rfl, hLp⟩ := hrel
                clear HL7 hx1 hx2
                by_cases hlp : p < 16
                · have HRD := hid (read_any hLp.disk (i := p) hlp (by rw [hLp.left]; decide))
                  have his := HWN.out.is p hlp
                  rw [his] at HRD
                  have HLP := hid hLp
                  have hxl := HWN.out.xlen
                  obtain ⟨x, hx⟩ : ∃ x, x = x2.getD p 0 := ⟨_, rfl⟩
                  have hbd := HWN.out.bound p
                  rw [← hx] at HRD hbd
                  have HX := hid hx
                  have hlpI : (p : Int) < 16 := by omega
                  clear hLp his hx
                  by_cases hpos : 0 < x
                  · have hw : want x = secL x := by unfold want; rw [if_pos hpos]
                    rw [hw] at HRD
                    clear hw
                    obtain ⟨S, hS⟩ : ∃ S, S = strOfNums (secL x) := ⟨_, rfl⟩
                    have HSS := hid hS
                    clear hS
                    go_wp2_with (first
                      | (go_at_call 15; refine HRD.out.mono ?_; rintro e w8 ⟨v8, rfl, ho8, hb8⟩; have HL8 := hid (HLP.out.fresh hb8); have HO8 := hid ho8; clear HRD HLP ho8 hb8)
                      | (go_at_call 26; refine (nought_any w8).mono ?_; rintro e w9 ⟨rfl, hb9⟩; have HL9 := hid (HL8.out.fresh hb9); have HO9 := hid (own_below HO8.out hb9); have hca := HL9.out.arr.cell (p := p) (by omega); rw [← HX.out] at hca; clear HL8 HO8 hb9)
                      | (go_at_call 9; refine (sector_any x w9).mono ?_; rintro e w10 ⟨g10, rfl, ho10, hb10⟩; have HL10 := hid (HL9.out.fresh hb10); have hcv8 := (has_sec (own_below HO9.out hb10)).conv; have hcvS := (has_sec ho10).conv; rw [← HSS.out] at hcv8 hcvS; clear HL9 HO9 ho10 hb10))
                    go_roundw
                    case rel => exact ⟨p + 1, by omega, by go_num, HL10.out⟩
                    case measure => simp [intOf]; omega
                  · have hw : want x = nought := by unfold want; rw [if_neg hpos]
                    rw [hw] at HRD
                    clear hw
                    obtain ⟨S, hS⟩ : ∃ S, S = strOfNums nought := ⟨_, rfl⟩
                    have HSS := hid hS
                    clear hS
                    go_wp2_with (first
                      | (go_at_call 15; refine HRD.out.mono ?_; rintro e w8 ⟨v8, rfl, ho8, hb8⟩; have HL8 := hid (HLP.out.fresh hb8); have HO8 := hid ho8; clear HRD HLP ho8 hb8)
                      | (go_at_call 26; refine (nought_any w8).mono ?_; rintro e w9 ⟨rfl, hb9⟩; rw [← HSS.out]; have HL9 := hid (HL8.out.fresh hb9); have hcv8 := (has_sec (own_below HO8.out hb9)).conv; rw [← HSS.out] at hcv8; have hca := HL9.out.arr.cell (p := p) (by omega); rw [← HX.out] at hca; clear HL8 HO8 hb9))
                    go_roundw
                    case rel => exact ⟨p + 1, by omega, by go_num, HL9.out⟩
                    case measure => simp [intOf]; omega
                · obtain rfl : p = 16 := by omega
                  have HB := hid hLp.below
                  clear hLp
                  go_wp2_with (go_at_call 17; refine (awake_any wr).mono ?_; rintro e w9 ⟨rfl, hb9⟩)
                  go_ret
                  exact ⟨rfl, HB.out.trans (hb9.mono HB.out.size)⟩
            · clear hk2l hlt2
              go_wp2_with (go_at_call 16; refine HCR.out.mono ?_; rintro e w7 ⟨⟨v7, rfl⟩, hd7, hk7⟩; have HL7 := hid (HLA.out.step hd7 hk7 rfl); clear HCR HLA hd7 hk7)
              go_loopw [15, 16, 17, 18] (fun i _ _ _ wr => ∃ p : Nat, p ≤ 16 ∧ i = .int .i64 p ∧ La w B Bl (d2.crash ks) x2 wr) (fun i _ _ _ _ => 16 - (intOf i).toNat)
              case atStart => exact ⟨0, by omega, rfl, HL7.out⟩
              case round =>
                obtain ⟨p, hp16, rfl, hLp⟩ := hrel
                clear HL7 hx1 hx2
                by_cases hlp : p < 16
                · have HRD := hid (read_any hLp.disk (i := p) hlp (by rw [hLp.left]; decide))
                  have his := HWN.out.is p hlp
                  rw [his] at HRD
                  have HLP := hid hLp
                  have hxl := HWN.out.xlen
                  obtain ⟨x, hx⟩ : ∃ x, x = x2.getD p 0 := ⟨_, rfl⟩
                  have hbd := HWN.out.bound p
                  rw [← hx] at HRD hbd
                  have HX := hid hx
                  have hlpI : (p : Int) < 16 := by omega
                  clear hLp his hx
                  by_cases hpos : 0 < x
                  · have hw : want x = secL x := by unfold want; rw [if_pos hpos]
                    rw [hw] at HRD
                    clear hw
                    obtain ⟨S, hS⟩ : ∃ S, S = strOfNums (secL x) := ⟨_, rfl⟩
                    have HSS := hid hS
                    clear hS
                    go_wp2_with (first
                      | (go_at_call 15; refine HRD.out.mono ?_; rintro e w8 ⟨v8, rfl, ho8, hb8⟩; have HL8 := hid (HLP.out.fresh hb8); have HO8 := hid ho8; clear HRD HLP ho8 hb8)
                      | (go_at_call 26; refine (nought_any w8).mono ?_; rintro e w9 ⟨rfl, hb9⟩; have HL9 := hid (HL8.out.fresh hb9); have HO9 := hid (own_below HO8.out hb9); have hca := HL9.out.arr.cell (p := p) (by omega); rw [← HX.out] at hca; clear HL8 HO8 hb9)
                      | (go_at_call 9; refine (sector_any x w9).mono ?_; rintro e w10 ⟨g10, rfl, ho10, hb10⟩; have HL10 := hid (HL9.out.fresh hb10); have hcv8 := (has_sec (own_below HO9.out hb10)).conv; have hcvS := (has_sec ho10).conv; rw [← HSS.out] at hcv8 hcvS; clear HL9 HO9 ho10 hb10))
                    go_roundw
                    case rel => exact ⟨p + 1, by omega, by go_num, HL10.out⟩
                    case measure => simp [intOf]; omega
                  · have hw : want x = nought := by unfold want; rw [if_neg hpos]
                    rw [hw] at HRD
                    clear hw
                    obtain ⟨S, hS⟩ : ∃ S, S = strOfNums nought := ⟨_, rfl⟩
                    have HSS := hid hS
                    clear hS
                    go_wp2_with (first
                      | (go_at_call 15; refine HRD.out.mono ?_; rintro e w8 ⟨v8, rfl, ho8, hb8⟩; have HL8 := hid (HLP.out.fresh hb8); have HO8 := hid ho8; clear HRD HLP ho8 hb8)
                      | (go_at_call 26; refine (nought_any w8).mono ?_; rintro e w9 ⟨rfl, hb9⟩; rw [← HSS.out]; have HL9 := hid (HL8.out.fresh hb9); have hcv8 := (has_sec (own_below HO8.out hb9)).conv; rw [← HSS.out] at hcv8; have hca := HL9.out.arr.cell (p := p) (by omega); rw [← HX.out] at hca; clear HL8 HO8 hb9))
                    go_roundw
                    case rel => exact ⟨p + 1, by omega, by go_num, HL9.out⟩
                    case measure => simp [intOf]; omega
                · obtain rfl : p = 16 := by omega
                  have HB := hid hLp.below
                  clear hLp
                  go_wp2_with (go_at_call 17; refine (awake_any wr).mono ?_; rintro e w9 ⟨rfl, hb9⟩)
                  go_ret
                  exact ⟨rfl, HB.out.trans (hb9.mono HB.out.size)⟩
end Go.Proofs.Ytindjkgkdldooaa
