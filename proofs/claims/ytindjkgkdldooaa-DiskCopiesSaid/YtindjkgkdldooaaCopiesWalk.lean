/-
  DiskCopies: the walk.
-/
import Derived.Test.YtindjkgkdldooaaCopiesMem
import Derived.Deep.CutBlock
namespace Go.Proofs.Ytindjkgkdldooaa
open Go.RowKit
set_option maxRecDepth 8000 in
set_option maxHeartbeats 4000000 in
theorem diskCopies_walk (w : World) (v0 : Value) (fs : List Int) (h0 : Ints w v0 fs) (_ : fs.length ≤ reachBytes) (v1 : Value) (ts : List Int) (h1 : Ints w v1 ts) (_ : ts.length ≤ reachBytes) (v2 : Value) (ks : List Int) (h2 : Ints w v2 ks) (hkl : ks.length ≤ reachBytes) (fl : Int) (_h3 : -9223372036854775808 ≤ fl) (_h4 : fl ≤ 9223372036854775807) :
    Calls Try.prog 3 #[v0, v1, v2, .int .i64 fl] w fun e w' => e = .returned (.bool true) ∧ Below w.heap.size w w' := by
  have HK2 := hid h2
  obtain ⟨r0, a0, c0, rfl, hc0⟩ := h0
  obtain ⟨r1, a1, c1, rfl, hc1⟩ := h1
  obtain ⟨r2, a2, c2, rfl, hc2⟩ := h2
  have HC0 := hid hc0
  have HC1 := hid hc1
  have HC2 := hid hc2
  clear hc0 hc1 hc2 r0 r1 r2
  have hkl' : ks.length ≤ 140737488355328 := by unfold reachBytes at hkl; omega
  have HKL := hid hkl'
  clear hkl hkl'
  obtain ⟨F, hF⟩ : ∃ F : Nat, bits .and .i64 fl 31 = (F : Int) := ⟨(fl % 32).toNat, by rw [i64_and31']; omega⟩
  have HN := hid (new_any 12 w (by omega))
  go_enter Try.func3, Try.ntmps3
  go_upto_block 0 with (go_at_call 7; refine HN.out.mono ?_; rintro e w1 ⟨B, rfl, hd1, hb1⟩; have HI := hid (show Ci w B (Dk.new 12) w1 from ⟨hd1, hb1, rfl⟩); clear HN hd1 hb1)
  go_cut [11] from 33 to 65 (fun _ wx => ∃ d, Ci w B d wx ∧ d.wait.length ≤ 30 ∧ d.writes ≤ 30)
  case first =>
    go_wp2
    go_loopw [11] (fun i wr => ∃ (k : Nat) (d : Dk), k ≤ fs.length ∧ k ≤ 30 ∧ i = .int .i64 k ∧ Ci w B d wr ∧ d.wait.length ≤ k ∧ d.writes ≤ k) (fun i _ => 30 - (intOf i).toNat)
    case atStart => exact ⟨0, _, Nat.zero_le _, by omega, rfl, HI.out, by simp [Dk.new], by simp [Dk.new]⟩
    case round =>
      obtain ⟨k, d, hkl, hk30, rfl, hCi, hwt, hwr⟩ := hrel
      clear HI
      by_cases hlt : k < fs.length ∧ k < 30
      · obtain ⟨b, off, rfl, hce⟩ := int_at HC0.out hCi.below hlt.1
        obtain ⟨y, hy⟩ : ∃ y, y = fs.getD k 0 := ⟨_, rfl⟩
        have HCE : Hid (∀ wx : World, Below w.heap.size w wx → wx.cell? ⟨b, off + k, none⟩ = some (.int .i64 y)) := hid (fun wx hb => by
          obtain ⟨b', off', e, hx⟩ := int_at HC0.out hb hlt.1
          injection e with e
          injection e with e1 e2
          subst e1; subst e2
          rw [hy]; exact hx)
        obtain ⟨p, q, hp, hq, hp256, hq12⟩ := and255 y
        have hltL : (k : Int) < (fs.length : Int) := by omega
        have hlt30 : (k : Int) < 30 := by omega
        have hC0 : Ci w B d wr.drew := hCi.fresh (Below.refl _ wr).drew
        have hwk : IntKind.i64.wrap ((k : Int) + 1) = (k : Int) + 1 := by rw [IntKind.wrap_i64]; omega
        clear hy hce
        by_cases hkF : k = F
        · subst hkF
          go_wp2
          go_region_held (fun w' => w'.cell? ⟨b, off + k, none⟩ = some (.int .i64 y)) (first | exact HCE.out _ hC0.below | exact HCE.out _ hC3.below | exact HCE.out _ hC4.below | exact HCE.out _ hC5.below) (first
            | (go_at_call 9; refine (sector_any ((k : Int) + 1) _).mono ?_; rintro e w3 ⟨g3, rfl, ho3, hb3⟩; have hC3 := hC0.fresh hb3)
            | (go_at_call 8; refine (write_any hC3.disk (i := q) hq12 (by rw [hC3.left]; decide) (sec_secL ((k : Int) + 1)) (has_sec ho3) (by omega) (by omega)).mono ?_; rintro e w4 ⟨rfl, hd4, hk4⟩; have hC4 := hC3.step hd4 hk4 (by { show burn d.left = -1; rw [hC3.left]; rfl }))
            | (go_at_call 10; refine (flush_any hC4.disk (by rw [hC4.left]; decide) (by simp [Dk.write]; omega)).mono ?_; rintro e w5 ⟨rfl, hd5, hk5⟩; have hC5 := hC4.step hd5 hk5 (by { show burn (d.write q (secL ((k : Int) + 1))).left = -1; rw [hC4.left]; rfl })))
          go_wp2
          go_roundw
          case rel => exact ⟨k + 1, (d.write q (secL ((k : Int) + 1))).flush, by omega, by omega, by go_num, hC5, by simp [Dk.write, Dk.flush], by show d.writes + 1 ≤ _; omega⟩
          case measure => simp [intOf]; omega
        · have hkF' : ((k : Int) == (F : Int)) = false := by simp; omega
          go_wp2
          first | (go_region_held (fun w' => w'.cell? ⟨b, off + k, none⟩ = some (.int .i64 y)) (first | exact HCE.out _ hC0.below | exact HCE.out _ hC3.below | exact HCE.out _ hC4.below) (first
            | (go_at_call 9; refine (sector_any ((k : Int) + 1) _).mono ?_; rintro e w3 ⟨g3, rfl, ho3, hb3⟩; have hC3 := hC0.fresh hb3)
            | (go_at_call 8; refine (write_any hC3.disk (i := q) hq12 (by rw [hC3.left]; decide) (sec_secL ((k : Int) + 1)) (has_sec ho3) (by omega) (by omega)).mono ?_; rintro e w4 ⟨rfl, hd4, hk4⟩; have hC4 := hC3.step hd4 hk4 (by { show burn d.left = -1; rw [hC3.left]; rfl })))) | fail
          go_wp2
          go_roundw
          case rel => exact ⟨k + 1, d.write q (secL ((k : Int) + 1)), by omega, by omega, by go_num, hC4, by simp [Dk.write]; omega, by show d.writes + 1 ≤ _; omega⟩
          case measure => simp [intOf]; omega
      · rcases (show ¬ ((k : Int) < (fs.length : Int)) ∨ ((k : Int) < (fs.length : Int) ∧ ¬ ((k : Int) < 30)) by omega) with hx1 | ⟨hx1, hx2⟩
        · clear hkl hlt
          go_wp2
          go_meet
          exact ⟨d, hCi, by omega, by omega⟩
        · clear hkl hlt
          go_wp2
          go_meet
          exact ⟨d, hCi, by omega, by omega⟩
  case rest =>
    rename World => w2
    obtain ⟨d, hCi, hwt, hwr⟩ := hcut
    have HCP := hid (copy_any hCi.disk (by omega))
    have HCI := hid hCi
    have hdl := hCi.left
    have hnl := hCi.disk.1.now_len
    clear hCi HI
    go_wp2_with (first
      | (go_at_call 11; refine HCP.out.mono ?_; rintro e w3 ⟨Bc, rfl, hd3, hb3⟩; have HD3 := hid hd3; have HB3 := hid hb3; have HDD := hid (HCI.out.disk.below hb3); clear HCP hd3 hb3)
      | (go_at_call 12; refine (writes_any HD3.out).mono ?_; rintro e w4 ⟨rfl, h4⟩; have h4' := h4.symm; clear h4; subst h4')
      | (go_at_call 12; refine (writes_any HDD.out).mono ?_; rintro e w4 ⟨rfl, h4⟩; have h4' := h4.symm; clear h4; subst h4')
      | (go_at_call 13; refine (waiting_any HD3.out).mono ?_; rintro e w4 ⟨rfl, h4⟩; have h4' := h4.symm; clear h4; subst h4')
      | (go_at_call 13; refine (waiting_any HDD.out).mono ?_; rintro e w4 ⟨rfl, h4⟩; have h4' := h4.symm; clear h4; subst h4')
      | (go_at_call 14; refine (sectors_any HD3.out).mono ?_; rintro e w4 ⟨rfl, h4⟩; have h4' := h4.symm; clear h4; subst h4'))
    obtain ⟨W0, hW0⟩ : ∃ W0, w3.alloc (.cells ((List.replicate 12 ByteArray.empty).map Value.string).toArray 33) = W0 := ⟨_, rfl⟩
    have hCp0 : Cp w w2 B Bc w3.heap.size d d (texts d.now 0) W0 := by
      have hf : Below w3.heap.size w3 W0 := by rw [← hW0]; exact (Below.refl _ w3).alloc (Nat.le_refl _) _
      exact ⟨HCI.out, HD3.out.below hf, by unfold Txt; rw [texts_zero, ← hW0]; exact heap_new w3 _, HB3.out.trans (hf.mono HB3.out.size), HB3.out.size, hdl⟩
    change Code.wp _ _ _ _ (w3.alloc (.cells ((List.replicate 12 ByteArray.empty).map Value.string).toArray 33))
    rw [hW0]
    have HP0 := hid hCp0
    clear hW0 hCp0 HD3 HB3 HDD
    obtain ⟨Bl, hBl⟩ : ∃ Bl, w3.heap.size = Bl := ⟨_, rfl⟩
    rw [hBl] at HP0 ⊢
    clear hBl
    go_loopw [14, 15, 16, 17, 18] (fun i _ _ _ _ wr => ∃ p : Nat, p ≤ 12 ∧ i = .int .i64 p ∧ Cp w w2 B Bc Bl d d (texts d.now p) wr) (fun i _ _ _ _ _ => 12 - (intOf i).toNat)
    case atStart => exact ⟨0, by omega, rfl, HP0.out⟩
    case round =>
      obtain ⟨p, hp12, rfl, hCp⟩ := hrel
      clear HP0
      by_cases hlp : p < 12
      · have hlpI : (p : Int) < 12 := by omega
        have HRD := hid (read_any hCp.disk (i := p) hlp (by rw [hdl]; decide))
        have HLP := hid hCp
        have HTS := hid (texts_set hnl hlp)
        have htl := texts_len hnl hp12
        obtain ⟨S, hS⟩ : ∃ S, S = strOfNums (d.now.getD p []) := ⟨_, rfl⟩
        rw [← hS] at HTS
        have HSS := hid hS
        clear hCp hS
        go_wp2_with (first
          | (go_at_call_of 15 (Value.pointer (some ⟨B, 0, none⟩)); refine HRD.out.mono ?_; rintro e w8 ⟨v8, rfl, ho8, hb8⟩; have HL8 := hid (HLP.out.fresh hb8); have HO8 := hid ho8; have HRC := hid (read_any HL8.out.copy (i := p) hlp (by rw [hdl]; decide)); clear HRD HLP ho8 hb8)
          | (go_at_call_of 15 (Value.pointer (some ⟨Bc, 0, none⟩)); refine HRC.out.mono ?_; rintro e w9 ⟨v9, rfl, ho9, hb9⟩; have HL9 := hid (HL8.out.fresh hb9); have hcv8 := (has_sec (own_below HO8.out hb9)).conv; have hcv9 := (has_sec ho9).conv; rw [← HSS.out] at hcv8 hcv9; have hca := HL9.out.txt.cell (p := p) (by omega); have hfa := HL9.out.txt.frozen p; clear HRC HL8 HO8 ho9 hb9))
        go_roundw
        case rel => exact ⟨p + 1, by omega, by go_num, by rw [← HTS.out]; exact HL9.out.put p S⟩
        case measure => simp [intOf]; omega
      · obtain rfl : p = 12 := by omega
        have HCP := hid hCp
        clear hCp hlp hp12
        go_upto_block 4 with fail
        go_cut [19] from 122 to 143 (fun _ wx => ∃ dc, Cp w w2 B Bc Bl d dc (texts d.now 12) wx ∧ dc.wait.length ≤ 50)
        case first =>
          go_wp2
          go_loopw [19] (fun i wr => ∃ (k : Nat) (dc : Dk), k ≤ ts.length ∧ k ≤ 20 ∧ i = .int .i64 k ∧ Cp w w2 B Bc Bl d dc (texts d.now 12) wr ∧ dc.wait.length ≤ 30 + k ∧ dc.writes ≤ 30 + k) (fun i _ => 20 - (intOf i).toNat)
          case atStart => exact ⟨0, _, Nat.zero_le _, by omega, rfl, HCP.out, by omega, by omega⟩
          case round =>
            obtain ⟨k, dc, hkl, hk20, rfl, hC, hwt3, hwr3⟩ := hrel
            clear HCP
            by_cases hlt : k < ts.length ∧ k < 20
            · obtain ⟨b, off, rfl, hce⟩ := int_at HC1.out hC.all hlt.1
              obtain ⟨y, hy⟩ : ∃ y, y = ts.getD k 0 := ⟨_, rfl⟩
              have HCE : Hid (∀ wx : World, Below w.heap.size w wx → wx.cell? ⟨b, off + k, none⟩ = some (.int .i64 y)) := hid (fun wx hb => by
                obtain ⟨b', off', e, hx⟩ := int_at HC1.out hb hlt.1
                injection e with e
                injection e with e1 e2
                subst e1; subst e2
                rw [hy]; exact hx)
              obtain ⟨p, q, hp, hq, hp256, hq12⟩ := and255 y
              have hltL : (k : Int) < (ts.length : Int) := by omega
              have hlt20 : (k : Int) < 20 := by omega
              have hC0 : Cp w w2 B Bc Bl d dc (texts d.now 12) wr.drew := hC.fresh (Below.refl _ wr).drew
              have hwk : IntKind.i64.wrap (500 + (k : Int)) = 500 + (k : Int) := by rw [IntKind.wrap_i64]; omega
              clear hy hce
              go_wp2
              first | (go_region_held (fun w' => w'.cell? ⟨b, off + k, none⟩ = some (.int .i64 y)) (first | exact HCE.out _ hC0.all | exact HCE.out _ hC3.all | exact HCE.out _ hC4.all) (first
                | (go_at_call 9; refine (sector_any (500 + (k : Int)) _).mono ?_; rintro e w3 ⟨g3, rfl, ho3, hb3⟩; have hC3 := hC0.fresh hb3)
                | (go_at_call 8; refine (write_any hC3.copy (i := q) hq12 (by rw [hC3.left]; decide) (sec_secL (500 + (k : Int))) (has_sec ho3) (by omega) (by omega)).mono ?_; rintro e w4 ⟨rfl, hd4, hk4⟩; have hC4 := hC3.step hd4 hk4 (by { show burn dc.left = -1; rw [hC3.left]; rfl })))) | fail
              go_wp2
              go_roundw
              case rel =>
                (repeat apply Exists.intro)
                refine ⟨?_, rfl⟩
                exact ⟨k + 1, dc.write q (secL (500 + (k : Int))), by omega, by omega, by go_num, hC4, by simp [Dk.write]; omega, by show dc.writes + 1 ≤ _; omega⟩
              case measure => simp [intOf]; omega
            · rcases (show ¬ ((k : Int) < (ts.length : Int)) ∨ ((k : Int) < (ts.length : Int) ∧ ¬ ((k : Int) < 20)) by omega) with hx1 | ⟨hx1, hx2⟩
              · clear hkl hlt
                go_wp2
                go_meet
                exact ⟨dc, hC, by omega⟩
              · clear hkl hlt
                go_wp2
                go_meet
                exact ⟨dc, hC, by omega⟩
        case rest =>
          obtain ⟨dc, hC, hwt3⟩ := hcut
          have HCR := hid (crash_any hC.copy (by omega) (HK2.out.fresh hC.all) HKL.out)
          have HC3 := hid hC
          clear hC HCP
          go_wp2_with (go_at_call 16; refine HCR.out.mono ?_; rintro e w7 ⟨⟨v7, rfl⟩, hd7, hk7⟩; have HL7 := hid (HC3.out.step hd7 hk7 rfl); clear HCR HC3 hd7 hk7)
          go_loopw [20, 21, 22] (fun i _ _ wr => ∃ p : Nat, p ≤ 12 ∧ i = .int .i64 p ∧ Cp w w2 B Bc Bl d (dc.crash ks) (texts d.now 12) wr) (fun i _ _ _ => 12 - (intOf i).toNat)
          case atStart => exact ⟨0, by omega, rfl, HL7.out⟩
          case round =>
            obtain ⟨p, hp12, rfl, hLp⟩ := hrel
            clear HL7
            by_cases hlp : p < 12
            · have hlpI : (p : Int) < 12 := by omega
              have HRD := hid (read_any hLp.disk (i := p) hlp (by rw [hdl]; decide))
              have HLP := hid hLp
              have HTA := hid (texts_at hnl hlp)
              have htl := texts_len hnl (Nat.le_refl 12)
              obtain ⟨S, hS⟩ : ∃ S, S = strOfNums (d.now.getD p []) := ⟨_, rfl⟩
              rw [← hS] at HTA
              have HSS := hid hS
              clear hLp hS
              go_wp2_with (go_at_call 15; refine HRD.out.mono ?_; rintro e w8 ⟨v8, rfl, ho8, hb8⟩; have HL8 := hid ((HLP.out.fresh hb8).fresh (Below.refl _ w8).drew); have hcv8 := (has_sec (own_below ho8 (Below.refl _ w8).drew)).conv; rw [← HSS.out] at hcv8; have hca := HL8.out.txt.cell (p := p) (by omega); rw [HTA.out] at hca; clear HRD HLP ho8 hb8)
              first | (go_region_held (fun w' => w'.cell? ⟨Bl, p, none⟩ = some (.string S)) (first | exact hca) (fail)) | fail
              go_wp2
              go_roundw
              case rel => exact ⟨p + 1, by omega, by go_num, HL8.out⟩
              case measure => simp [intOf]; omega
            · obtain rfl : p = 12 := by omega
              have HB := hid hLp.all
              clear hLp
              go_wp2_with (go_at_call 17; refine (awake_any wr).mono ?_; rintro e w9 ⟨rfl, hb9⟩)
              go_ret
              exact ⟨rfl, HB.out.trans (hb9.mono HB.out.size)⟩
end Go.Proofs.Ytindjkgkdldooaa
