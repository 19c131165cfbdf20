/-
  Layer 3: what page.check gives.
-/
import Derived.Test.YtafopokcfkgjiaaDoorGFetch
import Derived.WalkMore
namespace Go.Proofs.YtafopokcfkgjiaaDoor
open Go.RowKit

set_option maxRecDepth 8000 in
set_option maxHeartbeats 1600000 in
theorem check_any {w : World} {base n F B p0 np : Nat} {d : Dk} {half : Bool} (hd : DiskIs w base B n d) (hf : FileIs w base F B p0 np half) (hl : d.left ≠ 0) (ht : TabOk w) (hp : p0 + np * 8 ≤ n) (hok : ∀ no, no < np → OkAt (secs d.now (p0 + no * 8) 8) no) :
    Calls Tryd.prog 27 #[.pointer (some ⟨F, 0, none⟩)] w fun e w' => e = .returned (.int .i64 0) ∧ Below w.heap.size w w' := by
  have hn := hd.2.1
  have HD := hid hd
  have HF := hid hf
  have HL := hid hl
  have HT := hid ht
  have HOK := hid hok
  have HSE := hid hd.ok.now_secs
  have HNL := hid hd.ok.now_len
  obtain ⟨c0, c1, c2, c3⟩ := hf.cells
  clear hd hf hl ht hok
  go_enter Tryd.func27, Tryd.ntmps27
  go_wp2
  go_step3
  go_wp2
  go_step3
  go_wp2
  go_loopw [3, 4, 5, 6, 7, 8, 13, 16] (fun _ _ _ _ _ _ t _ wr => ∃ k : Nat, k ≤ np ∧ t = .int .i64 k ∧ Below w.heap.size w wr) (fun _ _ _ _ _ _ t _ _ => np - (intOf t).toNat)
  case atStart => exact ⟨0, by omega, rfl, Below.refl _ _⟩
  case round =>
    obtain ⟨k, hk, rfl, hbr⟩ := hrel
    have HBR := hid hbr
    clear hbr
    by_cases hlt : k < np
    · have hkI : (k : Int) < (np : Int) := by omega
      go_wp2
      go_loopw [4, 5, 6, 7, 8, 16] (fun _ _ _ _ _ t wx => ∃ j : Nat, j ≤ 8 ∧ t = .int .i64 j ∧ Below w.heap.size w wx) (fun _ _ _ _ _ t _ => 8 - (intOf t).toNat)
      case atStart => exact ⟨0, by omega, rfl, HBR.out⟩
      case round =>
        obtain ⟨j, hj, rfl, hbj⟩ := hrel
        have HBJ := hid hbj
        clear hbj
        by_cases hlj : j < 8
        · have hjI : (j : Int) < 8 := by omega
          have hdr : Below w.heap.size w wr.drew := HBJ.out.drew
          have HPL := hid (place_any (HF.out.below hdr) (k := k) (by omega) (by omega))
          have hrd := read_any (HD.out.below hdr) (i := p0 + k * 8 + j) (by omega) HL.out
          rw [show ((p0 + k * 8 + j : Nat) : Int) = ((p0 + k * 8 : Nat) : Int) + (j : Int) by omega] at hrd
          have hsec := HSE.out (d.now.getD (p0 + k * 8 + j) []) (by have := HNL.out; simp [List.getD, show p0 + k * 8 + j < d.now.length by omega])
          have HFE := hid (fun wx hb => fetch_any (HD.out.below (w' := wx) hb) (HF.out.below hb) HL.out (HT.out.below hb (Nat.le_refl _)) hp hlt (HOK.out k hlt))
          obtain ⟨S, hS⟩ : ∃ S, S = d.now.getD (p0 + k * 8 + j) [] := ⟨_, rfl⟩
          rw [← hS] at hrd hsec
          obtain ⟨fp, hfp⟩ : ∃ fp, fp = fetchP (secs d.now (p0 + k * 8) 8) k := ⟨_, rfl⟩
          rw [← hfp] at HFE
          obtain ⟨I, hI⟩ : ∃ I : Nat, I = p0 + k * 8 := ⟨_, rfl⟩
          rw [← hI] at HPL hrd
          have HRD := hid hrd
          have HSC := hid hsec
          obtain ⟨cF, _, _, _⟩ := (HF.out.below hdr).cells
          have hIb : I ≤ 200000 := by omega
          have hwrap : IntKind.i64.wrap ((I : Int) + (j : Int)) = (I : Int) + (j : Int) := by rw [IntKind.wrap_i64]; omega
          clear hrd hS hsec hfp hI hdr
          obtain ⟨z, hz⟩ : ∃ z, z = allZ S := ⟨_, rfl⟩
          have HZ := hid hz
          clear hz
          cases z with
          | true =>
            go_wp2
            go_region_held (fun w' => w'.cell? ⟨F, 0, none⟩ = some (.pointer (some ⟨B, 0, none⟩))) (first | exact cF | exact cF2) (first
              | (go_at_call 19; refine HPL.out.mono ?_; rintro e w2 ⟨rfl, hw⟩; have hw' := hw.symm; clear hw; subst hw')
              | (go_at_call 41; refine HRD.out.mono ?_; rintro e w2 ⟨v2, rfl, hown2, hb2⟩; have hB2 := HBJ.out.drew.trans (hb2.mono HBJ.out.size); obtain ⟨cF2, _, _, _⟩ := (HF.out.below hB2).cells; obtain ⟨a2, k2, rfl, _⟩ := own_any hown2; have HNO := hid (noughts_any (bs_own hown2 HSC.out.2 (by rw [HSC.out.1]; omega))); rw [← HZ.out] at HNO; have HB2 := hid hB2; clear hown2 hb2 hB2))
            go_wp2_with (go_at_call 42; refine HNO.out.mono ?_; rintro e w3 ⟨rfl, hw⟩; have hw' := hw.symm; clear hw HNO; subst hw')
            go_roundw
            case rel => exact ⟨j + 1, by omega, by go_num, HB2.out⟩
            case measure => simp [intOf]; omega
          | false =>
            go_wp2
            go_region_held (fun w' => w'.cell? ⟨F, 0, none⟩ = some (.pointer (some ⟨B, 0, none⟩))) (first | exact cF | exact cF2) (first
              | (go_at_call 19; refine HPL.out.mono ?_; rintro e w2 ⟨rfl, hw⟩; have hw' := hw.symm; clear hw; subst hw')
              | (go_at_call 41; refine HRD.out.mono ?_; rintro e w2 ⟨v2, rfl, hown2, hb2⟩; have hB2 := HBJ.out.drew.trans (hb2.mono HBJ.out.size); obtain ⟨cF2, _, _, _⟩ := (HF.out.below hB2).cells; obtain ⟨a2, k2, rfl, _⟩ := own_any hown2; have HNO := hid (noughts_any (bs_own hown2 HSC.out.2 (by rw [HSC.out.1]; omega))); rw [← HZ.out] at HNO; have HB2 := hid hB2; have HFT := hid (HFE.out w2 hB2); clear hown2 hb2 hB2))
            go_wp2_with (first
              | (go_at_call 42; refine HNO.out.mono ?_; rintro e w3 ⟨rfl, hw⟩; have hw' := hw.symm; clear hw HNO; subst hw')
              | (go_at_call 40; refine HFT.out.mono ?_; rintro e w3 ⟨s3, rfl, hown3, hb3⟩; obtain ⟨a3, k3, rfl, _⟩ := own_any hown3; have HB3 := hid (HB2.out.trans (hb3.mono HB2.out.size)); clear hown3 hb3 HFT))
            go_roundw
            case rel => exact ⟨k + 1, by omega, by go_num, HB3.out.alloc HB3.out.size _⟩
            case measure => simp [intOf]; omega
        · obtain rfl : j = 8 := by omega
          go_wp2
          go_roundw
          case rel => exact ⟨k + 1, by omega, by go_num, HBJ.out⟩
          case measure => simp [intOf]; omega
    · go_wp2
      rw [Exit.noGoto_ret]
      go_ret
      exact ⟨rfl, HBR.out⟩
end Go.Proofs.YtafopokcfkgjiaaDoor
