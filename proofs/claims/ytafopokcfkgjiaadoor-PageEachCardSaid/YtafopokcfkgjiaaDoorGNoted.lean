/-
  Layer 3: what page.noted gives.
-/
import Derived.Test.YtafopokcfkgjiaaDoorGCheck
namespace Go.Proofs.YtafopokcfkgjiaaDoor
open Go.RowKit

/-- The journal's head, its frames, the pages that it tells. -/
def jHead (l : List (List Int)) (jn : Nat) : List Int := secs l jn 1
def jFrames (l : List (List Int)) (jn : Nat) : List Int := secs l (jn + 1) (8 * countOf (jHead l jn))
def notedP (l : List (List Int)) (jn : Nat) : List Pg := if jHead l jn = headOf (jFrames l jn) then pagesL (countOf (jHead l jn)) (jFrames l jn) else []
/-- What a journal keeps to. -/
structure JOk (l : List (List Int)) (jn np : Nat) : Prop where
  kind : jHead l jn = headOf (jFrames l jn) → ∀ j, j < countOf (jHead l jn) → pageErr (frameAt (jFrames l jn) j) = 0 ∨ openE (frameAt (jFrames l jn) j) ≠ 0
  tk : takes np (notedP l jn)

set_option maxRecDepth 8000 in
set_option maxHeartbeats 800000 in
theorem noted_any {w : World} {base n F B p0 np : Nat} {d : Dk} {half : Bool} (hd : DiskIs w base B n d) (hf : FileIs w base F B p0 np half) (hl : d.left ≠ 0) (ht : TabOk w) (hp : p0 + np * 8 + 80 ≤ n) (hj : JOk d.now (p0 + np * 8) np) :
    Calls Tryd.prog 44 #[.pointer (some ⟨F, 0, none⟩)] w fun e w' => ∃ v, e = .returned (.tuple #[v, .int .i64 0]) ∧ Pgs w' v (notedP d.now (p0 + np * 8)) ∧ Below w.heap.size w w' := by
  have hn := hd.2.1
  have hnl := hd.ok.now_len
  have hns := hd.ok.now_secs
  have hcl := countOf_le (jHead d.now (p0 + np * 8))
  have HJ := hid (fun wx hb => journal_any (hf.below (w' := wx) hb) (by omega) (by omega))
  have HL1 := hid (load_any hd hf hl (i := p0 + np * 8) (K := 1) (by omega) (by omega))
  have hHb : By (jHead d.now (p0 + np * 8)) := secs_by hns
  have hHl : (jHead d.now (p0 + np * 8)).length = 64 := by unfold jHead; rw [secs_len hns (by rw [hnl]; omega)]
  have hFb : By (jFrames d.now (p0 + np * 8)) := secs_by hns
  have hFl : (jFrames d.now (p0 + np * 8)).length = 512 * countOf (jHead d.now (p0 + np * 8)) := by
    unfold jFrames; rw [secs_len hns (by rw [hnl]; omega)]; omega
  have hl2 := fun wx (hb : Below w.heap.size w wx) => load_any (hd.below (w' := wx) hb) (hf.below hb) hl (i := p0 + np * 8 + 1) (K := 8 * countOf (jHead d.now (p0 + np * 8))) (by omega) (by omega)
  have hjk := hj.kind
  have hjt := hj.tk
  have hnp : notedP d.now (p0 + np * 8) = if jHead d.now (p0 + np * 8) = headOf (jFrames d.now (p0 + np * 8)) then pagesL (countOf (jHead d.now (p0 + np * 8))) (jFrames d.now (p0 + np * 8)) else [] := rfl
  rw [hnp] at hjt ⊢
  have hjf : secs d.now (p0 + np * 8 + 1) (8 * countOf (jHead d.now (p0 + np * 8))) = jFrames d.now (p0 + np * 8) := rfl
  have hjh : secs d.now (p0 + np * 8) 1 = jHead d.now (p0 + np * 8) := rfl
  rw [hjf] at hl2
  rw [hjh] at HL1
  obtain ⟨H, hH⟩ : ∃ H, H = jHead d.now (p0 + np * 8) := ⟨_, rfl⟩
  obtain ⟨Fr, hF⟩ : ∃ Fr, Fr = jFrames d.now (p0 + np * 8) := ⟨_, rfl⟩
  rw [← hH, ← hF] at hl2 hFl hjk hjt ⊢
  rw [← hH] at HL1 hHb hHl hcl
  rw [← hF] at hFb
  obtain ⟨c, hc⟩ : ∃ c, c = countOf H := ⟨_, rfl⟩
  rw [← hc] at hl2 hFl hjk hjt hcl ⊢
  obtain ⟨J, hJ⟩ : ∃ J, J = p0 + np * 8 := ⟨_, rfl⟩
  rw [← hJ] at HL1 hl2 HJ
  rw [show ((J + 1 : Nat) : Int) = (J : Int) + 1 by omega, show ((8 * c : Nat) : Int) = 8 * (c : Int) by omega] at hl2
  have HL2 := hid hl2
  have HHB := hid hHb
  have HFB := hid hFb
  have HFL := hid hFl
  have HC := hid hc
  have HJK := hid hjk
  have HJT := hid hjt
  have HFI := hid hf
  have HT := hid ht
  have hJb : J ≤ 65536 := by omega
  clear hd hl hnl hns hj hjk hjt hnp hjf hjh hH hF hc hJ hl2 hHb hFb hFl ht hf
  by_cases heq : H = headOf Fr
  · rw [if_pos heq] at HJT ⊢
    have hdec : decide (H = headOf Fr) = true := by simpa using heq
    have HKI := hid (HJK.out heq)
    have HDE := hid hdec
    clear heq hdec HJK
    go_enter Tryd.func44, Tryd.ntmps44
    go_wp2_with (first
      | (go_at_call 32; refine (HJ.out w (Below.refl _ _)).mono ?_; rintro e w2 ⟨rfl, hw⟩; have hw' := hw.symm; clear hw; subst hw')
      | (go_at_call 45; refine HL1.out.mono ?_; rintro e w2 ⟨v2, rfl, hown2, hb2⟩; obtain ⟨a2, k2, rfl, _⟩ := own_any hown2; have HO2 := hid hown2; have HB2 := hid hb2; have HCO := hid (count_any (bs_own hown2 HHB.out (by omega))); rw [← HC.out] at HCO; have HJ2 := hid (HJ.out w2 hb2); have HL3 := hid (HL2.out w2 hb2); clear hown2 hb2 HL1)
      | (go_at_call 32; refine HJ2.out.mono ?_; rintro e w3 ⟨rfl, hw⟩; have hw' := hw.symm; clear hw HJ2; subst hw')
      | (go_at_call 55; refine HCO.out.mono ?_; rintro e w3 ⟨rfl, hw⟩; have hw' := hw.symm; clear hw HCO; subst hw')
      | (go_at_call 45; refine HL3.out.mono ?_; rintro e w3 ⟨v3, rfl, hown3, hb3⟩; rw [show 64 * (8 * c) = 512 * c by omega] at hown3; obtain ⟨a3, k3, rfl, _⟩ := own_any hown3; have HB3 := hid (HB2.out.trans (hb3.mono HB2.out.size)); have HO3 := hid (own_mono hown3 (Nat.zero_le _)); have HO23 := hid (own_below HO2.out hb3); have HHD := hid (head_any (own_mono hown3 (Nat.zero_le _)) HFB.out hcl); clear hown3 hb3 HL3)
      | (go_at_call 33; refine HHD.out.mono ?_; rintro e w4 ⟨v4, rfl, hown4, hb4⟩; obtain ⟨a4, k4, rfl, _⟩ := own_any hown4; have HB4 := hid (HB3.out.trans (hb4.mono HB3.out.size)); have HEQ := hid (equal_any (bs_own (own_below HO23.out hb4) HHB.out (by omega)) (bs_own hown4 (headOf_by HFL.out hcl HFB.out) (by rw [headOf_len HFL.out hcl]; omega))); rw [HDE.out] at HEQ; have HO4 := hid (own_below HO3.out hb4); have HPO := hid (pagesOf_any (HFI.out.below HB4.out) HO4.out HFB.out (HT.out.below HB4.out (Nat.le_refl _)) hcl HKI.out HJT.out); clear hown4 hb4 HHD)
      | (go_at_call 46; refine HEQ.out.mono ?_; rintro e w5 ⟨rfl, hw⟩; have hw' := hw.symm; clear hw HEQ; subst hw')
      | (go_at_call 56; refine HPO.out.mono ?_; rintro e w5 ⟨v5, rfl, hpg5, hb5⟩; have HP5 := hid hpg5; have HB5 := hid (HB4.out.trans (hb5.mono HB4.out.size)); obtain ⟨a5, k5, rfl, _⟩ := hpg5; clear hb5 HPO))
    go_ret2
    exact ⟨_, rfl, HP5.out, HB5.out⟩
  · rw [if_neg heq] at HJT ⊢
    have hdec : decide (H = headOf Fr) = false := by simpa using heq
    have HDE := hid hdec
    clear heq hdec HJK
    go_enter Tryd.func44, Tryd.ntmps44
    go_wp2_with (first
      | (go_at_call 32; refine (HJ.out w (Below.refl _ _)).mono ?_; rintro e w2 ⟨rfl, hw⟩; have hw' := hw.symm; clear hw; subst hw')
      | (go_at_call 45; refine HL1.out.mono ?_; rintro e w2 ⟨v2, rfl, hown2, hb2⟩; obtain ⟨a2, k2, rfl, _⟩ := own_any hown2; have HO2 := hid hown2; have HB2 := hid hb2; have HCO := hid (count_any (bs_own hown2 HHB.out (by omega))); rw [← HC.out] at HCO; have HJ2 := hid (HJ.out w2 hb2); have HL3 := hid (HL2.out w2 hb2); clear hown2 hb2 HL1)
      | (go_at_call 32; refine HJ2.out.mono ?_; rintro e w3 ⟨rfl, hw⟩; have hw' := hw.symm; clear hw HJ2; subst hw')
      | (go_at_call 55; refine HCO.out.mono ?_; rintro e w3 ⟨rfl, hw⟩; have hw' := hw.symm; clear hw HCO; subst hw')
      | (go_at_call 45; refine HL3.out.mono ?_; rintro e w3 ⟨v3, rfl, hown3, hb3⟩; rw [show 64 * (8 * c) = 512 * c by omega] at hown3; obtain ⟨a3, k3, rfl, _⟩ := own_any hown3; have HB3 := hid (HB2.out.trans (hb3.mono HB2.out.size)); have HO3 := hid (own_mono hown3 (Nat.zero_le _)); have HO23 := hid (own_below HO2.out hb3); have HHD := hid (head_any (own_mono hown3 (Nat.zero_le _)) HFB.out hcl); clear hown3 hb3 HL3)
      | (go_at_call 33; refine HHD.out.mono ?_; rintro e w4 ⟨v4, rfl, hown4, hb4⟩; obtain ⟨a4, k4, rfl, _⟩ := own_any hown4; have HB4 := hid (HB3.out.trans (hb4.mono HB3.out.size)); have HEQ := hid (equal_any (bs_own (own_below HO23.out hb4) HHB.out (by omega)) (bs_own hown4 (headOf_by HFL.out hcl HFB.out) (by rw [headOf_len HFL.out hcl]; omega))); rw [HDE.out] at HEQ; clear hown4 hb4 HHD)
      | (go_at_call 46; refine HEQ.out.mono ?_; rintro e w5 ⟨rfl, hw⟩; have hw' := hw.symm; clear hw HEQ; subst hw'))
    go_ret2
    exact ⟨_, rfl, pgs_nil _, HB4.out⟩
end Go.Proofs.YtafopokcfkgjiaaDoor
