/-
  TurnSorts, given what turn answers.
-/
import Derived.Test.YtccbjohiaboipaaTLaw
namespace Go.Proofs.Ytccbjohiaboipaa
open Go.RowKit Go.Sort

set_option maxHeartbeats 1600000 in
theorem turnSorts_core (H : TurnC) (w : World) (v : Value) (ps : List Pp) (at' : Int) (hp : Pts w v ps) (h64 : ∀ p ∈ ps, P64 p) (hat : I64 at') :
    Calls Try.prog 5 #[v, .int .i64 at'] w fun e w' => e = .returned (.bool true) ∧ Below w.heap.size w w' := by
  have HP := hid hp
  have H64 := hid h64
  have HAT := hid hat
  obtain ⟨a, cap, rfl, hx⟩ := hp
  obtain ⟨n, hn⟩ : ∃ n, ps.length = n := ⟨_, rfl⟩
  have HN := hid hn
  rw [hn] at HP ⊢
  clear hx h64 hat hn
  by_cases h60 : 60 < n
  · have h60I : (60 : Int) < (n : Int) := by omega
    go_enter Try.func5, Try.ntmps5
    go_wp2_with (go_at_call 11; refine (turnAwake_any H _).mono ?_; rintro e w9 ⟨rfl, hb9⟩; have HB := hid hb9; clear hb9)
    go_ret
    exact ⟨rfl, HB.out⟩
  · have h60I : ¬ (60 : Int) < (n : Int) := by omega
    have HL := hid (show ps.length ≤ 60 by rw [HN.out]; omega)
    have HSL := hid (show (natsI (sortD ps)).length ≤ 1000000 by rw [natsI_length, sortD_length, HN.out]; omega)
    go_enter Try.func5, Try.ntmps5
    go_wp2_with (first
      | (go_at_call 12; refine (dirs_any _ ps w HP.out (by have := HL.out; omega)).mono ?_; rintro e w1 ⟨va, vb, rfl, hra, hrb, hb1⟩; have HB := hid hb1; obtain ⟨ao, ca, rfl⟩ := hra.form; obtain ⟨bo, cb, rfl⟩ := hrb.form; rw [HN.out] at hra hrb ⊢; have HA := hid hra.pts; have HC := hid hrb.pts; clear hra hrb hb1 HP)
      | (go_at_call 20; refine (H.sort _ ps _ HA.out H64.out HL.out).mono ?_; rintro e w2 ⟨us, rfl, hus, hb2⟩; replace HA := hid (HA.out.below hb2); replace HC := hid (HC.out.below hb2); replace HB := hid (HB.out.trans (hb2.mono HB.out.size)); have HS := hid hus; clear hus hb2)
      | (go_at_call 21; refine (refSort_any _ ps _ HC.out (by have := HL.out; omega)).mono ?_; rintro e w3 ⟨ut, rfl, hut, hb3⟩; replace HA := hid (HA.out.below hb3); replace HC := hid (HC.out.below hb3); replace HB := hid (HB.out.trans (hb3.mono HB.out.size)); replace HS := hid (HS.out.below hb3); have HT := hid hut.nums; clear hut hb3)
      | (go_at_call 19; refine (sameInts_any _ _ _ _ HS.out HT.out HSL.out).mono ?_; rintro e w4 ⟨rfl, hb4⟩; replace HA := hid (HA.out.below hb4); replace HC := hid (HC.out.below hb4); replace HB := hid (HB.out.trans (hb4.mono HB.out.size)); clear hb4 HS HT))
    go_loopw [7] (fun iv wr => ∃ k : Nat, k ≤ n ∧ iv = .int .i64 k ∧ Pts wr (.slice ao n ca) ps ∧ Pts wr (.slice bo n cb) ps ∧ Below w.heap.size w wr) (fun iv _ => n - (intOf iv).toNat)
    case atStart => exact ⟨0, by omega, rfl, HA.out, HC.out, HB.out⟩
    case round =>
      obtain ⟨k, hk, rfl, hA, hC, hbr⟩ := hrel
      clear HA HC HB
      have HA := hid hA
      have HC := hid hC
      have HB := hid hbr
      clear hA hC hbr
      by_cases hlt : k < n
      · have hkI : (k : Int) < (n : Int) := by omega
        have HK := hid (show I64 (k : Int) from ⟨by omega, by omega⟩)
        have hKL := HL.out
        obtain ⟨X, hX⟩ : ∃ X, stepD ps (k : Int) 1 = X := ⟨_, rfl⟩
        obtain ⟨Y, hY⟩ : ∃ Y, stepD ps (k : Int) (-1) = Y := ⟨_, rfl⟩
        have HX := hid hX
        have HY := hid hY
        clear hX hY
        go_wp2_with (first
          | (go_at_call 7; refine (H.next _ ps (k : Int) _ HA.out H64.out HK.out HL.out).mono ?_; rintro e w5 ⟨rfl, hb5⟩; replace HA := hid (HA.out.below hb5); replace HC := hid (HC.out.below hb5); replace HB := hid (HB.out.trans (hb5.mono HB.out.size)); clear hb5; rw [HX.out])
          | (go_at_call 22; refine (refNext_any _ ps (k : Int) _ HC.out (by omega)).mono ?_; rintro e w6 ⟨rfl, hb6⟩; replace HA := hid (HA.out.below hb6); replace HC := hid (HC.out.below hb6); replace HB := hid (HB.out.trans (hb6.mono HB.out.size)); clear hb6; rw [HX.out])
          | (go_at_call 8; refine (H.prev _ ps (k : Int) _ HA.out H64.out HK.out HL.out).mono ?_; rintro e w7 ⟨rfl, hb7⟩; replace HA := hid (HA.out.below hb7); replace HC := hid (HC.out.below hb7); replace HB := hid (HB.out.trans (hb7.mono HB.out.size)); clear hb7; rw [HY.out])
          | (go_at_call 23; refine (refPrev_any _ ps (k : Int) _ HC.out (by omega)).mono ?_; rintro e w8 ⟨rfl, hb8⟩; replace HA := hid (HA.out.below hb8); replace HC := hid (HC.out.below hb8); replace HB := hid (HB.out.trans (hb8.mono HB.out.size)); clear hb8; rw [HY.out]))
        go_roundw
        case rel => exact ⟨k + 1, by omega, by go_num, HA.out, HC.out, HB.out⟩
        case measure => simp [intOf]; omega
      · have hkI : ¬ (k : Int) < (n : Int) := by omega
        have hKL := HL.out
        obtain ⟨X, hX⟩ : ∃ X, stepD ps at' 1 = X := ⟨_, rfl⟩
        obtain ⟨Y, hY⟩ : ∃ Y, stepD ps at' (-1) = Y := ⟨_, rfl⟩
        have HX := hid hX
        have HY := hid hY
        clear hX hY
        go_wp2_with (first
          | (go_at_call 7; refine (H.next _ ps at' _ HA.out H64.out HAT.out HL.out).mono ?_; rintro e w5 ⟨rfl, hb5⟩; replace HA := hid (HA.out.below hb5); replace HC := hid (HC.out.below hb5); replace HB := hid (HB.out.trans (hb5.mono HB.out.size)); clear hb5; rw [HX.out])
          | (go_at_call 22; refine (refNext_any _ ps at' _ HC.out (by omega)).mono ?_; rintro e w6 ⟨rfl, hb6⟩; replace HA := hid (HA.out.below hb6); replace HC := hid (HC.out.below hb6); replace HB := hid (HB.out.trans (hb6.mono HB.out.size)); clear hb6; rw [HX.out])
          | (go_at_call 8; refine (H.prev _ ps at' _ HA.out H64.out HAT.out HL.out).mono ?_; rintro e w7 ⟨rfl, hb7⟩; replace HA := hid (HA.out.below hb7); replace HC := hid (HC.out.below hb7); replace HB := hid (HB.out.trans (hb7.mono HB.out.size)); clear hb7; rw [HY.out])
          | (go_at_call 23; refine (refPrev_any _ ps at' _ HC.out (by omega)).mono ?_; rintro e w8 ⟨rfl, hb8⟩; replace HA := hid (HA.out.below hb8); replace HC := hid (HC.out.below hb8); replace HB := hid (HB.out.trans (hb8.mono HB.out.size)); clear hb8; rw [HY.out])
          | (go_at_call 11; refine (turnAwake_any H _).mono ?_; rintro e w9 ⟨rfl, hb9⟩; replace HB := hid (HB.out.trans (hb9.mono HB.out.size)); clear hb9))
        go_ret
        exact ⟨rfl, HB.out⟩
end Go.Proofs.Ytccbjohiaboipaa
