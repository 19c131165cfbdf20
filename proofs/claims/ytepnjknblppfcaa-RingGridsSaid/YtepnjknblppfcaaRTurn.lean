/-
  ring's Turned.
-/
import Derived.Test.YtepnjknblppfcaaMD
import Derived.Test.YtepnjknblppfcaaMRev
import Derived.Test.YtepnjknblppfcaaRRefC
namespace Go.Proofs.Ytepnjknblppfcaa
open Go.RowKit Go.Sort

/-- Both slices, behind each other. -/
theorem concatTwo {u v : Value} {ps qs : List Pp} {w W : World} (hb : Below w.heap.size w W) (hu : Src W u ps) (hv : Src W v qs) (hl : ps.length ≤ 1000) (hm : qs.length ≤ 1000) :
    Calls Try.prog 24 #[.slice (some ⟨W.heap.size, 0, none⟩) 2 2] (W.alloc (.cells #[u, v] 22)) fun e w' => (∃ x, e = .returned x ∧ PtRow w' w.heap.size x (ps ++ qs)) ∧ Below w.heap.size w w' := by
  obtain ⟨wA, hwA⟩ : ∃ wA, W.alloc (.cells #[u, v] 22) = wA := ⟨_, rfl⟩
  have hbA : Below W.heap.size W wA := by rw [← hwA]; exact (Below.refl _ _).alloc (Nat.le_refl _) _
  have hbw : Below w.heap.size w wA := hb.trans (hbA.mono hb.size)
  rw [hwA]
  refine (concat_any u v ps qs W.heap.size wA (hu.below hbA) (hv.below hbA) (by rw [← hwA]; unfold World.alloc; simp) hl hm).mono fun e w' ⟨⟨x, he, hx⟩, hb'⟩ => ⟨⟨x, he, hx.base hbw.size⟩, hbw.trans (hb'.mono hbw.size)⟩
theorem turnedL_take {ps : List Pp} (h : 1 ≤ ps.length) : turnedL ps = ps.take 1 ++ (ps.drop 1).reverse := by
  rw [turnedL_eq h]
  congr 1
  cases ps with
  | nil => simp at h
  | cons p r => rfl

set_option maxRecDepth 100000 in
set_option maxHeartbeats 3200000 in
theorem ringTurned_any (v : Value) (ps : List Pp) (w : World) (hs : Src w v ps) (hl : ps.length ≤ 1000) :
    Calls Try.prog 12 #[v] w fun e w' => (∃ u, e = .returned u ∧ Src w' u (turnedL ps)) ∧ Below w.heap.size w w' := by
  obtain ⟨ao, ca, hu, _⟩ := hs.pts
  subst hu
  obtain ⟨n, hn⟩ : ∃ n, ps.length = n := ⟨_, rfl⟩
  have HN := hid hn
  rw [hn] at hl hs ⊢
  have HS := hid hs
  clear hs hn
  by_cases h0 : n = 0
  · have h0I : ((n : Int) == 0) = true := by simp [h0]
    have HE := hid (show turnedL ps = [] from List.eq_nil_of_length_eq_zero (by rw [turnedL_len, HN.out]; exact h0))
    clear h0
    go_enter Try.func12, Try.ntmps12
    go_wp2
    go_ret
    exact ⟨⟨_, rfl, .inl ⟨rfl, HE.out⟩⟩, Below.refl _ _⟩
  · have h0I : ((n : Int) == 0) = false := by simp [h0]
    have h1 : 1 ≤ n := by omega
    have h1I : (1 : Int) ≤ (n : Int) := by omega
    obtain ⟨b, off, rfl, hcap⟩ := HS.out.at (by rw [HN.out]; omega)
    have HE := hid (turnedL_take (ps := ps) (by rw [HN.out]; exact h1))
    have hcaI : (n : Int) ≤ (ca : Int) := by omega
    have h1c : (1 : Int) ≤ (ca : Int) := by omega
    have h1cN : 1 ≤ ca := by omega
    have HT0 := hid (show ∀ W, Below w.heap.size w W → Src W (.slice (some ⟨b, off, none⟩) 1 ca) (ps.take 1) from fun W hW => (HS.out.below hW).take (by rw [HN.out]; exact h1))
    obtain ⟨M, hM⟩ : ∃ M, (ps.drop 1).reverse.length = M := ⟨_, rfl⟩
    have HM := hid hM
    have HMl := hid (show M ≤ 1000 by rw [← hM, List.length_reverse, List.length_drop, HN.out]; omega)
    clear h0 hM
    by_cases hc1 : ca = 1
    · have hn1 : n = 1 := by omega
      subst hc1 hn1
      have HT := hid (show ∀ W, Below w.heap.size w W → Calls Try.prog 25 #[.slice (some ⟨b, off, none⟩) 0 0] W fun e w' => (∃ u, e = .returned u ∧ Src w' u (ps.drop 1).reverse) ∧ Below W.heap.size W w' from fun W hW => lineReverse_any _ _ W (Src.none_left (w := W) (b := b) (off := off) (ps := ps) (k := 1) HN.out) (by rw [List.length_drop, HN.out]; omega))
      go_enter Try.func12, Try.ntmps12
      go_wp2
      go_region_with (first
        | (go_at_call 25; refine (HT.out w.drew (Below.refl _ w).drew).mono ?_; rintro e w1 ⟨⟨u, rfl, hu⟩, hb1⟩; have hBw : Below w.heap.size w w1 := (Below.refl _ w).drew.trans hb1; obtain ⟨uo, uc, eu, _⟩ := hu.pts; subst eu; rw [HM.out] at hu ⊢; have HC := hid (concatTwo hBw (HT0.out w1 hBw) hu (by rw [List.length_take]; omega) (by rw [HM.out]; exact HMl.out)); clear hu hb1 hBw)
        | (go_at_call 24; refine HC.out.mono ?_; rintro e w2 ⟨⟨x, rfl, hx⟩, hb2⟩; have HX := hid hx.src; have HB2 := hid hb2; clear hx hb2 HC))
      all_goals
        go_wp2
        go_ret
        exact ⟨⟨_, rfl, by rw [HE.out]; exact HX.out⟩, HB2.out⟩
    · have hcb : ¬ ca = 1 := hc1
      have HT := hid (show ∀ W, Below w.heap.size w W → Calls Try.prog 25 #[.slice (some ⟨b, off + 2, none⟩) (n - 1) (ca - 1)] W fun e w' => (∃ u, e = .returned u ∧ Src w' u (ps.drop 1).reverse) ∧ Below W.heap.size W w' from fun W hW => lineReverse_any _ _ W ((HS.out.below hW).drop1 (by rw [HN.out]; exact h1)) (by rw [List.length_drop, HN.out]; omega))
      go_enter Try.func12, Try.ntmps12
      go_wp2
      go_region_with (first
        | (go_at_call 25; refine (HT.out w.drew (Below.refl _ w).drew).mono ?_; rintro e w1 ⟨⟨u, rfl, hu⟩, hb1⟩; have hBw : Below w.heap.size w w1 := (Below.refl _ w).drew.trans hb1; obtain ⟨uo, uc, eu, _⟩ := hu.pts; subst eu; rw [HM.out] at hu ⊢; have HC := hid (concatTwo hBw (HT0.out w1 hBw) hu (by rw [List.length_take]; omega) (by rw [HM.out]; exact HMl.out)); clear hu hb1 hBw)
        | (go_at_call 24; refine HC.out.mono ?_; rintro e w2 ⟨⟨x, rfl, hx⟩, hb2⟩; have HX := hid hx.src; have HB2 := hid hb2; clear hx hb2 HC))
      all_goals
        go_wp2
        go_ret
        exact ⟨⟨_, rfl, by rw [HE.out]; exact HX.out⟩, HB2.out⟩
end Go.Proofs.Ytepnjknblppfcaa
