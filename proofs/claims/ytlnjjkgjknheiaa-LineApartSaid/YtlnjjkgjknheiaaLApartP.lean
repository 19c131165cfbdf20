/-
  Two lines that meet at their ends alone, whichever way they are told, plain.
-/
import Derived.Test.YtlnjjkgjknheiaaMG
import Derived.Test.YtlnjjkgjknheiaaLRev
namespace Go.Proofs.Ytlnjjkgjknheiaa

theorem relB_cc : ∀ sa sb sc sd ab ac ad bc bd cd x : Bool, flagsOk sa sb sc sd ab ac ad bc bd cd = true → relB sa sb sc sd ab ac ad bc bd cd x = 1 →
    ((ac || ad) = true → (ac || bc) = true → ac = true) ∧ ((ac || ad) = true → (ac || bc) = false → ad = true) ∧ ((ac || ad) = false → (ac || bc) = true → bc = true) ∧ ((ac || ad) = false → (ac || bc) = false → bd = true) ∧
    ((ac || ad) = true → (bc || bd) = true → ab = true) ∧ ((ac || ad) = false → (bc || bd) = true) := by decide +kernel
theorem shd_comm {a b c d : Pp} (h : relP a b c d = 1) : (shdP c d a b).1 = (shdP a b c d).1 := by
  obtain ⟨h1, h2, h3, h4, _, _⟩ := relB_cc _ _ _ _ _ _ _ _ _ _ _ (flags_ok a b c d) h
  unfold shdP
  rw [relP_cd, if_pos h, if_pos h, eqp_comm a c, eqp_comm b c]
  dsimp only
  cases e1 : (eqp a c || eqp a d) with
  | true =>
    cases e2 : (eqp a c || eqp b c) with
    | true => rw [if_pos rfl, if_pos rfl]; exact (eqp_iff.1 (h1 e1 e2)).symm
    | false => rw [if_neg (by decide), if_pos rfl]; exact (eqp_iff.1 (h2 e1 e2)).symm
  | false =>
    cases e2 : (eqp a c || eqp b c) with
    | true => rw [if_pos rfl, if_neg (by decide)]; exact (eqp_iff.1 (h3 e1 e2)).symm
    | false => rw [if_neg (by decide), if_neg (by decide)]; exact (eqp_iff.1 (h4 e1 e2)).symm
theorem shd_ab {a b c d : Pp} (h : relP a b c d = 1) : (shdP b a c d).1 = (shdP a b c d).1 := by
  obtain ⟨_, _, _, _, h5, h6⟩ := relB_cc _ _ _ _ _ _ _ _ _ _ _ (flags_ok a b c d) h
  unfold shdP
  rw [relP_ab, if_pos h, if_pos h]
  dsimp only
  cases e1 : (eqp a c || eqp a d) with
  | true =>
    cases e2 : (eqp b c || eqp b d) with
    | true => rw [if_pos rfl, if_pos rfl]; exact (eqp_iff.1 (h5 e1 e2)).symm
    | false => rw [if_neg (by decide), if_pos rfl]
  | false => rw [h6 e1, if_pos rfl, if_neg (by decide)]
theorem endL_rev {ps : List Pp} (h : 1 ≤ ps.length) (p : Pp) : endL ps.reverse p = endL ps p := by
  unfold endL
  rw [List.length_reverse, lpt_rev (show 0 < ps.length by omega), lpt_rev (show ps.length - 1 < ps.length by omega), show ps.length - 1 - 0 = ps.length - 1 by omega, show ps.length - 1 - (ps.length - 1) = 0 by omega, Bool.or_comm]
theorem meetL_comm (a b : List Pp) (i k : Nat) : meetL b a k i = meetL a b i k := by
  unfold meetL
  rw [sgR_comm a b i k]
  by_cases h : sgR a b i k = 1
  · have e : shdL b a k i = shdL a b i k := shd_comm h
    rw [e, h]
    cases endL a (shdL a b i k) <;> cases endL b (shdL a b i k) <;> rfl
  · rw [show (sgR a b i k == 1) = false by simpa using h]
    rfl
theorem meetL_rev {a b : List Pp} {i k : Nat} (hi : i + 1 < a.length) : meetL a.reverse b i k = meetL a b (a.length - 2 - i) k := by
  unfold meetL
  rw [sgR_rev hi]
  by_cases h : sgR a b (a.length - 2 - i) k = 1
  · have e : shdL a.reverse b i k = shdL a b (a.length - 2 - i) k := by
      unfold shdL
      rw [lpt_rev (show i < a.length by omega), lpt_rev hi, show a.length - 1 - i = a.length - 2 - i + 1 by omega, show a.length - 1 - (i + 1) = a.length - 2 - i by omega]
      exact shd_ab h
    rw [e, endL_rev (by omega)]
  · rw [show (sgR a b (a.length - 2 - i) k == 1) = false by simpa using h]
    rfl
theorem apartL_comm (a b : List Pp) : apartL b a = apartL a b := by
  rw [Bool.eq_iff_iff]
  constructor
  · intro h
    exact apartL_true fun i hi k hk => by rw [← meetL_comm]; exact apartL_at h hk hi
  · intro h
    exact apartL_true fun i hi k hk => by rw [meetL_comm]; exact apartL_at h hk hi
theorem apartL_rev (a b : List Pp) : apartL a.reverse b = apartL a b := by
  rw [Bool.eq_iff_iff]
  constructor
  · intro h
    refine apartL_true fun i hi k hk => ?_
    have := apartL_at h (i := a.length - 2 - i) (k := k) (by rw [List.length_reverse]; omega) hk
    rwa [meetL_rev (by omega), show a.length - 2 - (a.length - 2 - i) = i by omega] at this
  · intro h
    refine apartL_true fun i hi k hk => ?_
    rw [List.length_reverse] at hi
    rw [meetL_rev (by omega)]
    exact apartL_at h (by omega) hk
end Go.Proofs.Ytlnjjkgjknheiaa
