/-
  A line's own points, plain.
-/
import Derived.Test.YtlnjjkgjknheiaaMG
import Derived.Test.YtlnjjkgjknheiaaLRev
namespace Go.Proofs.Ytlnjjkgjknheiaa

theorem atL_le {ps : List Pp} {p : Pp} {s : Nat} (hs : s < ps.length - 1) (h : onL ps p s = true) : ∃ k, atL ps p = some k ∧ k ≤ s := by
  cases hat : atL ps p with
  | none =>
    unfold atL at hat
    rw [List.find?_eq_none] at hat
    exact absurd h (hat s (List.mem_range.2 hs))
  | some k =>
    refine ⟨k, rfl, ?_⟩
    unfold atL at hat
    rw [List.find?_eq_some_iff_getElem] at hat
    obtain ⟨_, i, hi, e, hno⟩ := hat
    rw [List.getElem_range] at e
    subst e
    rcases Nat.lt_or_ge s i with hlt | hge
    · have := hno s hlt
      rw [List.getElem_range, h] at this
      cases this
    · exact hge
theorem at_own {ps : List Pp} {i : Nat} (hi : i < ps.length) (h2 : 2 ≤ ps.length) : ∃ k, atL ps (lpt ps i) = some k ∧ k ≤ i - 1 := by
  cases i with
  | zero => exact atL_le (s := 0) (by omega) (on_left _ _)
  | succ i => exact atL_le (s := i) (by omega) (on_right _ _)
theorem relB_share : ∀ sa sb sc sd ab ac ad bc bd cd x : Bool, flagsOk sa sb sc sd ab ac ad bc bd cd = true → (ac || ad || bc || bd) = true → relB sa sb sc sd ab ac ad bc bd cd x ≠ 0 := by decide +kernel
theorem relP_share {a b c d : Pp} (h : (eqp a c || eqp a d || eqp b c || eqp b d) = true) : relP a b c d ≠ 0 := relB_share _ _ _ _ _ _ _ _ _ _ _ (flags_ok a b c d) h
theorem wantL_one {ps : List Pp} {i k : Nat} (h : wantL ps i k ≠ 0) : k = i + 1 ∨ (i = 0 ∧ k + 1 = ps.length - 1 ∧ 2 < ps.length - 1 ∧ closedL ps = true) := by
  unfold wantL at h
  split at h
  · assumption
  · exact absurd rfl h
theorem closedL_eq {ps : List Pp} (h : closedL ps = true) : clP (lpt ps 0) = clP (lpt ps (ps.length - 1)) := by
  unfold closedL at h
  rw [Bool.and_eq_true] at h
  exact eqp_iff.1 h.2
theorem step_ne {ps : List Pp} (h : simpleL ps = true) {i : Nat} (hi : i < ps.length - 1) : clP (lpt ps i) ≠ clP (lpt ps (i + 1)) := by
  have := simpleL_step h hi
  intro e
  rw [e, eqp_self] at this
  cases this
theorem inner_first {ps : List Pp} (h : simpleL ps = true) {i : Nat} (h0 : 0 < i) (hi : i < ps.length - 1) : clP (lpt ps i) ≠ clP (lpt ps 0) := by
  intro e
  by_cases h1 : i = 1
  · subst h1
    exact step_ne h (i := 0) (by omega) e.symm
  · have hp := simpleL_pair h (i := 0) (k := i) (by omega) hi
    have hne : sgR ps ps 0 i ≠ 0 := relP_share (by rw [← e, eqp_self]; simp)
    rw [hp] at hne
    rcases wantL_one hne with hw | ⟨_, hw, _, hc⟩
    · omega
    · have e2 := closedL_eq hc
      have e3 : clP (lpt ps i) = clP (lpt ps (i + 1)) := by rw [e, e2, show ps.length - 1 = i + 1 by omega]
      exact step_ne h hi e3
theorem inner_last {ps : List Pp} (h : simpleL ps = true) {i : Nat} (h0 : 0 < i) (hi : i < ps.length - 1) : clP (lpt ps i) ≠ clP (lpt ps (ps.length - 1)) := by
  intro e
  by_cases h1 : i = ps.length - 2
  · have := step_ne h hi
    rw [show i + 1 = ps.length - 1 by omega] at this
    exact this e
  · have hp := simpleL_pair h (i := i - 1) (k := ps.length - 2) (by omega) (by omega)
    have hne : sgR ps ps (i - 1) (ps.length - 2) ≠ 0 := relP_share (by
      rw [show i - 1 + 1 = i by omega, show ps.length - 2 + 1 = ps.length - 1 by omega, ← e, eqp_self]
      simp)
    rw [hp] at hne
    rcases wantL_one hne with hw | ⟨hw, _, _, hc⟩
    · omega
    · have e2 := closedL_eq hc
      have hi1 : i = 1 := by omega
      subst hi1
      exact step_ne h (i := 0) (by omega) (e2.trans e.symm)
theorem okL_simple {ps : List Pp} (h : okL ps = true) : simpleL ps = true ∧ 2 ≤ ps.length ∧ ps.length ≤ 64 ∧ gridL ps = true := by
  unfold okL at h
  simp only [Bool.and_eq_true, decide_eq_true_eq] at h
  exact ⟨h.2, h.1.1.1, h.1.1.2, h.1.2⟩
theorem split_own {ps : List Pp} (hg : Gl ps) (h : okL ps = true) {i : Nat} (hi : i < ps.length) : (splitL ps (lpt ps i)).2 = (decide (0 < i) && decide (i < ps.length - 1)) := by
  obtain ⟨hs, h2, _, _⟩ := okL_simple h
  have hgp : ∀ j, j < ps.length → clP (lpt ps j) = lpt ps j := fun j hj => hg _ (List.mem_of_getElem? (at_lpt hj))
  obtain ⟨k, hat, _⟩ := at_own hi h2
  have e : (splitL ps (lpt ps i)).2 = !endL ps (lpt ps i) := by
    unfold splitL
    rw [hat]
    dsimp only
    cases endL ps (lpt ps i) <;> rfl
  rw [e]
  by_cases h0 : 0 < i
  · by_cases h1 : i < ps.length - 1
    · have n1 := inner_first hs h0 h1
      have n2 := inner_last hs h0 h1
      rw [hgp i hi, hgp 0 (by omega)] at n1
      rw [hgp i hi, hgp (ps.length - 1) (by omega)] at n2
      have : endL ps (lpt ps i) = false := by
        unfold endL
        rw [Bool.or_eq_false_iff]
        constructor
        · cases hc : eqp (lpt ps 0) (lpt ps i) with
          | false => rfl
          | true => exact absurd (eqp_iff.1 hc).symm n1
        · cases hc : eqp (lpt ps (ps.length - 1)) (lpt ps i) with
          | false => rfl
          | true => exact absurd (eqp_iff.1 hc).symm n2
      rw [this, decide_eq_true h0, decide_eq_true h1]
      rfl
    · have hl : i = ps.length - 1 := by omega
      have : endL ps (lpt ps i) = true := by
        unfold endL
        rw [hl, eqp_self]
        simp
      rw [this, decide_eq_false h1]
      simp
  · have hl : i = 0 := by omega
    have : endL ps (lpt ps i) = true := by
      unfold endL
      rw [hl, eqp_self]
      rfl
    rw [this, decide_eq_false h0]
    rfl
end Go.Proofs.Ytlnjjkgjknheiaa
