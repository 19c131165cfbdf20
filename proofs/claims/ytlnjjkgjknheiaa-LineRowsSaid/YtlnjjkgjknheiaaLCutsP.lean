/-
  A line parted at each of its points, from behind, and joined again, plain.
-/
import Derived.Test.YtlnjjkgjknheiaaLEndsP
namespace Go.Proofs.Ytlnjjkgjknheiaa

theorem relB_on : ∀ sa sb sc sd ab ac ad bc bd cd x : Bool, flagsOk sa sb sc sd ab ac ad bc bd cd = true → sd = true → relB sa sb sc sd ab ac ad bc bd cd x ≠ 0 := by decide +kernel
theorem relB_two : ∀ sa sb sc sd ab ac ad bc bd cd x : Bool, flagsOk sa sb sc sd ab ac ad bc bd cd = true → sd = true → bc = true → cd = false → relB sa sb sc sd ab ac ad bc bd cd x ≠ 1 := by decide +kernel
theorem okL_gl {ps : List Pp} (h : okL ps = true) : Gl ps := by
  obtain ⟨_, _, _, hg⟩ := okL_simple h
  intro p hp
  unfold gridL at hg
  rw [List.all_eq_true] at hg
  have := hg p hp
  rw [okP_iff] at this
  simp only [Bool.and_eq_true, decide_eq_true_eq] at this
  unfold clP
  rw [near_in (by omega) (by omega), near_in (by omega) (by omega)]
theorem lpt_pre {ps : List Pp} {k i : Nat} (h : i < k) (hk : k ≤ ps.length) : lpt (ps.take k) i = lpt ps i := lpt_take h (by omega)
theorem take_last {ps : List Pp} {k : Nat} (h : k < ps.length) : ps.take (k + 1) = ps.take k ++ [lpt ps k] := by
  rw [List.take_add_one, at_lpt h]
  rfl
/-- The first segment of a line that has one of its inner points ends there. -/
theorem at_inner {ps : List Pp} (h : okL ps = true) {k : Nat} (h1 : 1 ≤ k) (hk : k + 1 < ps.length) : atL (ps.take (k + 2)) (lpt ps k) = some (k - 1) := by
  obtain ⟨hs, h2, _, _⟩ := okL_simple h
  have hl : (ps.take (k + 2)).length = k + 2 := by rw [List.length_take]; omega
  have hp : ∀ i, i < k + 2 → lpt (ps.take (k + 2)) i = lpt ps i := fun i hi => lpt_pre hi (by omega)
  have hon : onL (ps.take (k + 2)) (lpt ps k) (k - 1) = true := by
    unfold onL
    rw [hp (k - 1) (by omega), show k - 1 + 1 = k by omega, hp k (by omega)]
    exact on_right _ _
  obtain ⟨kk, hat, hle⟩ := atL_le (s := k - 1) (by rw [hl]; omega) hon
  rw [hat]
  congr 1
  rcases Nat.lt_or_ge kk (k - 1) with hlt | hge
  · exfalso
    have ho : onL (ps.take (k + 2)) (lpt ps k) kk = true := by
      unfold atL at hat
      exact List.find?_some hat
    unfold onL at ho
    rw [hp kk (by omega), hp (kk + 1) (by omega)] at ho
    have hpair := simpleL_pair hs (i := kk) (k := k - 1) (by omega) (by omega)
    have hse : sgR ps ps kk (k - 1) = relP (clP (lpt ps kk)) (clP (lpt ps (kk + 1))) (clP (lpt ps (k - 1))) (clP (lpt ps k)) := by
      unfold sgR
      rw [show k - 1 + 1 = k by omega]
    rw [hse] at hpair
    have hfl := flags_ok (clP (lpt ps kk)) (clP (lpt ps (kk + 1))) (clP (lpt ps (k - 1))) (clP (lpt ps k))
    have n0 : wantL ps kk (k - 1) ≠ 0 := by rw [← hpair]; exact relB_on _ _ _ _ _ _ _ _ _ _ _ hfl ho
    rcases wantL_one n0 with hw | ⟨_, hw, _, _⟩
    · have n1 : wantL ps kk (k - 1) ≠ 1 := by
        rw [← hpair]
        refine relB_two _ _ _ _ _ _ _ _ _ _ _ hfl ho ?_ ?_
        · rw [show kk + 1 = k - 1 by omega, eqp_self]
        · have := simpleL_step hs (i := k - 1) (by omega)
          rwa [show k - 1 + 1 = k by omega] at this
      have w1 : wantL ps kk (k - 1) = 1 := by unfold wantL; rw [if_pos (.inl hw)]
      exact n1 w1
    · omega
  · omega
theorem cut_inner {ps : List Pp} (h : okL ps = true) {k : Nat} (h1 : 1 ≤ k) (hk : k + 1 < ps.length) : splitL (ps.take (k + 2)) (lpt ps k) = ((ps.take (k + 1), [lpt ps k, lpt ps (k + 1)]), true) := by
  obtain ⟨hs, h2, _, _⟩ := okL_simple h
  have hg := okL_gl h
  have hgp : ∀ j, j < ps.length → clP (lpt ps j) = lpt ps j := fun j hj => hg _ (List.mem_of_getElem? (at_lpt hj))
  have hl : (ps.take (k + 2)).length = k + 2 := by rw [List.length_take]; omega
  have hp : ∀ i, i < k + 2 → lpt (ps.take (k + 2)) i = lpt ps i := fun i hi => lpt_pre hi (by omega)
  have he : endL (ps.take (k + 2)) (lpt ps k) = false := by
    unfold endL
    rw [hl, hp 0 (by omega), show k + 2 - 1 = k + 1 by omega, hp (k + 1) (by omega), Bool.or_eq_false_iff]
    have n1 := inner_first hs (i := k) (by omega) (by omega)
    rw [hgp k (by omega), hgp 0 (by omega)] at n1
    have n2 := step_ne hs (i := k) (by omega)
    rw [hgp k (by omega), hgp (k + 1) (by omega)] at n2
    constructor
    · cases hc : eqp (lpt ps 0) (lpt ps k) with
      | false => rfl
      | true => exact absurd (eqp_iff.1 hc).symm n1
    · cases hc : eqp (lpt ps (k + 1)) (lpt ps k) with
      | false => rfl
      | true => exact absurd (eqp_iff.1 hc).symm n2
  have ht : (ps.take (k + 2)).take k ++ [lpt ps k] = ps.take (k + 1) := by
    rw [List.take_take, Nat.min_eq_left (by omega), take_last (by omega)]
  have hd : (ps.take (k + 2)).drop k = [lpt ps k, lpt ps (k + 1)] := by
    rw [show k + 2 = k + 1 + 1 by omega, take_last (k := k + 1) hk, take_last (k := k) (by omega), List.append_assoc, List.drop_append_of_le_length (by rw [List.length_take]; omega), List.drop_of_length_le (by rw [List.length_take]; omega)]
    rfl
  unfold splitL
  rw [at_inner h h1 hk]
  dsimp only
  rw [he, if_neg (by decide), show k - 1 + 1 = k by omega, hp k (by omega), if_pos rfl, ht, hd]
theorem join_inner {ps : List Pp} {j : Nat} (hj : j + 1 < ps.length) : joinL (ps.take (j + 1)) [lpt ps j, lpt ps (j + 1)] = ps.take (j + 2) := by
  have hl : (ps.take (j + 1)).length = j + 1 := by rw [List.length_take]; omega
  unfold joinL
  rw [if_pos ⟨by rw [hl]; omega, by simp, by rw [hl, show j + 1 - 1 = j by omega, lpt_pre (by omega) (by omega)]; rfl⟩]
  rw [show j + 2 = j + 1 + 1 by omega, take_last (k := j + 1) hj]
  rfl
end Go.Proofs.Ytlnjjkgjknheiaa
