/-
  A line the other way round, plain.
-/
import Derived.Test.YtlnjjkgjknheiaaMF
namespace Go.Proofs.Ytlnjjkgjknheiaa

theorem relP_cdd (a b c d : Pp) : relP a b d c = relP a b c d := by rw [← relP_cd, relP_ab, relP_cd]
theorem lpt_rev {ps : List Pp} {i : Nat} (h : i < ps.length) : lpt ps.reverse i = lpt ps (ps.length - 1 - i) := by
  refine lpt_at ?_
  rw [List.getElem?_reverse h]
  exact at_lpt (by omega)
theorem sgR_comm (ps qs : List Pp) (i k : Nat) : sgR qs ps k i = sgR ps qs i k := relP_cd _ _ _ _
theorem sgR_rev {ps qs : List Pp} {i k : Nat} (hi : i + 1 < ps.length) : sgR ps.reverse qs i k = sgR ps qs (ps.length - 2 - i) k := by
  unfold sgR
  rw [lpt_rev (show i < ps.length by omega), lpt_rev hi, show ps.length - 1 - i = ps.length - 2 - i + 1 by omega, show ps.length - 1 - (i + 1) = ps.length - 2 - i by omega, relP_ab]
theorem sgR_rev' {ps qs : List Pp} {i k : Nat} (hk : k + 1 < qs.length) : sgR ps qs.reverse i k = sgR ps qs i (qs.length - 2 - k) := by
  rw [← sgR_comm, sgR_rev hk, sgR_comm]
theorem closedL_rev (ps : List Pp) : closedL ps.reverse = closedL ps := by
  unfold closedL
  rw [List.length_reverse]
  by_cases h : 3 ≤ ps.length
  · rw [lpt_rev (show 0 < ps.length by omega), lpt_rev (show ps.length - 1 < ps.length by omega), show ps.length - 1 - 0 = ps.length - 1 by omega, show ps.length - 1 - (ps.length - 1) = 0 by omega, eqp_comm]
  · rw [decide_eq_false h]; rfl
theorem simpleL_rev1 {ps : List Pp} (h : simpleL ps = true) : simpleL ps.reverse = true := by
  refine simpleL_true (fun i hi => ?_) (fun i hi k hik hk => ?_)
  · rw [List.length_reverse] at hi
    rw [lpt_rev (show i < ps.length by omega), lpt_rev (show i + 1 < ps.length by omega), eqp_comm, show ps.length - 1 - (i + 1) = ps.length - 2 - i by omega, show ps.length - 1 - i = ps.length - 2 - i + 1 by omega]
    exact simpleL_step h (by omega)
  · rw [List.length_reverse] at hi hk
    rw [sgR_rev (by omega), sgR_rev' (by omega), sgR_comm, simpleL_pair h (i := ps.length - 2 - k) (k := ps.length - 2 - i) (by omega) (by omega)]
    unfold wantL
    rw [List.length_reverse, closedL_rev]
    congr 1
    apply propext
    constructor
    · rintro (h1 | ⟨h1, h2, h3, h4⟩)
      · exact .inl (by omega)
      · exact .inr ⟨by omega, by omega, h3, h4⟩
    · rintro (h1 | ⟨h1, h2, h3, h4⟩)
      · exact .inl (by omega)
      · exact .inr ⟨by omega, by omega, h3, h4⟩
theorem simpleL_rev (ps : List Pp) : simpleL ps.reverse = simpleL ps := by
  rw [Bool.eq_iff_iff]
  refine ⟨fun h => ?_, simpleL_rev1⟩
  have := simpleL_rev1 h
  rwa [List.reverse_reverse] at this
theorem okL_rev (ps : List Pp) : okL ps.reverse = okL ps := by
  unfold okL gridL
  rw [List.length_reverse, List.all_reverse, simpleL_rev]
end Go.Proofs.Ytlnjjkgjknheiaa
