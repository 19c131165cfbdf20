/-
  A staircase, plain.
-/
import Derived.Test.YtjokpahlpkoopabLEndsP
namespace Go.Proofs.Ytjokpahlpkoopab

def stair (i : Nat) : Pp := (((i + 1) / 2 : Nat), (i / 2 : Nat))
def stairL (n : Nat) : List Pp := (List.range n).map stair
def farP (n : Nat) : Pp := ((stair (n - 1)).1 + 5, (stair (n - 1)).2 + 9)
def highP (n : Nat) : Pp := (-7, (farP n).2)
def backL (n k : Nat) : List Pp := stairL n ++ [farP n, highP n, stair k]
def stairB (a b : Nat) : Bool := (List.range (b - a)).all fun i => okL (stairL (a + i)) && !closedL (stairL (a + i)) && okL (backL (a + i) 0) && closedL (backL (a + i) 0)
theorem stairB_at {a b : Nat} (h : stairB a b = true) {n : Nat} (h1 : a ≤ n) (h2 : n < b) : okL (stairL n) = true ∧ closedL (stairL n) = false ∧ okL (backL n 0) = true ∧ closedL (backL n 0) = true := by
  unfold stairB at h
  rw [List.all_eq_true] at h
  have := h (n - a) (List.mem_range.2 (by omega))
  rw [show a + (n - a) = n by omega] at this
  simp only [Bool.and_eq_true, Bool.not_eq_true'] at this
  exact ⟨this.1.1.1, this.1.1.2, this.1.2, this.2⟩
theorem stair_near {k : Nat} (hk : k ≤ 1000) : clP (stair k) = stair k := by
  unfold clP stair
  dsimp only
  rw [near_in (by omega) (by omega), near_in (by omega) (by omega)]
theorem backL_len (n k : Nat) : (backL n k).length = n + 3 := by
  unfold backL stairL
  rw [List.length_append, List.length_map, List.length_range]
  rfl
theorem backL_stair {n k i : Nat} (hi : i < n) : lpt (backL n k) i = stair i := by
  unfold backL stairL
  rw [lpt_append_left (by rw [List.length_map, List.length_range]; exact hi)]
  refine lpt_at ?_
  rw [List.getElem?_map, List.getElem?_range hi]
  rfl
theorem backL_last (n k : Nat) : lpt (backL n k) (n + 2) = stair k := by
  have h := lpt_append_right (a := stairL n) (b := [farP n, highP n, stair k]) (i := 2) (by simp)
  have e : (stairL n).length = n := by unfold stairL; rw [List.length_map, List.length_range]
  rw [e] at h
  exact h
theorem back_open {n k : Nat} (h1 : 1 ≤ k) (hk : k < n) (hn : n ≤ 60) : closedL (backL n k) = false := by
  unfold closedL
  rw [backL_len, show n + 3 - 1 = n + 2 by omega, backL_last, backL_stair (by omega), stair_near (by omega), stair_near (by omega)]
  have : eqp (stair 0) (stair k) = false := by
    cases hc : eqp (stair 0) (stair k) with
    | false => rfl
    | true =>
      have e := congrArg Prod.fst (eqp_iff.1 hc)
      unfold stair at e
      dsimp only at e
      omega
  rw [this]
  simp
theorem back_not {n k : Nat} (h1 : 1 ≤ k) (hk : k < n) (hn : n ≤ 60) : okL (backL n k) = false := by
  cases h : okL (backL n k) with
  | false => rfl
  | true =>
    obtain ⟨hs, _, _, _⟩ := okL_simple h
    have hp := simpleL_pair hs (i := k - 1) (k := n + 1) (by omega) (by rw [backL_len]; omega)
    have hne : sgR (backL n k) (backL n k) (k - 1) (n + 1) ≠ 0 := relP_share (by
      rw [show k - 1 + 1 = k by omega, show n + 1 + 1 = n + 2 by omega, backL_last, backL_stair hk, eqp_self]
      simp)
    rw [hp] at hne
    rcases wantL_one hne with hw | ⟨_, _, _, hc⟩
    · omega
    · rw [back_open h1 hk hn] at hc
      cases hc
end Go.Proofs.Ytjokpahlpkoopab
