/-
  line's segments, Closed, isEnd.
-/
import Derived.Test.YtepnjknblppfcaaLSplit
namespace Go.Proofs.Ytepnjknblppfcaa
open Go.RowKit Go.Sort

theorem Gl.at {ps : List Pp} (h : Gl ps) {i : Nat} (hi : i < ps.length) : clP (lpt ps i) = lpt ps i := h _ (List.mem_of_getElem? (at_lpt hi))
theorem closedL_gl {ps : List Pp} (h : Gl ps) (h3 : 3 ≤ ps.length) : closedL ps = eqp (lpt ps 0) (lpt ps (ps.length - 1)) := by
  unfold closedL
  rw [decide_eq_true h3, h.at (by omega), h.at (by omega)]
  rfl

set_option maxHeartbeats 1600000 in
theorem segments_any (ao : Option Addr) (n cap : Nat) (w : World) (hl : n ≤ 100000) :
    Calls Try.prog 41 #[.slice ao n cap] w fun e w' => e = .returned (.int .i64 ((n - 1 : Nat) : Int)) ∧ Below w.heap.size w w' := by
  cases n with
  | zero =>
    go_enter Try.func41, Try.ntmps41
    go_wp2
    go_ret
    exact ⟨rfl, Below.refl _ _⟩
  | succ m =>
    have h1 : (m : Int) + 1 - 1 = (m : Int) := by omega
    have h2 : ¬ (m : Int) < 0 := by omega
    have h3 : ¬ (0 : Int) > (m : Int) := by omega
    have h4 : max (m : Int) 0 = (m : Int) := by omega
    rw [Nat.add_sub_cancel]
    go_enter Try.func41, Try.ntmps41
    go_wp2
    all_goals (go_ret; refine ⟨?_, Below.refl _ _⟩)
    all_goals (first | rfl | (congr 2; omega))


























































































end Go.Proofs.Ytepnjknblppfcaa
