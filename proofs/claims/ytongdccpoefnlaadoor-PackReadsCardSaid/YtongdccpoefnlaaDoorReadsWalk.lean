/-
  PackReads: the walk.
-/
import Derived.Test.YtongdccpoefnlaaDoorRef
namespace Go.Proofs.YtongdccpoefnlaaDoor
open Go.RowKit

set_option maxHeartbeats 400000 in
theorem packReads_walk (w : World) (v : Value) (zs : List Int) (h : Has w v zs) (_ : zs.length ≤ reachBytes) (ht : TabOk w) :
    Calls Tryd.prog 6 #[v] w fun e w' => e = .returned (.bool true) ∧ Below w.heap.size w w' := by
  have hc := h.conv
  have H1 := hid (var_has h)
  have H2 := hid (refVar_any h.str w)
  have H3 := hid (intOf_has h)
  have H4 := hid (refIntOf_any h.str w)
  have HT := hid (awake_any w ht)
  clear h ht
  generalize strOfNums zs = s at *
  generalize dec 0 0 zs = D at *
  generalize zag D.1 = z at *
  obtain ⟨u, n, er⟩ := D
  simp only at H1 H2 H3 H4
  go_enter Tryd.func6, Tryd.ntmps6
  go_wp2_with (first | (go_at_call 16; refine H1.out.mono ?_; rintro e w1 ⟨rfl, hw1⟩; subst hw1) | (go_at_call 17; refine H2.out.mono ?_; rintro e w1 ⟨rfl, hw1⟩; subst hw1) | (go_at_call 12; refine H3.out.mono ?_; rintro e w1 ⟨rfl, hw1⟩; subst hw1) | (go_at_call 18; refine H4.out.mono ?_; rintro e w1 ⟨rfl, hw1⟩; subst hw1) | (go_at_call 10; refine HT.out.mono ?_; rintro e w4 ⟨rfl, hb4⟩))
  go_ret
  exact ⟨rfl, hb4⟩
end Go.Proofs.YtongdccpoefnlaaDoor
