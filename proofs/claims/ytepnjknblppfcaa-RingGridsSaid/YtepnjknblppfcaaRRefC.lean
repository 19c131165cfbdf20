/-
  Layer 13: the document's Turned.
-/
import Derived.Test.YtepnjknblppfcaaRRefB
import Derived.Test.YtepnjknblppfcaaLSplit
import Derived.Deep.RegionLaw
namespace Go.Proofs.Ytepnjknblppfcaa
open Go.RowKit Go.Sort

theorem turnedL_eq {ps : List Pp} (h : 1 ≤ ps.length) : turnedL ps = [lpt ps 0] ++ (ps.drop 1).reverse := by
  refine List.ext_getElem? fun t => ?_
  unfold turnedL
  rw [List.getElem?_map]
  by_cases ht : t < ps.length
  · rw [List.getElem?_range ht]
    cases t with
    | zero => simp [Nat.mod_self]
    | succ t =>
      rw [List.singleton_append, List.getElem?_cons_succ, List.getElem?_reverse (by rw [List.length_drop]; omega), List.length_drop, List.getElem?_drop]
      show some (lpt ps ((ps.length - (t + 1)) % ps.length)) = _
      rw [Nat.mod_eq_of_lt (by omega), show 1 + (ps.length - 1 - 1 - t) = ps.length - (t + 1) by omega, at_lpt (by omega)]
  · rw [List.getElem?_eq_none (by simp; omega), List.getElem?_eq_none (by simp; omega)]
    rfl
theorem turnedL_len (ps : List Pp) : (turnedL ps).length = ps.length := by unfold turnedL; simp
theorem cell_inB {w w' : World} {b i : Nat} {v : Value} (h : w.cell? ⟨b, i, none⟩ = some v) (hb : Below w.heap.size w w') : w'.cell? ⟨b, i, none⟩ = some v :=
  (hb.cell (p := ⟨b, i, none⟩) (World.block_lt_of_cell? w _ h)).trans h










































































end Go.Proofs.Ytepnjknblppfcaa
