/-
  The sums of mixed sectors, by trying: pages 1 (of 2) and 2, the second's numbers 10 to 137.
-/
import Derived.Test.YtafopokcfkgjiaaDoorXCrc
namespace Go.Proofs.YtafopokcfkgjiaaDoor

set_option maxRecDepth 1000000 in
theorem chkC_0 : (List.range 32).all (fun a => chk 1 2 2 (a + 10)) = true := by decide +kernel
set_option maxRecDepth 1000000 in
theorem chkC_32 : (List.range 32).all (fun a => chk 1 2 2 (a + 42)) = true := by decide +kernel
set_option maxRecDepth 1000000 in
theorem chkC_64 : (List.range 32).all (fun a => chk 1 2 2 (a + 74)) = true := by decide +kernel
set_option maxRecDepth 1000000 in
theorem chkC_96 : (List.range 32).all (fun a => chk 1 2 2 (a + 106)) = true := by decide +kernel
theorem chkC_all {v : Nat} (h0 : 10 ≤ v) (h1 : v < 138) : chk 1 2 2 v = true := by
  rcases (show (10 ≤ v ∧ v < 42) ∨ (42 ≤ v ∧ v < 74) ∨ (74 ≤ v ∧ v < 106) ∨ (106 ≤ v ∧ v < 138) by omega) with ⟨_, _⟩ | ⟨_, _⟩ | ⟨_, _⟩ | ⟨_, _⟩
  · exact List.all_eq_true.1 chkC_0 (v - 10) (List.mem_range.2 (by omega)) |> fun h => by rwa [show v - 10 + 10 = v by omega] at h
  · exact List.all_eq_true.1 chkC_32 (v - 42) (List.mem_range.2 (by omega)) |> fun h => by rwa [show v - 42 + 42 = v by omega] at h
  · exact List.all_eq_true.1 chkC_64 (v - 74) (List.mem_range.2 (by omega)) |> fun h => by rwa [show v - 74 + 74 = v by omega] at h
  · exact List.all_eq_true.1 chkC_96 (v - 106) (List.mem_range.2 (by omega)) |> fun h => by rwa [show v - 106 + 106 = v by omega] at h
end Go.Proofs.YtafopokcfkgjiaaDoor
