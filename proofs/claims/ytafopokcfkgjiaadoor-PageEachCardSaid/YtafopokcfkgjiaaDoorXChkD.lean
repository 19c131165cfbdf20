/-
  The sums of mixed sectors, by trying: pages 1 (of 2) and 2, the second's numbers 138 to 265.
-/
import Derived.Test.YtafopokcfkgjiaaDoorXCrc
namespace Go.Proofs.YtafopokcfkgjiaaDoor

set_option maxRecDepth 1000000 in
theorem chkD_128 : (List.range 32).all (fun a => chk 1 2 2 (a + 138)) = true := by decide +kernel
set_option maxRecDepth 1000000 in
theorem chkD_160 : (List.range 32).all (fun a => chk 1 2 2 (a + 170)) = true := by decide +kernel
set_option maxRecDepth 1000000 in
theorem chkD_192 : (List.range 32).all (fun a => chk 1 2 2 (a + 202)) = true := by decide +kernel
set_option maxRecDepth 1000000 in
theorem chkD_224 : (List.range 32).all (fun a => chk 1 2 2 (a + 234)) = true := by decide +kernel
theorem chkD_all {v : Nat} (h0 : 138 ≤ v) (h1 : v < 266) : chk 1 2 2 v = true := by
  rcases (show (138 ≤ v ∧ v < 170) ∨ (170 ≤ v ∧ v < 202) ∨ (202 ≤ v ∧ v < 234) ∨ (234 ≤ v ∧ v < 266) by omega) with ⟨_, _⟩ | ⟨_, _⟩ | ⟨_, _⟩ | ⟨_, _⟩
  · exact List.all_eq_true.1 chkD_128 (v - 138) (List.mem_range.2 (by omega)) |> fun h => by rwa [show v - 138 + 138 = v by omega] at h
  · exact List.all_eq_true.1 chkD_160 (v - 170) (List.mem_range.2 (by omega)) |> fun h => by rwa [show v - 170 + 170 = v by omega] at h
  · exact List.all_eq_true.1 chkD_192 (v - 202) (List.mem_range.2 (by omega)) |> fun h => by rwa [show v - 202 + 202 = v by omega] at h
  · exact List.all_eq_true.1 chkD_224 (v - 234) (List.mem_range.2 (by omega)) |> fun h => by rwa [show v - 234 + 234 = v by omega] at h
end Go.Proofs.YtafopokcfkgjiaaDoor
