/-
  The sums of mixed sectors, by trying: pages 0 (of 1) and 0, the second's numbers 138 to 265.
-/
import Derived.Test.YtafopokcfkgjiaaDoorXCrc
namespace Go.Proofs.YtafopokcfkgjiaaDoor

set_option maxRecDepth 1000000 in
theorem chkB_128 : (List.range 32).all (fun a => chk 0 1 0 (a + 138)) = true := by decide +kernel
set_option maxRecDepth 1000000 in
theorem chkB_160 : (List.range 32).all (fun a => chk 0 1 0 (a + 170)) = true := by decide +kernel
set_option maxRecDepth 1000000 in
theorem chkB_192 : (List.range 32).all (fun a => chk 0 1 0 (a + 202)) = true := by decide +kernel
set_option maxRecDepth 1000000 in
theorem chkB_224 : (List.range 32).all (fun a => chk 0 1 0 (a + 234)) = true := by decide +kernel
theorem chkB_all {v : Nat} (h0 : 138 ≤ v) (h1 : v < 266) : chk 0 1 0 v = true := by
  rcases (show (138 ≤ v ∧ v < 170) ∨ (170 ≤ v ∧ v < 202) ∨ (202 ≤ v ∧ v < 234) ∨ (234 ≤ v ∧ v < 266) by omega) with ⟨_, _⟩ | ⟨_, _⟩ | ⟨_, _⟩ | ⟨_, _⟩
  · exact List.all_eq_true.1 chkB_128 (v - 138) (List.mem_range.2 (by omega)) |> fun h => by rwa [show v - 138 + 138 = v by omega] at h
  · exact List.all_eq_true.1 chkB_160 (v - 170) (List.mem_range.2 (by omega)) |> fun h => by rwa [show v - 170 + 170 = v by omega] at h
  · exact List.all_eq_true.1 chkB_192 (v - 202) (List.mem_range.2 (by omega)) |> fun h => by rwa [show v - 202 + 202 = v by omega] at h
  · exact List.all_eq_true.1 chkB_224 (v - 234) (List.mem_range.2 (by omega)) |> fun h => by rwa [show v - 234 + 234 = v by omega] at h
end Go.Proofs.YtafopokcfkgjiaaDoor
