/-
  Layer 2: disk.Write where it is refused.
-/
import Derived.Test.YthhlbhnogcfnjaaDoorDCrash
namespace Go.Proofs.YthhlbhnogcfnjaaDoor
open Go.RowKit

theorem write_bad {w : World} {base B n : Nat} {d : Dk} (h : DiskIs w base B n d) {i : Int} {ao : Option Addr} {len cap : Nat} (hbad : ¬ (0 ≤ i ∧ i < n) ∨ len ≠ 64) :
    Calls Tryd.prog 25 #[.pointer (some ⟨B, 0, none⟩), .int .i64 i, .slice ao len cap] w fun e w' => e = .returned (.int .i64 1) ∧ w' = w := by
  have HH := hid (has_any h i)
  clear h
  by_cases hi : 0 ≤ i ∧ i < (n : Int)
  · have hd : decide (0 ≤ i ∧ i < (n : Int)) = true := by simpa using hi
    have hl : len ≠ 64 := by rcases hbad with hb | hb; exact absurd hi hb; exact hb
    have hlI : ¬ ((len : Int) = 64) := by omega
    rw [hd] at HH
    clear hbad hi hd hl
    go_enter Tryd.func25, Tryd.ntmps25
    go_wp2_with (go_at_call 44; refine HH.out.mono ?_; rintro e w2 ⟨rfl, hw⟩; have hw' := hw.symm; clear hw; subst hw')
    go_ret
    exact ⟨rfl, rfl⟩
  · have hd : decide (0 ≤ i ∧ i < (n : Int)) = false := by simpa using hi
    rw [hd] at HH
    clear hbad hi hd
    go_enter Tryd.func25, Tryd.ntmps25
    go_wp2_with (go_at_call 44; refine HH.out.mono ?_; rintro e w2 ⟨rfl, hw⟩; have hw' := hw.symm; clear hw; subst hw')
    go_ret
    exact ⟨rfl, rfl⟩
theorem write_dead {w : World} {base B n : Nat} {d : Dk} (h : DiskIs w base B n d) {i : Int} (hi : 0 ≤ i ∧ i < n) (hd : d.left = 0) {ao : Option Addr} {cap : Nat} :
    Calls Tryd.prog 25 #[.pointer (some ⟨B, 0, none⟩), .int .i64 i, .slice ao 64 cap] w fun e w' => e = .returned (.int .i64 50) ∧ w' = w := by
  have HH := hid (has_any h i)
  have hd' : decide (0 ≤ i ∧ i < (n : Int)) = true := by simpa using hi
  have HD := hid (dead_any h)
  have hd2 : (d.left == 0) = true := by simpa using hd
  rw [hd'] at HH
  rw [hd2] at HD
  clear h hi hd hd' hd2
  go_enter Tryd.func25, Tryd.ntmps25
  go_wp2_with (first | (go_at_call 44; refine HH.out.mono ?_; rintro e w2 ⟨rfl, hw⟩; have hw' := hw.symm; clear hw; subst hw') | (go_at_call 20; refine HD.out.mono ?_; rintro e w2 ⟨rfl, hw⟩; have hw' := hw.symm; clear hw; subst hw'))
  go_ret
  exact ⟨rfl, rfl⟩
end Go.Proofs.YthhlbhnogcfnjaaDoor
