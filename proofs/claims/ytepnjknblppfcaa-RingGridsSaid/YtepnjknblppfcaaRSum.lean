/-
  Sums over the first n numbers: round about, the other way round, in parts.
-/
import Derived.Test.YtepnjknblppfcaaQBase
namespace Go.Proofs.Ytepnjknblppfcaa

def sN : Nat → (Nat → Int) → Int
  | 0, _ => 0
  | n + 1, g => sN n g + g n
theorem sN_congr {g h : Nat → Int} : ∀ {n : Nat}, (∀ i, i < n → g i = h i) → sN n g = sN n h
  | 0, _ => rfl
  | n + 1, e => by
    unfold sN
    rw [sN_congr (fun i hi => e i (by omega)), e n (by omega)]
theorem sN_head (g : Nat → Int) : ∀ n, sN (n + 1) g = g 0 + sN n (fun i => g (i + 1))
  | 0 => by unfold sN; unfold sN; omega
  | n + 1 => by
    have h := sN_head g n
    have e : sN (n + 1 + 1) g = sN (n + 1) g + g (n + 1) := rfl
    have e2 : sN (n + 1) (fun i => g (i + 1)) = sN n (fun i => g (i + 1)) + g (n + 1) := rfl
    rw [e, e2, h]
    omega
theorem sN_rot1 (g : Nat → Int) (n : Nat) : sN n (fun i => g ((i + 1) % n)) = sN n g := by
  cases n with
  | zero => rfl
  | succ m =>
    have e : sN (m + 1) (fun i => g ((i + 1) % (m + 1))) = sN m (fun i => g ((i + 1) % (m + 1))) + g ((m + 1) % (m + 1)) := rfl
    rw [e, Nat.mod_self, sN_head, sN_congr (h := fun i => g (i + 1)) (fun i hi => by rw [Nat.mod_eq_of_lt (by omega)])]
    omega
theorem sN_rot (g : Nat → Int) (n r : Nat) : sN n (fun i => g ((i + r) % n)) = sN n g := by
  induction r with
  | zero => exact sN_congr fun i hi => by rw [Nat.add_zero, Nat.mod_eq_of_lt hi]
  | succ r ih =>
    rw [← ih, ← sN_rot1 (fun i => g ((i + r) % n)) n]
    refine sN_congr fun i hi => ?_
    rw [Nat.mod_add_mod, show i + 1 + r = i + (r + 1) by omega]
theorem sN_rev (g : Nat → Int) : ∀ n, sN n (fun i => g (n - 1 - i)) = sN n g
  | 0 => rfl
  | n + 1 => by
    have h := sN_rev g n
    rw [sN_head]
    have e : sN n (fun i => g (n + 1 - 1 - (i + 1))) = sN n (fun i => g (n - 1 - i)) := sN_congr fun i hi => by rw [show n + 1 - 1 - (i + 1) = n - 1 - i by omega]
    have e2 : sN (n + 1) g = sN n g + g n := rfl
    rw [e, h, e2, show n + 1 - 1 - 0 = n by omega]
    omega
theorem sN_add (g : Nat → Int) (a : Nat) : ∀ b, sN (a + b) g = sN a g + sN b (fun i => g (a + i))
  | 0 => by
    have e : sN 0 (fun i => g (a + i)) = 0 := rfl
    rw [Nat.add_zero, e]
    omega
  | b + 1 => by
    have h := sN_add g a b
    have e : sN (a + (b + 1)) g = sN (a + b) g + g (a + b) := rfl
    have e2 : sN (b + 1) (fun i => g (a + i)) = sN b (fun i => g (a + i)) + g (a + b) := rfl
    rw [e, e2, h]
    omega
theorem sN_plus (g h : Nat → Int) : ∀ n, sN n (fun i => g i + h i) = sN n g + sN n h
  | 0 => rfl
  | n + 1 => by
    have q := sN_plus g h n
    have e : sN (n + 1) (fun i => g i + h i) = sN n (fun i => g i + h i) + (g n + h n) := rfl
    have e1 : sN (n + 1) g = sN n g + g n := rfl
    have e2 : sN (n + 1) h = sN n h + h n := rfl
    rw [e, e1, e2, q]
    omega
theorem sN_neg (g : Nat → Int) : ∀ n, sN n (fun i => -g i) = -sN n g
  | 0 => rfl
  | n + 1 => by
    have q := sN_neg g n
    have e : sN (n + 1) (fun i => -g i) = sN n (fun i => -g i) + -g n := rfl
    have e1 : sN (n + 1) g = sN n g + g n := rfl
    rw [e, e1, q]
    omega
/-- What goes out comes in again. -/
theorem sN_tele (h : Nat → Int) (n : Nat) : sN n (fun i => h i - h ((i + 1) % n)) = 0 := by
  have e : sN n (fun i => h i - h ((i + 1) % n)) = sN n (fun i => h i + -h ((i + 1) % n)) := sN_congr fun i _ => by omega
  rw [e, sN_plus, sN_neg (fun i => h ((i + 1) % n)), sN_rot1 h n]
  omega
/-- How many of the first n. -/
def cN (n : Nat) (b : Nat → Bool) : Int := sN n (fun i => if b i then 1 else 0)
theorem cN_congr {b c : Nat → Bool} {n : Nat} (h : ∀ i, i < n → b i = c i) : cN n b = cN n c := sN_congr fun i hi => by rw [h i hi]
theorem cN_rot (b : Nat → Bool) (n r : Nat) : cN n (fun i => b ((i + r) % n)) = cN n b := sN_rot (fun i => if b i then 1 else 0) n r
theorem cN_rev (b : Nat → Bool) (n : Nat) : cN n (fun i => b (n - 1 - i)) = cN n b := sN_rev (fun i => if b i then 1 else 0) n
theorem cN_nonneg (b : Nat → Bool) : ∀ n, 0 ≤ cN n b
  | 0 => Int.le_refl _
  | n + 1 => by
    have q := cN_nonneg b n
    have e : cN (n + 1) b = cN n b + (if b n then 1 else 0) := rfl
    rw [e]
    split <;> omega
theorem cN_zero {b : Nat → Bool} : ∀ {n : Nat}, cN n b = 0 ↔ ∀ i, i < n → b i = false
  | 0 => ⟨fun _ i hi => absurd hi (Nat.not_lt_zero _), fun _ => rfl⟩
  | n + 1 => by
    have ih := @cN_zero b n
    have q := cN_nonneg b n
    have e : cN (n + 1) b = cN n b + (if b n then 1 else 0) := rfl
    rw [e]
    constructor
    · intro h i hi
      cases hb : b n
      · rw [hb] at h
        simp only [Bool.false_eq_true, if_false, Int.add_zero] at h
        by_cases hin : i = n
        · rw [hin]; exact hb
        · exact ih.1 h i (by omega)
      · rw [hb] at h
        simp only [if_true] at h
        omega
    · intro h
      rw [ih.2 (fun i hi => h i (by omega)), h n (by omega)]
      rfl
end Go.Proofs.Ytepnjknblppfcaa
