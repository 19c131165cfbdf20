/-
  SegLines: the walk as a whole.
-/
import Derived.Test.YthalnfnfnaknnaaQLine
import Derived.Test.YthalnfnfnaknnaaSLinesB
import Derived.Test.YthalnfnfnaknnaaSLinesC
namespace Go.Proofs.Ythalnfnfnaknnaa
open Go.RowKit Go.Sort

theorem i64_and15 (n : Int) : bits .and .i64 n 15 = n % 16 := by
  have h31 : (BitVec.ofInt 64 15).toNat = 2 ^ 4 - 1 := by decide
  have key : (BitVec.ofInt 64 n &&& BitVec.ofInt 64 15).toNat = (n % ((2 ^ 64 : Nat) : Int)).toNat % 2 ^ 4 := by
    rw [BitVec.toNat_and, BitVec.toNat_ofInt, h31, Nat.and_two_pow_sub_one_eq_mod]
  show IntKind.i64.wrap ((BitVec.ofInt 64 n &&& BitVec.ofInt 64 15).toNat : Nat) = n % 16
  rw [key, IntKind.wrap_i64]
  omega
theorem mul15 {t d : Int} (ht : 0 ≤ t ∧ t ≤ 15) (hd : -50 < d ∧ d < 50) : -800 ≤ t * d ∧ t * d ≤ 800 := by
  have h := Int.natAbs_mul t d
  have h1 : t.natAbs ≤ 15 := by omega
  have h2 : d.natAbs ≤ 50 := by omega
  have h3 := Nat.mul_le_mul h1 h2
  omega

theorem segLines_walkC (H : SegC) (w : World) (v : Int) (_ : -9223372036854775808 ≤ v) (_ : v ≤ 9223372036854775807) (sx : Int) (_ : -9223372036854775808 ≤ sx) (_ : sx ≤ 9223372036854775807) (sy : Int) (_ : -9223372036854775808 ≤ sy) (_ : sy ≤ 9223372036854775807) :
    Calls Try.prog 4 #[.int .i64 v, .int .i64 sx, .int .i64 sy] w fun e w' => e = .returned (.bool true) ∧ Below w.heap.size w w' := by
  have e0 := i64_and15 v
  have e1 := i64_and15 (v / 16)
  have e2 := i64_and15 (v / 256)
  have e3 := i64_and15 (v / 4096)
  have b0 : 0 ≤ v % 16 ∧ v % 16 ≤ 15 := by omega
  have b1 : 0 ≤ v / 16 % 16 ∧ v / 16 % 16 ≤ 15 := by omega
  have b2 : 0 ≤ v / 256 % 16 ∧ v / 256 % 16 ≤ 15 := by omega
  have b3 : 0 ≤ v / 4096 % 16 ∧ v / 4096 % 16 ≤ 15 := by omega
  generalize v % 16 = t0 at *
  generalize v / 16 % 16 = t1 at *
  generalize v / 256 % 16 = t2 at *
  generalize v / 4096 % 16 = t3 at *
  have bD := tmod_both sx (m := 50) (by omega)
  have bE := tmod_both sy (m := 50) (by omega)
  obtain ⟨D, hD⟩ : ∃ x, sx.tmod 50 = x := ⟨_, rfl⟩
  obtain ⟨E, hE⟩ : ∃ x, sy.tmod 50 = x := ⟨_, rfl⟩
  rw [hD] at bD
  rw [hE] at bE
  have d0 := mul15 b0 bE; have d1 := mul15 b1 bE; have d2 := mul15 b2 bE; have d3 := mul15 b3 bE
  by_cases hz : D = 0 ∧ E = 0
  · have HS := hid (relP_line (d := 1) (e := E) (by omega) t0 t1 t2 t3)
    have HR := hid (fun W => H.rel t0 (t0 * E) t1 (t1 * E) t2 (t2 * E) t3 (t3 * E) W)
    rw [near_in (x := t0) (by omega) (by omega), near_in (x := t1) (by omega) (by omega), near_in (x := t2) (by omega) (by omega), near_in (x := t3) (by omega) (by omega), near_in (x := t0 * E) (by omega) (by omega), near_in (x := t1 * E) (by omega) (by omega), near_in (x := t2 * E) (by omega) (by omega), near_in (x := t3 * E) (by omega) (by omega)] at HR
    rw [Int.mul_one, Int.mul_one, Int.mul_one, Int.mul_one] at HS
    exact segLines_c H w v sx sy D E t0 t1 t2 t3 _ _ _ _ _ hD hE (by simp [hz.1]) (by simp [hz.2]) e0 e1 e2 e3 b0 b1 b2 b3 rfl d0 rfl d1 rfl d2 rfl d3 HR HS
  · have c0 := mul15 b0 bD; have c1 := mul15 b1 bD; have c2 := mul15 b2 bD; have c3 := mul15 b3 bD
    have HS := hid (relP_line hz t0 t1 t2 t3)
    have HR := hid (fun W => H.rel (t0 * D) (t0 * E) (t1 * D) (t1 * E) (t2 * D) (t2 * E) (t3 * D) (t3 * E) W)
    rw [near_in (x := t0 * D) (by omega) (by omega), near_in (x := t1 * D) (by omega) (by omega), near_in (x := t2 * D) (by omega) (by omega), near_in (x := t3 * D) (by omega) (by omega), near_in (x := t0 * E) (by omega) (by omega), near_in (x := t1 * E) (by omega) (by omega), near_in (x := t2 * E) (by omega) (by omega), near_in (x := t3 * E) (by omega) (by omega)] at HR
    by_cases hd : D = 0
    · exact segLines_b H w v sx sy D E t0 t1 t2 t3 _ _ _ _ _ _ _ _ _ hD hE (by simp [hd]) (by simp; omega) e0 e1 e2 e3 b0 b1 b2 b3 rfl c0 rfl d0 rfl c1 rfl d1 rfl c2 rfl d2 rfl c3 rfl d3 HR HS
    · exact segLines_a H w v sx sy D E t0 t1 t2 t3 _ _ _ _ _ _ _ _ _ hD hE (by simp [hd]) e0 e1 e2 e3 b0 b1 b2 b3 rfl c0 rfl d0 rfl c1 rfl d1 rfl c2 rfl d2 rfl c3 rfl d3 HR HS
end Go.Proofs.Ythalnfnfnaknnaa
