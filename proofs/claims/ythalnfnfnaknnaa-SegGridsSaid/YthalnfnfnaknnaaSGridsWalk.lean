/-
  SegGrids: the walk as a whole; SegRays and SegRelates in the form that the frame asks.
-/
import Derived.Test.YthalnfnfnaknnaaSGrids
namespace Go.Proofs.Ythalnfnfnaknnaa
open Go.RowKit Go.Sort

theorem i64_and7 (n : Int) : bits .and .i64 n 7 = n % 8 := by
  have h31 : (BitVec.ofInt 64 7).toNat = 2 ^ 3 - 1 := by decide
  have key : (BitVec.ofInt 64 n &&& BitVec.ofInt 64 7).toNat = (n % ((2 ^ 64 : Nat) : Int)).toNat % 2 ^ 3 := by
    rw [BitVec.toNat_and, BitVec.toNat_ofInt, h31, Nat.and_two_pow_sub_one_eq_mod]
  show IntKind.i64.wrap ((BitVec.ofInt 64 n &&& BitVec.ofInt 64 7).toNat : Nat) = n % 8
  rw [key, IntKind.wrap_i64]
  omega

theorem segGrids_walkC (H : SegC) (w : World) (v : Int) (_ : -9223372036854775808 ≤ v) (_ : v ≤ 9223372036854775807) :
    Calls Try.prog 7 #[.int .i64 v] w fun e w' => e = .returned (.bool true) ∧ Below w.heap.size w w' := by
  have e0 := i64_and7 (v)
  have b0 : 0 ≤ v % 8 ∧ v % 8 < 8 := by omega
  have e1 := i64_and7 (v / 8)
  have b1 : 0 ≤ (v / 8) % 8 ∧ (v / 8) % 8 < 8 := by omega
  have e2 := i64_and7 (v / 64)
  have b2 : 0 ≤ (v / 64) % 8 ∧ (v / 64) % 8 < 8 := by omega
  have e3 := i64_and7 (v / 512)
  have b3 : 0 ≤ (v / 512) % 8 ∧ (v / 512) % 8 < 8 := by omega
  have e4 := i64_and7 (v / 4096)
  have b4 : 0 ≤ (v / 4096) % 8 ∧ (v / 4096) % 8 < 8 := by omega
  have e5 := i64_and7 (v / 32768)
  have b5 : 0 ≤ (v / 32768) % 8 ∧ (v / 32768) % 8 < 8 := by omega
  have e6 := i64_and7 (v / 262144)
  have b6 : 0 ≤ (v / 262144) % 8 ∧ (v / 262144) % 8 < 8 := by omega
  have e7 := i64_and7 (v / 2097152)
  have b7 : 0 ≤ (v / 2097152) % 8 ∧ (v / 2097152) % 8 < 8 := by omega
  generalize (v) % 8 = x0 at *
  generalize (v / 8) % 8 = y0 at *
  generalize (v / 64) % 8 = x1 at *
  generalize (v / 512) % 8 = y1 at *
  generalize (v / 4096) % 8 = x2 at *
  generalize (v / 32768) % 8 = y2 at *
  generalize (v / 262144) % 8 = x3 at *
  generalize (v / 2097152) % 8 = y3 at *
  have HR := hid (fun W => H.rel x0 y0 x1 y1 x2 y2 x3 y3 W)
  rw [near_in (x := x0) (by omega) (by omega), near_in (x := y0) (by omega) (by omega), near_in (x := x1) (by omega) (by omega), near_in (x := y1) (by omega) (by omega), near_in (x := x2) (by omega) (by omega), near_in (x := y2) (by omega) (by omega), near_in (x := x3) (by omega) (by omega), near_in (x := y3) (by omega) (by omega)] at HR
  refine segGrids_core H w v x0 y0 x1 y1 x2 y2 x3 y3 _ e0 e1 e2 e3 e4 e5 e6 e7 b0 b1 b2 b3 b4 b5 b6 b7 HR (hid fun i j hi hj W => ?_) (hid fun i j hi hj W => ?_) (hid (grid_says ⟨b0.1, b0.2, b1.1, b1.2⟩ ⟨b2.1, b2.2, b3.1, b3.2⟩ ⟨b4.1, b4.2, b5.1, b5.2⟩ ⟨b6.1, b6.2, b7.1, b7.2⟩))
  · have h := refOn_any x0 y0 x1 y1 i j W
    rw [near_in (x := x0) (by omega) (by omega), near_in (x := y0) (by omega) (by omega), near_in (x := x1) (by omega) (by omega), near_in (x := y1) (by omega) (by omega), near_in (x := (i : Int)) (by omega) (by omega), near_in (x := (j : Int)) (by omega) (by omega)] at h
    exact h
  · have h := refOn_any x2 y2 x3 y3 i j W
    rw [near_in (x := x2) (by omega) (by omega), near_in (x := y2) (by omega) (by omega), near_in (x := x3) (by omega) (by omega), near_in (x := y3) (by omega) (by omega), near_in (x := (i : Int)) (by omega) (by omega), near_in (x := (j : Int)) (by omega) (by omega)] at h
    exact h
end Go.Proofs.Ythalnfnfnaknnaa
