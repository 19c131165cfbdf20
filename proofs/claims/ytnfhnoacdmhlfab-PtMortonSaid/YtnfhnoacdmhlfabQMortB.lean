/-
  pt.together, pt.FromMorton; the document's Morton, FromMorton.
-/
import Derived.Test.YtnfhnoacdmhlfabQRef
import Derived.Test.YtnfhnoacdmhlfabQMort
import Derived.BigQuiet
namespace Go.Proofs.Ytnfhnoacdmhlfab
open Go.RowKit Go.Sort

/-- The lowest k bits at even places of m, put together. -/
def tg (m : Nat) : Nat → Nat
  | 0 => 0
  | k + 1 => tg m k + m / 4 ^ k % 2 * 2 ^ k
theorem tg_lt (m : Nat) : ∀ k, tg m k < 2 ^ k
  | 0 => by simp [tg]
  | k + 1 => by
    have h := tg_lt m k
    have h1 : m / 4 ^ k % 2 ≤ 1 := by omega
    have h2 := Nat.mul_le_mul_right (2 ^ k) h1
    rw [tg, Nat.pow_succ]
    omega
theorem tg_low (m : Nat) : ∀ k, tg m (k + 1) = m % 2 + 2 * tg (m / 4) k
  | 0 => by simp [tg]
  | k + 1 => by
    rw [tg, tg_low m k, tg, Nat.pow_succ 4 k, Nat.mul_comm (4 ^ k) 4, ← Nat.div_div_eq_div_mul, Nat.pow_succ 2 k, Nat.mul_add]
    have : m / 4 / 4 ^ k % 2 * (2 ^ k * 2) = 2 * (m / 4 / 4 ^ k % 2 * 2 ^ k) := by rw [← Nat.mul_assoc, Nat.mul_comm]
    omega
theorem tg_ap : ∀ (k X Y : Nat), X < 2 ^ k → Y < 2 ^ k → tg (ap X k + 2 * ap Y k) k = X ∧ tg ((ap X k + 2 * ap Y k) / 2) k = Y
  | 0, X, Y, hX, hY => by simp at hX hY; subst hX hY; simp [tg]
  | k + 1, X, Y, hX, hY => by
    rw [Nat.pow_succ] at hX hY
    obtain ⟨h1, h2⟩ := tg_ap k (X / 2) (Y / 2) (by omega) (by omega)
    rw [tg_low, tg_low, ap_low, ap_low]
    generalize ap (X / 2) k = a at *
    generalize ap (Y / 2) k = b at *
    rw [show (X % 2 + 4 * a + 2 * (Y % 2 + 4 * b)) / 4 = a + 2 * b by omega, h1, show (X % 2 + 4 * a + 2 * (Y % 2 + 4 * b)) / 2 / 4 = (a + 2 * b) / 2 by omega, h2]
    omega
theorem ap_tg : ∀ (k m : Nat), m < 4 ^ k → ap (tg m k) k + 2 * ap (tg (m / 2) k) k = m
  | 0, m, h => by simp at h; subst h; simp [ap]
  | k + 1, m, h => by
    rw [Nat.pow_succ] at h
    have h1 := ap_tg k (m / 4) (by omega)
    rw [ap_low, ap_low, tg_low, tg_low, show (m % 2 + 2 * tg (m / 4) k) / 2 = tg (m / 4) k by omega, show m / 2 / 4 = m / 4 / 2 by omega, show (m / 2 % 2 + 2 * tg (m / 4 / 2) k) / 2 = tg (m / 4 / 2) k by omega]
    generalize ap (tg (m / 4) k) k = a at *
    generalize ap (tg (m / 4 / 2) k) k = b at *
    omega

theorem u64_and1 {n : Nat} (_h : n < 18446744073709551616) : bits .and .u64 (n : Int) 1 = ((n % 2 : Nat) : Int) := by
  have h31 : (BitVec.ofInt 64 1).toNat = 2 ^ 1 - 1 := by decide
  have key : (BitVec.ofInt 64 (n : Int) &&& BitVec.ofInt 64 1).toNat = ((n : Int) % ((2 ^ 64 : Nat) : Int)).toNat % 2 ^ 1 := by
    rw [BitVec.toNat_and, BitVec.toNat_ofInt, h31, Nat.and_two_pow_sub_one_eq_mod]
  show IntKind.u64.wrap ((BitVec.ofInt 64 (n : Int) &&& BitVec.ofInt 64 1).toNat : Nat) = _
  rw [key, IntWalk.u64_in _ ⟨by omega, by omega⟩]
  omega
theorem i64_orN {a b : Nat} (ha : a < 9223372036854775808) (hb : b < 9223372036854775808) : bits .or .i64 (a : Int) (b : Int) = ((a ||| b : Nat) : Int) := by
  have key : (BitVec.ofInt 64 (a : Int) ||| BitVec.ofInt 64 (b : Int)).toNat = a ||| b := by
    rw [BitVec.toNat_or, BitVec.toNat_ofInt, BitVec.toNat_ofInt]
    have h1 : ((a : Int) % ((2 ^ 64 : Nat) : Int)).toNat = a := by omega
    have h2 : ((b : Int) % ((2 ^ 64 : Nat) : Int)).toNat = b := by omega
    rw [h1, h2]
  show IntKind.i64.wrap ((BitVec.ofInt 64 (a : Int) ||| BitVec.ofInt 64 (b : Int)).toNat : Nat) = _
  rw [key, IntKind.wrap_i64]
  have := Nat.or_lt_two_pow (n := 63) (x := a) (y := b) ha hb
  omega
theorem pow2_le {k : Nat} (h : k ≤ 22) : 2 ^ k ≤ 4194304 := by
  have := Nat.pow_le_pow_right (n := 2) (by omega) h
  simpa using this
theorem tg_step (m X k e : Nat) (hk : k < 22) (hm : m < 18446744073709551616) (hX : X < 2 ^ k) :
    bits .or .i64 (X : Int) (IntKind.i64.wrap (IntKind.i64.wrap (bits .and .u64 ((m : Int) / 2 ^ e) 1) * 2 ^ k)) = ((X + m / 2 ^ e % 2 * 2 ^ k : Nat) : Int) := by
  have hp := pow2_le (Nat.le_of_lt hk)
  have e1 : (m : Int) / 2 ^ e = ((m / 2 ^ e : Nat) : Int) := by push_cast; rfl
  have hlt : m / 2 ^ e < 18446744073709551616 := Nat.lt_of_le_of_lt (Nat.div_le_self _ _) hm
  have hb : m / 2 ^ e % 2 ≤ 1 := by omega
  rw [e1, u64_and1 hlt]
  generalize m / 2 ^ e % 2 = b at *
  rw [show IntKind.i64.wrap ((b : Nat) : Int) = (b : Int) by rw [IntKind.wrap_i64]; omega]
  have e2 : (b : Int) * 2 ^ k = ((b * 2 ^ k : Nat) : Int) := by push_cast; rfl
  have hb2 := Nat.mul_le_mul_right (2 ^ k) hb
  rw [e2, show IntKind.i64.wrap ((b * 2 ^ k : Nat) : Int) = ((b * 2 ^ k : Nat) : Int) by rw [IntKind.wrap_i64]; omega, i64_orN (by omega) (by omega)]
  congr 1
  rw [Nat.or_comm, Nat.mul_comm b, ← Nat.two_pow_add_eq_or_of_lt hX b, Nat.add_comm]

theorem together_any (m : Nat) (w : World) (hm : m < 18446744073709551616) :
    Calls Try.prog 23 #[.int .u64 m] w fun e w' => e = .returned (.int .i64 ((tg m 22 : Nat) : Int)) ∧ w' = w := by
  go_enter Try.func23, Try.ntmps23
  go_wp2
  go_loop [3, 4, 5] (fun x _ t => ∃ (k : Nat), k ≤ 22 ∧ t = .int .i64 k ∧ x = .int .i64 ((tg m k : Nat) : Int)) (fun _ _ t => 22 - (intOf t).toNat)
  case atStart => exact ⟨0, by omega, rfl, rfl⟩
  case round =>
    obtain ⟨k, hk, rfl, rfl⟩ := hrel
    by_cases hlt : k < 22
    · have hkI : (k : Int) < 22 := by omega
      have hst := tg_step m (tg m k) k (2 * k) hlt hm (tg_lt m k)
      have hM' : tg m k + m / 2 ^ (2 * k) % 2 * 2 ^ k = tg m (k + 1) := by rw [← pow4]; rfl
      rw [hM'] at hst
      obtain ⟨M', hM2⟩ : ∃ M', tg m (k + 1) = M' := ⟨_, rfl⟩
      rw [hM2, IntWalk.i64_left, IntWalk.i64_left] at hst
      have HM := hid hM2
      generalize tg m k = M at *
      clear hM' hM2
      go_wp2
      go_round
      case rel => exact ⟨k + 1, by omega, by go_num, by rw [HM.out]⟩
      case measure => simp [intOf]; omega
    · obtain rfl : k = 22 := by omega
      go_wp2
      go_ret
      exact ⟨rfl, rfl⟩

/-- What a number is as a point: X, Y (each still moved up), and whether it is one. -/
def fromOk (m : Nat) : Bool := decide (m < 17592186044416) && okP ((tg m 22 : Nat) - 1048576) ((tg (m / 2) 22 : Nat) - 1048576)
/-- The value that comes back. -/
def fromV (m : Nat) : Value := .tuple #[(if fromOk m then pv ((tg m 22 : Nat) - 1048576) ((tg (m / 2) 22 : Nat) - 1048576) else pv 0 0), .bool (fromOk m)]

theorem tg22 (m : Nat) : tg m 22 ≤ 4194303 := by have := tg_lt m 22; simp at this; omega
theorem fromMorton_any (m : Nat) (w : World) (hm : m < 18446744073709551616) :
    Calls Try.prog 12 #[.int .u64 m] w fun e w' => e = .returned (fromV m) ∧ Below w.heap.size w w' := by
  obtain ⟨wA, hwA⟩ : ∃ wA, w.alloc (.cells #[.int .i64 0, .int .i64 0] 24) = wA := ⟨_, rfl⟩
  have HT := hid (fun W => together_any m W hm)
  have HU := hid (fun W => together_any (m / 2) W (by omega))
  have HK := hid (fun W => ok_any ((tg m 22 : Nat) - 1048576) ((tg (m / 2) 22 : Nat) - 1048576) W)
  have h1 := tg22 m
  have h2 := tg22 (m / 2)
  have hV : fromV m = .tuple #[(if (decide (m < 17592186044416) && okP ((tg m 22 : Nat) - 1048576) ((tg (m / 2) 22 : Nat) - 1048576)) then pv ((tg m 22 : Nat) - 1048576) ((tg (m / 2) 22 : Nat) - 1048576) else pv 0 0), .bool (decide (m < 17592186044416) && okP ((tg m 22 : Nat) - 1048576) ((tg (m / 2) 22 : Nat) - 1048576))] := rfl
  generalize fromV m = V at *
  generalize tg m 22 = X at *
  generalize tg (m / 2) 22 = Y at *
  generalize okP ((X : Nat) - 1048576) ((Y : Nat) - 1048576) = O at *
  obtain ⟨wB, hwB⟩ : ∃ wB, wA.alloc (.cells #[.int .i64 ((X : Nat) - 1048576), .int .i64 ((Y : Nat) - 1048576)] 24) = wB := ⟨_, rfl⟩
  obtain ⟨hA, hB, hBL, hszB, hszA⟩ := box2 hwA hwB
  have HPA := hid hA
  have HPB := hid hB
  have HBL := hid hBL
  have a0 := hA.c0; have a1 := hA.c1; have a2 := hA.f0; have a3 := hA.f1; have b0 := hB.c0; have b1 := hB.c1
  have e2 : ((m / 2 : Nat) : Int) = (m : Int) / 2 := by omega
  rw [e2] at HU
  have HV := hid hV
  clear hA hB hBL hV e2
  by_cases hlt : m < 17592186044416
  · have hs : (m : Int) / 17592186044416 = 0 := by omega
    cases O with
    | true =>
      go_enter Try.func12, Try.ntmps12
      go_wp2_with (first
        | (go_at_call 23; refine (HT.out _).mono ?_; rintro e wn ⟨rfl, hwn⟩; subst hwn; clear HT)
        | (go_at_call 23; refine (HU.out _).mono ?_; rintro e wn ⟨rfl, hwn⟩; subst hwn; clear HU)
        | (go_at_call 20; refine (HK.out _).mono ?_; rintro e w1 ⟨rfl, hb1⟩; have p0 := (HPA.out.below hb1 (by omega)).c0; have p1 := (HPA.out.below hb1 (by omega)).c1; have p2 := (HPA.out.below hb1 (by omega)).f0; have p3 := (HPA.out.below hb1 (by omega)).f1; have q0 := (HPB.out.below hb1 (by omega)).c0; have q1 := (HPB.out.below hb1 (by omega)).c1; have HB1 := hid (HBL.out.trans (hb1.mono HBL.out.size)); clear HK hb1))
      refine bodyPost_ret (v := .tuple #[pv ((X : Nat) - 1048576) ((Y : Nat) - 1048576), .bool true]) (by simp [results, Try.results12, go_sem, p0, p1]) rfl ⟨?_, ?_⟩
      · rw [HV.out, show decide (m < 17592186044416) = true by simp; omega]; rfl
      · exact below_set2 HB1.out (Nat.le_refl _)
    | false =>
      go_enter Try.func12, Try.ntmps12
      go_wp2_with (first
        | (go_at_call 23; refine (HT.out _).mono ?_; rintro e wn ⟨rfl, hwn⟩; subst hwn; clear HT)
        | (go_at_call 23; refine (HU.out _).mono ?_; rintro e wn ⟨rfl, hwn⟩; subst hwn; clear HU)
        | (go_at_call 20; refine (HK.out _).mono ?_; rintro e w1 ⟨rfl, hb1⟩; have p0 := (HPA.out.below hb1 (by omega)).c0; have p1 := (HPA.out.below hb1 (by omega)).c1; have p2 := (HPA.out.below hb1 (by omega)).f0; have p3 := (HPA.out.below hb1 (by omega)).f1; have q0 := (HPB.out.below hb1 (by omega)).c0; have q1 := (HPB.out.below hb1 (by omega)).c1; have HB1 := hid (HBL.out.trans (hb1.mono HBL.out.size)); clear HK hb1))
      refine bodyPost_ret (v := .tuple #[pv 0 0, .bool false]) (by simp [results, Try.results12, go_sem, p0, p1]) rfl ⟨?_, ?_⟩
      · rw [HV.out, show decide (m < 17592186044416) = true by simp; omega]; rfl
      · exact below_set2 HB1.out (Nat.le_refl _)
  · have hs : ((m : Int) / 17592186044416 == 0) = false := by rw [beq_eq_false_iff_ne]; omega
    have hs' : ¬ ((m : Int) / 17592186044416 = 0) := by omega
    go_enter Try.func12, Try.ntmps12
    go_wp2_with (first
      | (go_at_call 23; refine (HT.out _).mono ?_; rintro e wn ⟨rfl, hwn⟩; subst hwn; clear HT)
      | (go_at_call 23; refine (HU.out _).mono ?_; rintro e wn ⟨rfl, hwn⟩; subst hwn; clear HU))
    refine bodyPost_ret (v := .tuple #[pv 0 0, .bool false]) (by simp [results, Try.results12, go_sem, a0, a1]) rfl ⟨?_, ?_⟩
    · rw [HV.out, show decide (m < 17592186044416) = false by simp; omega]; rfl
    · exact below_set2 HBL.out (Nat.le_refl _)
end Go.Proofs.Ytnfhnoacdmhlfab
