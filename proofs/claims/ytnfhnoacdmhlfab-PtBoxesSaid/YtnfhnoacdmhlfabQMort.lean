/-
  pt.apart, pt.Morton.
-/
import Derived.Test.YtnfhnoacdmhlfabQBox
import Derived.PlainAid
namespace Go.Proofs.Ytnfhnoacdmhlfab
open Go.RowKit Go.Sort

/-- The lowest k bits of x, each moved to twice its place. -/
def ap (x : Nat) : Nat → Nat
  | 0 => 0
  | k + 1 => ap x k + x / 2 ^ k % 2 * 4 ^ k
theorem ap_lt (x : Nat) : ∀ k, 3 * ap x k < 4 ^ k
  | 0 => by simp [ap]
  | k + 1 => by
    have h := ap_lt x k
    have h1 : x / 2 ^ k % 2 ≤ 1 := by omega
    have h2 := Nat.mul_le_mul_right (4 ^ k) h1
    rw [ap, Nat.pow_succ]
    omega
theorem ap_low (x : Nat) : ∀ k, ap x (k + 1) = x % 2 + 4 * ap (x / 2) k
  | 0 => by simp [ap]
  | k + 1 => by
    rw [ap, ap_low x k, ap, Nat.pow_succ 2 k, Nat.mul_comm (2 ^ k) 2, ← Nat.div_div_eq_div_mul, Nat.pow_succ 4 k, Nat.mul_add]
    have : x / 2 / 2 ^ k % 2 * (4 ^ k * 4) = 4 * (x / 2 / 2 ^ k % 2 * 4 ^ k) := by rw [← Nat.mul_assoc, Nat.mul_comm]
    omega
theorem ap_mono : ∀ (k x y : Nat), x < y → y < 2 ^ k → ap x k < ap y k
  | 0, x, y, h, h1 => by simp at h1; omega
  | k + 1, x, y, h, h1 => by
    rw [ap_low, ap_low]
    rw [Nat.pow_succ] at h1
    rcases Nat.lt_or_ge (x / 2) (y / 2) with h2 | h2
    · have := ap_mono k (x / 2) (y / 2) h2 (by omega)
      omega
    · rw [show x / 2 = y / 2 by omega]
      omega
theorem ap_less {k x y : Nat} (hx : x < 2 ^ k) (hy : y < 2 ^ k) : ap x k < ap y k ↔ x < y := by
  rcases Nat.lt_or_ge x y with h | h
  · have := ap_mono k x y h hy; omega
  · rcases Nat.eq_or_lt_of_le h with h | h
    · subst h; omega
    · have := ap_mono k y x h hx; omega

theorem or4 {u v : Nat} (A B : Nat) (hu : u < 4) (hv : v < 4) : (u + 4 * A) ||| (v + 4 * B) = (u ||| v) + 4 * (A ||| B) := by
  have e1 : u + 4 * A = 4 * A ||| u := by rw [Nat.add_comm]; exact Nat.two_pow_add_eq_or_of_lt (i := 2) hu A
  have e2 : v + 4 * B = 4 * B ||| v := by rw [Nat.add_comm]; exact Nat.two_pow_add_eq_or_of_lt (i := 2) hv B
  have e3 : 4 * A ||| 4 * B = 4 * (A ||| B) := by
    have := Nat.shiftLeft_or_distrib (a := A) (b := B) (i := 2)
    simp only [Nat.shiftLeft_eq] at this
    rw [Nat.mul_comm 4 A, Nat.mul_comm 4 B, Nat.mul_comm 4 (A ||| B)]
    exact this.symm
  have e4 : (u ||| v) + 4 * (A ||| B) = 4 * (A ||| B) ||| (u ||| v) := by rw [Nat.add_comm]; exact Nat.two_pow_add_eq_or_of_lt (i := 2) (Nat.or_lt_two_pow hu hv) _
  rw [e1, e2, e4, ← e3]
  ac_rfl
theorem ap_or : ∀ (k x y : Nat), ap x k ||| 2 * ap y k = ap x k + 2 * ap y k
  | 0, x, y => by simp [ap]
  | k + 1, x, y => by
    rw [ap_low, ap_low, show 2 * (y % 2 + 4 * ap (y / 2) k) = 2 * (y % 2) + 4 * (2 * ap (y / 2) k) by omega, or4 _ _ (by omega) (by omega), ap_or k]
    rcases (show x % 2 = 0 ∨ x % 2 = 1 by omega) with h | h <;> rcases (show y % 2 = 0 ∨ y % 2 = 1 by omega) with h' | h' <;> rw [h, h'] <;> simp <;> omega

theorem u64_orN {a b : Nat} (ha : a < 18446744073709551616) (hb : b < 18446744073709551616) : bits .or .u64 (a : Int) (b : Int) = ((a ||| b : Nat) : Int) := by
  have key : (BitVec.ofInt 64 (a : Int) ||| BitVec.ofInt 64 (b : Int)).toNat = a ||| b := by
    rw [BitVec.toNat_or, BitVec.toNat_ofInt, BitVec.toNat_ofInt]
    have h1 : ((a : Int) % ((2 ^ 64 : Nat) : Int)).toNat = a := by omega
    have h2 : ((b : Int) % ((2 ^ 64 : Nat) : Int)).toNat = b := by omega
    rw [h1, h2]
  show IntKind.u64.wrap ((BitVec.ofInt 64 (a : Int) ||| BitVec.ofInt 64 (b : Int)).toNat : Nat) = _
  rw [key]
  have := Nat.or_lt_two_pow (n := 64) (x := a) (y := b) ha hb
  exact IntWalk.u64_in _ ⟨by omega, by omega⟩
theorem i64_and1 (n : Int) : bits .and .i64 n 1 = n % 2 := by
  have h31 : (BitVec.ofInt 64 1).toNat = 2 ^ 1 - 1 := by decide
  have key : (BitVec.ofInt 64 n &&& BitVec.ofInt 64 1).toNat = (n % ((2 ^ 64 : Nat) : Int)).toNat % 2 ^ 1 := by
    rw [BitVec.toNat_and, BitVec.toNat_ofInt, h31, Nat.and_two_pow_sub_one_eq_mod]
  show IntKind.i64.wrap ((BitVec.ofInt 64 n &&& BitVec.ofInt 64 1).toNat : Nat) = n % 2
  rw [key, IntKind.wrap_i64]
  omega

theorem pow4 (k : Nat) : 4 ^ k = 2 ^ (2 * k) := by rw [Nat.pow_mul]
theorem pow4_le {k : Nat} (h : k ≤ 22) : 4 ^ k ≤ 17592186044416 := by
  have := Nat.pow_le_pow_right (n := 4) (by omega) h
  simpa using this
theorem or_step (X M k : Nat) (hk : k < 22) (hM : M < 4 ^ k) :
    bits .or .u64 (M : Int) (IntKind.u64.wrap (IntKind.u64.wrap (bits .and .i64 ((X : Int) / 2 ^ k) 1) * 2 ^ (2 * k))) = ((M + X / 2 ^ k % 2 * 4 ^ k : Nat) : Int) := by
  have hp := pow4_le (Nat.le_of_lt hk)
  have e1 : ((X : Int) / 2 ^ k) % 2 = ((X / 2 ^ k % 2 : Nat) : Int) := by push_cast; rfl
  have hb : X / 2 ^ k % 2 ≤ 1 := by omega
  rw [i64_and1, e1]
  generalize X / 2 ^ k % 2 = b at *
  rw [IntWalk.u64_in (b : Int) ⟨by omega, by omega⟩]
  have e2 : (b : Int) * 2 ^ (2 * k) = ((b * 4 ^ k : Nat) : Int) := by rw [pow4]; push_cast; rfl
  have hb2 := Nat.mul_le_mul_right (4 ^ k) hb
  rw [e2, IntWalk.u64_in _ ⟨by omega, by omega⟩, u64_orN (by omega) (by omega)]
  congr 1
  rw [Nat.or_comm, Nat.mul_comm b, pow4]
  rw [pow4] at hM
  rw [← Nat.two_pow_add_eq_or_of_lt hM b, Nat.add_comm]

theorem apart_any (X : Nat) (w : World) (_h1 : X ≤ 2097152) :
    Calls Try.prog 22 #[.int .i64 X] w fun e w' => e = .returned (.int .u64 ((ap X 22 : Nat) : Int)) ∧ w' = w := by
  go_enter Try.func22, Try.ntmps22
  go_wp2
  go_loop [3, 4, 5] (fun m _ t => ∃ (k : Nat), k ≤ 22 ∧ t = .int .i64 k ∧ m = .int .u64 ((ap X k : Nat) : Int)) (fun _ _ t => 22 - (intOf t).toNat)
  case atStart => exact ⟨0, by omega, rfl, rfl⟩
  case round =>
    obtain ⟨k, hk, rfl, rfl⟩ := hrel
    by_cases hlt : k < 22
    · have hkI : (k : Int) < 22 := by omega
      have hst := or_step X (ap X k) k hlt (by have := ap_lt X k; omega)
      have HS := hid (show ap X (k + 1) = ap X k + X / 2 ^ k % 2 * 4 ^ k from rfl)
      have hM' : ap X k + X / 2 ^ k % 2 * 4 ^ k = ap X (k + 1) := rfl
      rw [hM'] at hst
      obtain ⟨M', hM2⟩ : ∃ M', ap X (k + 1) = M' := ⟨_, rfl⟩
      rw [hM2] at hst
      have HM := hid hM2
      generalize ap X k = M at *
      clear hM' hM2
      go_wp2
      go_round
      case rel => exact ⟨k + 1, by omega, by go_num, by rw [HM.out]⟩
      case measure => simp [intOf]; omega
    · obtain rfl : k = 22 := by omega
      go_wp2
      go_ret
      exact ⟨rfl, rfl⟩

/-- The bits of both by turns. -/
def mort (X Y : Nat) : Nat := ap X 22 + 2 * ap Y 22
/-- A number of the grid, moved up to begin at 0. -/
def up (x : Int) : Nat := (near x + 1048576).toNat
theorem up_is (x : Int) : near x + 1048576 = (up x : Int) := by have := near_lo x; unfold up; omega
theorem up_le (x : Int) : up x ≤ 2097152 := by have := near_hi x; unfold up; omega
theorem ap22 (x : Nat) : ap x 22 ≤ 5864062014805 := by have := ap_lt x 22; simp at this; omega
theorem mort_or (X Y : Nat) : bits .or .u64 ((ap X 22 : Nat) : Int) (((ap Y 22 : Nat) : Int) * 2) = ((mort X Y : Nat) : Int) := by
  have h1 := ap22 X
  have h2 := ap22 Y
  rw [show ((ap Y 22 : Nat) : Int) * 2 = ((2 * ap Y 22 : Nat) : Int) by push_cast; omega, u64_orN (by omega) (by omega), ap_or]
  rfl

theorem morton_any (px py : Int) (w : World) :
    Calls Try.prog 11 #[pv px py] w fun e w' => e = .returned (.int .u64 ((mort (up px) (up py) : Nat) : Int)) ∧ Below w.heap.size w w' := by
  obtain ⟨wA, hwA⟩ : ∃ wA, w.alloc (.cells #[.int .i64 px, .int .i64 py] 24) = wA := ⟨_, rfl⟩
  have hA : Pt wA w.heap.size px py := by rw [← hwA]; exact Pt.new w px py
  have hszA : wA.heap.size = w.heap.size + 1 := by rw [← hwA]; simp
  have HBL := hid (show Below w.heap.size w wA by rw [← hwA]; exact (Below.refl _ w).alloc (Nat.le_refl _) _)
  have HA := hid hA
  have a0 := hA.c0; have a1 := hA.c1
  have HH := hid (held_any px py wA)
  have hX : ∀ W, Calls Try.prog 22 #[.int .i64 (near px + 1048576)] W fun e w' => e = .returned (.int .u64 ((ap (up px) 22 : Nat) : Int)) ∧ Below W.heap.size W w' := fun W => by
    rw [up_is]; exact (apart_any (up px) W (up_le px)).mono fun e w' ⟨h1, h2⟩ => ⟨h1, h2 ▸ Below.refl _ _⟩
  have hY : ∀ W, Calls Try.prog 22 #[.int .i64 (near py + 1048576)] W fun e w' => e = .returned (.int .u64 ((ap (up py) 22 : Nat) : Int)) ∧ Below W.heap.size W w' := fun W => by
    rw [up_is]; exact (apart_any (up py) W (up_le py)).mono fun e w' ⟨h1, h2⟩ => ⟨h1, h2 ▸ Below.refl _ _⟩
  have hor := mort_or (up px) (up py)
  have b1 := near_lo px; have b2 := near_hi px; have b3 := near_lo py; have b4 := near_hi py
  have b5 := ap22 (up px); have b6 := ap22 (up py)
  generalize mort (up px) (up py) = R at *
  generalize ap (up px) 22 = U at *
  generalize ap (up py) 22 = V at *
  generalize near px = NX at *
  generalize near py = NY at *
  have HX := hid hX
  have HY := hid hY
  clear hA hX hY
  go_enter Try.func11, Try.ntmps11
  go_wp2_with (go_at_call 21; refine HH.out.mono ?_; rintro e w1 ⟨rfl, hb1⟩; have e0 := (HA.out.below hb1 (by omega)).c0; have e1 := (HA.out.below hb1 (by omega)).c1; have e2 := (HA.out.below hb1 (by omega)).f0; have e3 := (HA.out.below hb1 (by omega)).f1; obtain ⟨W, hW⟩ : ∃ W, (w1.setCell ⟨w.heap.size, 0, none⟩ (.int .i64 NX)).setCell ⟨w.heap.size, 1, none⟩ (.int .i64 NY) = W := ⟨_, rfl⟩; have HPW := hid (show Pt W w.heap.size NX NY by rw [← hW]; exact (HA.out.below hb1 (by omega)).set _ _); have HBW := hid (show Below w.heap.size w W by rw [← hW]; exact below_set2 (HBL.out.trans (hb1.mono HBL.out.size)) (Nat.le_refl _)); clear hb1)
  have k0 := cell_regrown HPW.out.c0
  have k1 := cell_regrown HPW.out.c1
  have cx := fun d os => HX.out (grow (redrawn W d) os)
  have cy := fun d os => HY.out (grow (redrawn W d) os)
  refine wp_region_quiet_below (by kernel_rfl) (by kernel_rfl) ?_
  go_big_quiet_step (fail)
  go_big_quiet_step (fail)
  go_big_quiet_step (fail)
  go_big_quiet_step (exact Calls.regrown_of (cx _ _))
  go_big_quiet_step (fail)
  go_big_quiet_step (fail)
  go_big_quiet_step (fail)
  go_big_quiet_step (exact Calls.regrown_of (cy _ _))
  go_big_quiet_step (fail)
  go_big_quiet_step (fail)
  go_big_quiet_step (fail)
  refine wpQuiet_nil ?_
  intro W2 hW2'
  obtain ⟨⟨dq, osq⟩, hW2⟩ := hW2'
  have HB1 := hid (show Below W.heap.size W W2 by rw [hW2]; exact below_regrown _ _ _)
  clear hW2 k0 k1 cx cy
  go_wp2
  go_ret
  exact ⟨rfl, HBW.out.trans (HB1.out.mono HBW.out.size)⟩
end Go.Proofs.Ytnfhnoacdmhlfab
