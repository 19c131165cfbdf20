/-
  The plain mathematics of layer 1: a number's bytes (seven bits a byte), the number that bytes begin with. Nothing of the program is named here.
-/
import Derived.WalkKit
import Derived.PlainAid
import Derived.OpenShut
namespace Go.Proofs.YtongdccpoefnlaaDoor
open Go.RowKit Go.PlainAid

/-- The bytes of x, at most f of them with the mark of more. -/
def uvF : Nat → Int → List Int
  | 0, x => [x]
  | f + 1, x => if x < 128 then [x] else (x % 128 + 128) :: uvF f (x / 128)
def uv (x : Int) : List Int := uvF 9 x

theorem uvF_small (f : Nat) {x : Int} (h : x < 128) : uvF f x = [x] := by cases f <;> simp [uvF, h]
theorem uvF_more (f : Nat) {x : Int} (h : 128 ≤ x) : uvF (f + 1) x = (x % 128 + 128) :: uvF f (x / 128) := by
  have : ¬ x < 128 := by omega
  simp [uvF, this]
theorem uvF_len (f : Nat) (x : Int) : 1 ≤ (uvF f x).length ∧ (uvF f x).length ≤ f + 1 := by
  induction f generalizing x with
  | zero => simp [uvF]
  | succ f ih =>
    unfold uvF
    split
    · simp
    · have := ih (x / 128)
      simp; omega
theorem uv_len (x : Int) : 1 ≤ (uv x).length ∧ (uv x).length ≤ 10 := uvF_len 9 x
/-- Where x has more than seven bits, a byte less is left for what is above them. -/
theorem room_step {f : Nat} {x : Int} (h : 128 ≤ x) (hb : x < 2 * 128 ^ f) : ∃ g, f = g + 1 ∧ x / 128 < 2 * 128 ^ g := by
  cases f with
  | zero => simp at hb; omega
  | succ g =>
    refine ⟨g, rfl, ?_⟩
    have e : (2 : Int) * 128 ^ (g + 1) = 2 * 128 ^ g * 128 := by rw [Int.pow_succ, Int.mul_assoc]
    rw [e] at hb
    exact Int.ediv_lt_of_lt_mul (by omega) hb
theorem room_start {x : Int} (h : x ≤ 18446744073709551615) : x < 2 * 128 ^ 9 := by
  have : (2 : Int) * 128 ^ 9 = 18446744073709551616 := by decide
  omega
theorem low7 (x : Int) : bits .or .u8 (x % 256) 128 = x % 128 + 128 := by
  have h1 : 0 ≤ x % 256 := by omega
  have h2 : x % 256 < 256 := by omega
  obtain ⟨n, hn⟩ := Int.eq_ofNat_of_zero_le h1
  rw [hn] at h2 ⊢
  have h3 : x % 128 = ((n % 128 : Nat) : Int) := by omega
  rw [h3]
  have h4 : n < 256 := by omega
  clear hn h1 h2 h3
  have : ∀ n : Nat, n < 256 → bits .or .u8 (n : Int) 128 = ((n % 128 : Nat) : Int) + 128 := by decide +kernel
  exact this n h4
theorem uvF_inj : ∀ (f : Nat) (x y : Int), 0 ≤ x → 0 ≤ y → uvF f x = uvF f y → x = y := by
  intro f
  induction f with
  | zero => intro x y _ _ h; simpa [uvF] using h
  | succ f ih =>
    intro x y hx hy h
    by_cases h1 : x < 128 <;> by_cases h2 : y < 128
    · simpa [uvF, h1, h2] using h
    · simp [uvF, h1, h2] at h; omega
    · simp [uvF, h1, h2] at h; omega
    · simp only [uvF, h1, h2, if_false, List.cons.injEq] at h
      have := ih (x / 128) (y / 128) (by omega) (by omega) h.2
      omega
theorem uvF_byte : ∀ (f : Nat) (x : Int), 0 ≤ x → x < 2 * 128 ^ f → ∀ b ∈ uvF f x, 0 ≤ b ∧ b ≤ 255 := by
  intro f
  induction f with
  | zero => intro x h0 h1 b hb; simp [uvF] at hb; simp at h1; omega
  | succ f ih =>
    intro x h0 h1 b hb
    by_cases h : x < 128
    · simp [uvF, h] at hb; omega
    · simp only [uvF, h, if_false, List.mem_cons] at hb
      rcases hb with hb | hb
      · omega
      · obtain ⟨g, hg, hr⟩ := room_step (by omega) h1
        cases hg
        exact ih _ (by omega) hr b hb
theorem uv_byte {x : Int} (h0 : 0 ≤ x) (h1 : x ≤ 18446744073709551615) : ∀ b ∈ uv x, 0 ≤ b ∧ b ≤ 255 := uvF_byte 9 x h0 (room_start h1)

/-- A number with a sign, the sign in the lowest bit. -/
def zig (y : Int) : Int := if y < 0 then -2 * y - 1 else 2 * y
theorem zig_bounds {y : Int} (h0 : -9223372036854775808 ≤ y) (h1 : y ≤ 9223372036854775807) : 0 ≤ zig y ∧ zig y ≤ 18446744073709551615 := by unfold zig; split <;> omega

theorem nat_not64 {n : Nat} (h : n < 18446744073709551616) : n ^^^ 18446744073709551615 = 18446744073709551615 - n := by
  have e := congrArg BitVec.toNat (BitVec.xor_allOnes (x := BitVec.ofNat 64 n))
  rw [BitVec.toNat_xor, BitVec.toNat_not, BitVec.toNat_allOnes, BitVec.toNat_ofNat, Nat.mod_eq_of_lt h] at e
  exact e
theorem zig_bits {y : Int} (h0 : -9223372036854775808 ≤ y) (h1 : y ≤ 9223372036854775807) :
    bits .xor .u64 (IntKind.u64.wrap (IntKind.u64.wrap y * 2)) (IntKind.u64.wrap (y / 9223372036854775808)) = zig y := by
  by_cases h : y < 0
  · have e1 : IntKind.u64.wrap (IntKind.u64.wrap y * 2) = 2 * y + 18446744073709551616 := by
      rw [u64_neg h (by omega), IntKind.wrap_u64]; omega
    have e2 : IntKind.u64.wrap (y / 9223372036854775808) = 18446744073709551615 := by
      rw [shr63_neg h h0]; rfl
    rw [e1, e2]
    obtain ⟨n, hn⟩ := Int.eq_ofNat_of_zero_le (show 0 ≤ 2 * y + 18446744073709551616 by omega)
    rw [hn]
    have h2 := u64_xor_nat n 18446744073709551615 (by omega) (by omega)
    rw [show ((18446744073709551615 : Nat) : Int) = 18446744073709551615 from rfl] at h2
    rw [h2]
    have h3 : n ^^^ 18446744073709551615 = 18446744073709551615 - n := by
      exact nat_not64 (by omega)
    rw [h3]
    unfold zig
    rw [if_pos h]
    omega
  · have e1 : IntKind.u64.wrap (IntKind.u64.wrap y * 2) = 2 * y := by
      rw [u64_nonneg (n := y) (by omega) (by omega), u64_nonneg (by omega) (by omega)]; omega
    have e2 : IntKind.u64.wrap (y / 9223372036854775808) = 0 := by rw [shr63_nonneg (by omega) h1]; rfl
    rw [e1, e2]
    obtain ⟨n, hn⟩ := Int.eq_ofNat_of_zero_le (show 0 ≤ 2 * y by omega)
    rw [hn]
    have h2 := u64_xor_nat n 0 (by omega) (by omega)
    rw [show ((0 : Nat) : Int) = 0 from rfl] at h2
    rw [h2]
    unfold zig
    rw [if_neg h]
    simp; omega

/-- The number that bytes begin with: X is what the first k gave. -/
def dec (X : Int) (k : Nat) : List Int → Int × Int × Int
  | [] => (0, 0, 4)
  | c :: l => if k = 9 ∧ 1 < c then (0, 0, 5) else if 128 ≤ c then dec (X + c % 128 * 2 ^ (7 * k)) (k + 1) l else if c = 0 ∧ 0 < k then (0, 0, 3) else (X + c % 128 * 2 ^ (7 * k), k + 1, 0)
theorem mask128 {c : Int} (h₀ : 0 ≤ c) (h₁ : c ≤ 255) : bits .andNot .u8 c 128 = c % 128 := by
  obtain ⟨n, rfl⟩ := Int.eq_ofNat_of_zero_le h₀
  have h4 : n < 256 := by omega
  have : ∀ n : Nat, n < 256 → bits .andNot .u8 (n : Int) 128 = (n : Int) % 128 := by decide +kernel
  exact this n h4

theorem or_add {X Y : Int} {m : Nat} (h0 : 0 ≤ X) (h1 : X < 2 ^ m) (hY : 0 ≤ Y) (hs : X + Y * 2 ^ m ≤ 18446744073709551615) : bits .or .u64 X (Y * 2 ^ m) = X + Y * 2 ^ m := by
  have hp : 0 ≤ Y * 2 ^ m := Int.mul_nonneg hY (Int.le_of_lt (Int.pow_pos (by omega)))
  rw [u64_or X (Y * 2 ^ m) h0 (by omega) hp (by omega)]
  obtain ⟨x, rfl⟩ := Int.eq_ofNat_of_zero_le h0
  obtain ⟨y, rfl⟩ := Int.eq_ofNat_of_zero_le hY
  have e : ((y : Int) * 2 ^ m) = ((y * 2 ^ m : Nat) : Int) := by push_cast; rfl
  have h1' : x < 2 ^ m := by
    have : ((x : Nat) : Int) < ((2 ^ m : Nat) : Int) := by push_cast; exact h1
    omega
  rw [e, Int.toNat_natCast, Int.toNat_natCast, Nat.or_comm, nat_join m (y * 2 ^ m) x (by simp) h1']
  push_cast
  omega
theorem pow7 {k : Nat} (hk : k ≤ 8) : (2 : Int) ^ (7 * (k + 1)) = 128 * 2 ^ (7 * k) ∧ (0 : Int) < 2 ^ (7 * k) ∧ (2 : Int) ^ (7 * k) ≤ 72057594037927936 := by
  have : ∀ k : Nat, k ≤ 8 → (2 : Int) ^ (7 * (k + 1)) = 128 * 2 ^ (7 * k) ∧ (0 : Int) < 2 ^ (7 * k) ∧ (2 : Int) ^ (7 * k) ≤ 72057594037927936 := by decide
  exact this k hk
/-- A further byte, ahead of the tenth. -/
theorem or_more {X c : Int} {k : Nat} (h0 : 0 ≤ X) (h1 : X < 2 ^ (7 * k)) (hk : k ≤ 8) :
    bits .or .u64 X (IntKind.u64.wrap (c % 128 * 2 ^ (7 * k))) = X + c % 128 * 2 ^ (7 * k) ∧ 0 ≤ X + c % 128 * 2 ^ (7 * k) ∧ X + c % 128 * 2 ^ (7 * k) < 2 ^ (7 * (k + 1)) := by
  obtain ⟨e, p, q⟩ := pow7 hk
  have hm0 : 0 ≤ c % 128 := by omega
  have hm1 : c % 128 ≤ 127 := by omega
  generalize c % 128 = m at hm0 hm1 ⊢
  have hb : m * 2 ^ (7 * k) ≤ 127 * 2 ^ (7 * k) := Int.mul_le_mul_of_nonneg_right hm1 (by omega)
  have hb0 : 0 ≤ m * 2 ^ (7 * k) := Int.mul_nonneg hm0 (by omega)
  have hw : IntKind.u64.wrap (m * 2 ^ (7 * k)) = m * 2 ^ (7 * k) := IntWalk.u64_in _ ⟨by omega, by omega⟩
  rw [hw]
  refine ⟨or_add h0 h1 hm0 (by omega), by omega, by rw [e]; omega⟩

theorem drop_at {zs : List Int} {c : Int} {k : Nat} (hc : c = zs.getD k 0) (hk : k < zs.length) : zs.drop k = c :: zs.drop (k + 1) := by
  rw [List.drop_eq_getElem_cons hk, hc]
  simp [hk]
theorem take_at {zs : List Int} {c : Int} {k : Nat} (hc : c = zs.getD k 0) (hk : k < zs.length) : zs.take (k + 1) = zs.take k ++ [c] := by
  rw [List.take_succ_eq_append_getElem hk, hc]
  simp [hk]

/-- The sum of bytes, by half bytes. -/
def crcTab : List Int := [0, 498536548, 997073096, 651767980, 1994146192, 1802195444, 1303535960, 1342533948, 3988292384, 4027552580, 3604390888, 3412177804, 2607071920, 2262029012, 2685067896, 3183342108]
def crcHalf (s : Int) : Int := bits .xor .u32 (s / 16) (crcTab.getD (s % 16).toNat 0)
def crcStep (s c : Int) : Int := crcHalf (crcHalf (bits .xor .u32 s c))
def crcS (l : List Int) : Int := l.foldl crcStep 4294967295
def crcL (l : List Int) : Int := bits .xor .u32 IntKind.u32.max (crcS l)

theorem xor32_bounds (a b : Int) : 0 ≤ bits .xor .u32 a b ∧ bits .xor .u32 a b ≤ 4294967295 := by
  have := wf_bits .xor .u32 a b
  exact bounds_u32 this
theorem and15 {s : Int} (h0 : 0 ≤ s) (h1 : s ≤ 4294967295) : bits .and .u32 s 15 = s % 16 := by
  rw [u32_and s 15 h0 (by omega) (by omega) (by omega)]
  have : s.toNat &&& (15 : Int).toNat = s.toNat % 16 := nat_mask4 _
  rw [this]; omega

/-- The row that is owned lies at or behind the base. -/
theorem own_base {w : World} {base : Nat} {e : TypeId} {size : Nat} {v : Value} {n : Nat} {xs : List Value} (h : w.ownsRow base e size v n xs) : ∀ k, v.ownBlock = some k → base ≤ k := by
  intro k hk
  rcases h.2 with ⟨rfl, _⟩ | ⟨g, cap, cur, rfl, hg, _⟩
  · simp [Value.ownBlock] at hk
  · simp [Value.ownBlock] at hk; omega

/-- Strings of bytes are told apart by their numbers. -/
theorem strOfNums_inj {a b : List Int} (ha : ∀ x ∈ a, 0 ≤ x ∧ x ≤ 255) (hb : ∀ x ∈ b, 0 ≤ x ∧ x ≤ 255) (h : (strOfNums a).data.toList = (strOfNums b).data.toList) : a = b := by
  rw [strOfNums_data, strOfNums_data] at h
  have hl : a.length = b.length := by simpa using congrArg List.length h
  apply List.ext_getElem hl
  intro i h1 h2
  have e := congrArg (fun l => l[i]?) h
  simp only [List.getElem?_map, List.getElem?_eq_getElem h1, List.getElem?_eq_getElem h2, Option.map_some, Option.some.injEq] at e
  have p := ha _ (List.getElem_mem h1)
  have q := hb _ (List.getElem_mem h2)
  have e' := congrArg UInt8.toNat e
  simp only [UInt8.toNat_ofNat'] at e'
  omega
end Go.Proofs.YtongdccpoefnlaaDoor
