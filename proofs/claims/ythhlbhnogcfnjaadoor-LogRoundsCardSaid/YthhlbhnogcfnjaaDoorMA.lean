/-
  The plain mathematics of layer 1: a number's bytes, the sum of bytes (it is linear), what is sealed. Nothing of the program is named here.
-/
import Derived.WalkKit
import Derived.PlainAid
import Derived.OpenShut
namespace Go.Proofs.YthhlbhnogcfnjaaDoor
open Go.RowKit Go.PlainAid


/-- The bytes of x, at most f of them with the mark of more. -/
def uvF : Nat → Int → List Int
  | 0, x => [x]
  | f + 1, x => if x < 128 then [x] else (x % 128 + 128) :: uvF f (x / 128)
def uv (x : Int) : List Int := uvF 9 x

theorem uvF_small (f : Nat) {x : Int} (h : x < 128) : uvF f x = [x] := by cases f <;> simp [uvF, h]
theorem uvF_more (f : Nat) {x : Int} (h : 128 ≤ x) : uvF (f + 1) x = (x % 128 + 128) :: uvF f (x / 128) := by
  have : ¬ x < 128 := by omega
  simp [uvF, this]
theorem uvF_len (f : Nat) (x : Int) : 1 ≤ (uvF f x).length ∧ (uvF f x).length ≤ f + 1 := by
  induction f generalizing x with
  | zero => simp [uvF]
  | succ f ih =>
    unfold uvF
    split
    · simp
    · have := ih (x / 128)
      simp; omega
theorem uv_len (x : Int) : 1 ≤ (uv x).length ∧ (uv x).length ≤ 10 := uvF_len 9 x
/-- Where x has more than seven bits, a byte less is left for what is above them. -/
theorem room_step {f : Nat} {x : Int} (h : 128 ≤ x) (hb : x < 2 * 128 ^ f) : ∃ g, f = g + 1 ∧ x / 128 < 2 * 128 ^ g := by
  cases f with
  | zero => simp at hb; omega
  | succ g =>
    refine ⟨g, rfl, ?_⟩
    have e : (2 : Int) * 128 ^ (g + 1) = 2 * 128 ^ g * 128 := by rw [Int.pow_succ, Int.mul_assoc]
    rw [e] at hb
    exact Int.ediv_lt_of_lt_mul (by omega) hb
theorem room_start {x : Int} (h : x ≤ 18446744073709551615) : x < 2 * 128 ^ 9 := by
  have : (2 : Int) * 128 ^ 9 = 18446744073709551616 := by decide
  omega
theorem low7 (x : Int) : bits .or .u8 (x % 256) 128 = x % 128 + 128 := by
  have h1 : 0 ≤ x % 256 := by omega
  have h2 : x % 256 < 256 := by omega
  obtain ⟨n, hn⟩ := Int.eq_ofNat_of_zero_le h1
  rw [hn] at h2 ⊢
  have h3 : x % 128 = ((n % 128 : Nat) : Int) := by omega
  rw [h3]
  have h4 : n < 256 := by omega
  clear hn h1 h2 h3
  have : ∀ n : Nat, n < 256 → bits .or .u8 (n : Int) 128 = ((n % 128 : Nat) : Int) + 128 := by decide +kernel
  exact this n h4
theorem uvF_inj : ∀ (f : Nat) (x y : Int), 0 ≤ x → 0 ≤ y → uvF f x = uvF f y → x = y := by
  intro f
  induction f with
  | zero => intro x y _ _ h; simpa [uvF] using h
  | succ f ih =>
    intro x y hx hy h
    by_cases h1 : x < 128 <;> by_cases h2 : y < 128
    · simpa [uvF, h1, h2] using h
    · simp [uvF, h1, h2] at h; omega
    · simp [uvF, h1, h2] at h; omega
    · simp only [uvF, h1, h2, if_false, List.cons.injEq] at h
      have := ih (x / 128) (y / 128) (by omega) (by omega) h.2
      omega
theorem uvF_byte : ∀ (f : Nat) (x : Int), 0 ≤ x → x < 2 * 128 ^ f → ∀ b ∈ uvF f x, 0 ≤ b ∧ b ≤ 255 := by
  intro f
  induction f with
  | zero => intro x h0 h1 b hb; simp [uvF] at hb; simp at h1; omega
  | succ f ih =>
    intro x h0 h1 b hb
    by_cases h : x < 128
    · simp [uvF, h] at hb; omega
    · simp only [uvF, h, if_false, List.mem_cons] at hb
      rcases hb with hb | hb
      · omega
      · obtain ⟨g, hg, hr⟩ := room_step (by omega) h1
        cases hg
        exact ih _ (by omega) hr b hb
theorem uv_byte {x : Int} (h0 : 0 ≤ x) (h1 : x ≤ 18446744073709551615) : ∀ b ∈ uv x, 0 ≤ b ∧ b ≤ 255 := uvF_byte 9 x h0 (room_start h1)

/-- A number with a sign, the sign in the lowest bit. -/
def zig (y : Int) : Int := if y < 0 then -2 * y - 1 else 2 * y
theorem zig_bounds {y : Int} (h0 : -9223372036854775808 ≤ y) (h1 : y ≤ 9223372036854775807) : 0 ≤ zig y ∧ zig y ≤ 18446744073709551615 := by unfold zig; split <;> omega

theorem nat_not64 {n : Nat} (h : n < 18446744073709551616) : n ^^^ 18446744073709551615 = 18446744073709551615 - n := by
  have e := congrArg BitVec.toNat (BitVec.xor_allOnes (x := BitVec.ofNat 64 n))
  rw [BitVec.toNat_xor, BitVec.toNat_not, BitVec.toNat_allOnes, BitVec.toNat_ofNat, Nat.mod_eq_of_lt h] at e
  exact e
theorem zig_bits {y : Int} (h0 : -9223372036854775808 ≤ y) (h1 : y ≤ 9223372036854775807) :
    bits .xor .u64 (IntKind.u64.wrap (IntKind.u64.wrap y * 2)) (IntKind.u64.wrap (y / 9223372036854775808)) = zig y := by
  by_cases h : y < 0
  · have e1 : IntKind.u64.wrap (IntKind.u64.wrap y * 2) = 2 * y + 18446744073709551616 := by
      rw [u64_neg h (by omega), IntKind.wrap_u64]; omega
    have e2 : IntKind.u64.wrap (y / 9223372036854775808) = 18446744073709551615 := by
      rw [shr63_neg h h0]; rfl
    rw [e1, e2]
    obtain ⟨n, hn⟩ := Int.eq_ofNat_of_zero_le (show 0 ≤ 2 * y + 18446744073709551616 by omega)
    rw [hn]
    have h2 := u64_xor_nat n 18446744073709551615 (by omega) (by omega)
    rw [show ((18446744073709551615 : Nat) : Int) = 18446744073709551615 from rfl] at h2
    rw [h2]
    have h3 : n ^^^ 18446744073709551615 = 18446744073709551615 - n := by
      exact nat_not64 (by omega)
    rw [h3]
    unfold zig
    rw [if_pos h]
    omega
  · have e1 : IntKind.u64.wrap (IntKind.u64.wrap y * 2) = 2 * y := by
      rw [u64_nonneg (n := y) (by omega) (by omega), u64_nonneg (by omega) (by omega)]; omega
    have e2 : IntKind.u64.wrap (y / 9223372036854775808) = 0 := by rw [shr63_nonneg (by omega) h1]; rfl
    rw [e1, e2]
    obtain ⟨n, hn⟩ := Int.eq_ofNat_of_zero_le (show 0 ≤ 2 * y by omega)
    rw [hn]
    have h2 := u64_xor_nat n 0 (by omega) (by omega)
    rw [show ((0 : Nat) : Int) = 0 from rfl] at h2
    rw [h2]
    unfold zig
    rw [if_neg h]
    simp; omega

/-- The number that bytes begin with: X is what the first k gave. -/
def dec (X : Int) (k : Nat) : List Int → Int × Int × Int
  | [] => (0, 0, 4)
  | c :: l => if k = 9 ∧ 1 < c then (0, 0, 5) else if 128 ≤ c then dec (X + c % 128 * 2 ^ (7 * k)) (k + 1) l else if c = 0 ∧ 0 < k then (0, 0, 3) else (X + c % 128 * 2 ^ (7 * k), k + 1, 0)
theorem mask128 {c : Int} (h₀ : 0 ≤ c) (h₁ : c ≤ 255) : bits .andNot .u8 c 128 = c % 128 := by
  obtain ⟨n, rfl⟩ := Int.eq_ofNat_of_zero_le h₀
  have h4 : n < 256 := by omega
  have : ∀ n : Nat, n < 256 → bits .andNot .u8 (n : Int) 128 = (n : Int) % 128 := by decide +kernel
  exact this n h4

theorem or_add {X Y : Int} {m : Nat} (h0 : 0 ≤ X) (h1 : X < 2 ^ m) (hY : 0 ≤ Y) (hs : X + Y * 2 ^ m ≤ 18446744073709551615) : bits .or .u64 X (Y * 2 ^ m) = X + Y * 2 ^ m := by
  have hp : 0 ≤ Y * 2 ^ m := Int.mul_nonneg hY (Int.le_of_lt (Int.pow_pos (by omega)))
  rw [u64_or X (Y * 2 ^ m) h0 (by omega) hp (by omega)]
  obtain ⟨x, rfl⟩ := Int.eq_ofNat_of_zero_le h0
  obtain ⟨y, rfl⟩ := Int.eq_ofNat_of_zero_le hY
  have e : ((y : Int) * 2 ^ m) = ((y * 2 ^ m : Nat) : Int) := by push_cast; rfl
  have h1' : x < 2 ^ m := by
    have : ((x : Nat) : Int) < ((2 ^ m : Nat) : Int) := by push_cast; exact h1
    omega
  rw [e, Int.toNat_natCast, Int.toNat_natCast, Nat.or_comm, nat_join m (y * 2 ^ m) x (by simp) h1']
  push_cast
  omega
theorem pow7 {k : Nat} (hk : k ≤ 8) : (2 : Int) ^ (7 * (k + 1)) = 128 * 2 ^ (7 * k) ∧ (0 : Int) < 2 ^ (7 * k) ∧ (2 : Int) ^ (7 * k) ≤ 72057594037927936 := by
  have : ∀ k : Nat, k ≤ 8 → (2 : Int) ^ (7 * (k + 1)) = 128 * 2 ^ (7 * k) ∧ (0 : Int) < 2 ^ (7 * k) ∧ (2 : Int) ^ (7 * k) ≤ 72057594037927936 := by decide
  exact this k hk
/-- A further byte, ahead of the tenth. -/
theorem or_more {X c : Int} {k : Nat} (h0 : 0 ≤ X) (h1 : X < 2 ^ (7 * k)) (hk : k ≤ 8) :
    bits .or .u64 X (IntKind.u64.wrap (c % 128 * 2 ^ (7 * k))) = X + c % 128 * 2 ^ (7 * k) ∧ 0 ≤ X + c % 128 * 2 ^ (7 * k) ∧ X + c % 128 * 2 ^ (7 * k) < 2 ^ (7 * (k + 1)) := by
  obtain ⟨e, p, q⟩ := pow7 hk
  have hm0 : 0 ≤ c % 128 := by omega
  have hm1 : c % 128 ≤ 127 := by omega
  generalize c % 128 = m at hm0 hm1 ⊢
  have hb : m * 2 ^ (7 * k) ≤ 127 * 2 ^ (7 * k) := Int.mul_le_mul_of_nonneg_right hm1 (by omega)
  have hb0 : 0 ≤ m * 2 ^ (7 * k) := Int.mul_nonneg hm0 (by omega)
  have hw : IntKind.u64.wrap (m * 2 ^ (7 * k)) = m * 2 ^ (7 * k) := IntWalk.u64_in _ ⟨by omega, by omega⟩
  rw [hw]
  refine ⟨or_add h0 h1 hm0 (by omega), by omega, by rw [e]; omega⟩

theorem drop_at {zs : List Int} {c : Int} {k : Nat} (hc : c = zs.getD k 0) (hk : k < zs.length) : zs.drop k = c :: zs.drop (k + 1) := by
  rw [List.drop_eq_getElem_cons hk, hc]
  simp [hk]
theorem take_at {zs : List Int} {c : Int} {k : Nat} (hc : c = zs.getD k 0) (hk : k < zs.length) : zs.take (k + 1) = zs.take k ++ [c] := by
  rw [List.take_succ_eq_append_getElem hk, hc]
  simp [hk]

/-- The sum of bytes, by half bytes. -/
def crcTab : List Int := [0, 498536548, 997073096, 651767980, 1994146192, 1802195444, 1303535960, 1342533948, 3988292384, 4027552580, 3604390888, 3412177804, 2607071920, 2262029012, 2685067896, 3183342108]
def crcHalf (s : Int) : Int := bits .xor .u32 (s / 16) (crcTab.getD (s % 16).toNat 0)
def crcStep (s c : Int) : Int := crcHalf (crcHalf (bits .xor .u32 s c))
def crcS (l : List Int) : Int := l.foldl crcStep 4294967295
def crcL (l : List Int) : Int := bits .xor .u32 IntKind.u32.max (crcS l)

theorem xor32_bounds (a b : Int) : 0 ≤ bits .xor .u32 a b ∧ bits .xor .u32 a b ≤ 4294967295 := by
  have := wf_bits .xor .u32 a b
  exact bounds_u32 this
theorem and15 {s : Int} (h0 : 0 ≤ s) (h1 : s ≤ 4294967295) : bits .and .u32 s 15 = s % 16 := by
  rw [u32_and s 15 h0 (by omega) (by omega) (by omega)]
  have : s.toNat &&& (15 : Int).toNat = s.toNat % 16 := nat_mask4 _
  rw [this]; omega

/-- Strings of bytes are told apart by their numbers. -/
theorem strOfNums_inj {a b : List Int} (ha : ∀ x ∈ a, 0 ≤ x ∧ x ≤ 255) (hb : ∀ x ∈ b, 0 ≤ x ∧ x ≤ 255) (h : (strOfNums a).data.toList = (strOfNums b).data.toList) : a = b := by
  rw [strOfNums_data, strOfNums_data] at h
  have hl : a.length = b.length := by simpa using congrArg List.length h
  apply List.ext_getElem hl
  intro i h1 h2
  have e := congrArg (fun l => l[i]?) h
  simp only [List.getElem?_map, List.getElem?_eq_getElem h1, List.getElem?_eq_getElem h2, Option.map_some, Option.some.injEq] at e
  have p := ha _ (List.getElem_mem h1)
  have q := hb _ (List.getElem_mem h2)
  have e' := congrArg UInt8.toNat e
  simp only [UInt8.toNat_ofNat'] at e'
  omega

def tabN : List Nat := [0, 498536548, 997073096, 651767980, 1994146192, 1802195444, 1303535960, 1342533948, 3988292384, 4027552580, 3604390888, 3412177804, 2607071920, 2262029012, 2685067896, 3183342108]
def halfN (s : Nat) : Nat := (s / 16) ^^^ tabN.getD (s % 16) 0
def stepN (s c : Nat) : Nat := halfN (halfN (s ^^^ c))
def sumN (s : Nat) (l : List Nat) : Nat := l.foldl stepN s

theorem tab_lt : ∀ i, i < 16 → tabN.getD i 0 < 2 ^ 32 := by decide
theorem tab_xor : ∀ i, i < 16 → ∀ j, j < 16 → tabN.getD (i ^^^ j) 0 = tabN.getD i 0 ^^^ tabN.getD j 0 := by decide
theorem halfN_lt {s : Nat} (h : s < 2 ^ 32) : halfN s < 2 ^ 32 := Nat.xor_lt_two_pow (by omega) (tab_lt _ (Nat.mod_lt _ (by omega)))
theorem halfN_xor (s t : Nat) : halfN (s ^^^ t) = halfN s ^^^ halfN t := by
  unfold halfN
  have e1 : (s ^^^ t) / 16 = (s / 16) ^^^ (t / 16) := by
    have := Nat.shiftRight_xor_distrib (a := s) (b := t) (i := 4)
    simpa [Nat.shiftRight_eq_div_pow] using this
  have e2 : (s ^^^ t) % 16 = (s % 16) ^^^ (t % 16) := Nat.xor_mod_two_pow (a := s) (b := t) (n := 4)
  rw [e1, e2, tab_xor _ (Nat.mod_lt _ (by omega)) _ (Nat.mod_lt _ (by omega))]
  ac_rfl
theorem stepN_lt {s c : Nat} (h : s < 2 ^ 32) (hc : c < 256) : stepN s c < 2 ^ 32 := halfN_lt (halfN_lt (Nat.xor_lt_two_pow h (by omega)))
theorem stepN_xor (s t c d : Nat) : stepN (s ^^^ t) (c ^^^ d) = stepN s c ^^^ stepN t d := by
  unfold stepN
  rw [← halfN_xor, ← halfN_xor]
  congr 2
  ac_rfl
/-- Three texts of one length, laid over each other. -/
def over3 (a b c : List Nat) : List Nat := (a.zip (b.zip c)).map fun p => p.1 ^^^ p.2.1 ^^^ p.2.2
theorem sumN_over3 : ∀ (a b c : List Nat) (s t u : Nat), a.length = b.length → b.length = c.length → sumN (s ^^^ t ^^^ u) (over3 a b c) = sumN s a ^^^ sumN t b ^^^ sumN u c
  | [], [], [], s, t, u, _, _ => rfl
  | x :: a, y :: b, z :: c, s, t, u, h1, h2 => by
    have ih := sumN_over3 a b c (stepN s x) (stepN t y) (stepN u z) (by simpa using h1) (by simpa using h2)
    rw [← stepN_xor, ← stepN_xor] at ih
    exact ih
  | [], _ :: _, _, _, _, _, h1, _ => by simp at h1
  | _ :: _, [], _, _, _, _, h1, _ => by simp at h1
  | _, [], _ :: _, _, _, _, _, h2 => by simp at h2
  | _, _ :: _, [], _, _, _, _, h2 => by simp at h2
theorem sumN_lt : ∀ (l : List Nat) (s : Nat), s < 2 ^ 32 → (∀ c ∈ l, c < 256) → sumN s l < 2 ^ 32
  | [], _, h, _ => h
  | c :: l, s, h, hl => sumN_lt l (stepN s c) (stepN_lt h (hl c (by simp))) (fun d hd => hl d (by simp [hd]))

theorem crcHalf_nat {s : Nat} (h : s < 2 ^ 32) : crcHalf (s : Int) = (halfN s : Int) := by
  unfold crcHalf halfN
  have e1 : (s : Int) / 16 = ((s / 16 : Nat) : Int) := by omega
  have e2 : ((s : Int) % 16).toNat = s % 16 := by omega
  have hm : s % 16 < 16 := Nat.mod_lt _ (by omega)
  have e3 : ∀ i, i < 16 → crcTab.getD i 0 = ((tabN.getD i 0 : Nat) : Int) := by decide
  rw [e1, e2, e3 _ hm, u32_xor_nat _ _ (by omega) (by have := tab_lt _ hm; omega)]
theorem crcStep_nat {s c : Nat} (h : s < 2 ^ 32) (hc : c < 256) : crcStep (s : Int) (c : Int) = (stepN s c : Int) := by
  unfold crcStep stepN
  have hx : s ^^^ c < 2 ^ 32 := Nat.xor_lt_two_pow h (by omega)
  rw [u32_xor_nat s c (by omega) (by omega), crcHalf_nat hx, crcHalf_nat (halfN_lt hx)]
theorem crcS_nat : ∀ (l : List Nat) (s : Nat), s < 2 ^ 32 → (∀ c ∈ l, c < 256) → (l.map fun n : Nat => (n : Int)).foldl crcStep (s : Int) = (sumN s l : Int)
  | [], _, _, _ => rfl
  | c :: l, s, h, hl => by
    have hc := hl c (by simp)
    simp only [List.map_cons, List.foldl_cons]
    rw [crcStep_nat h hc, crcS_nat l _ (stepN_lt h hc) (fun d hd => hl d (by simp [hd]))]
    rfl
/-- The sum of bytes, as a natural number. -/
def crcN (l : List Nat) : Nat := 4294967295 ^^^ sumN 4294967295 l
theorem crcL_nat (l : List Nat) (hl : ∀ c ∈ l, c < 256) : crcL (l.map fun n : Nat => (n : Int)) = (crcN l : Int) := by
  unfold crcL crcS crcN
  have h := crcS_nat l 4294967295 (by decide) hl
  have h' : (l.map fun n : Nat => (n : Int)).foldl crcStep 4294967295 = (sumN 4294967295 l : Int) := h
  rw [h']
  exact u32_xor_nat 4294967295 _ (by omega) (by have := sumN_lt l 4294967295 (by decide) hl; omega)
theorem crcN_lt (l : List Nat) (hl : ∀ c ∈ l, c < 256) : crcN l < 2 ^ 32 := Nat.xor_lt_two_pow (by decide) (sumN_lt l _ (by decide) hl)
theorem crcN_over3 (a b c : List Nat) (h1 : a.length = b.length) (h2 : b.length = c.length) : crcN a ^^^ crcN b ^^^ crcN c = crcN (over3 a b c) := by
  unfold crcN
  have := sumN_over3 a b c 4294967295 4294967295 4294967295 h1 h2
  have e : 4294967295 ^^^ 4294967295 ^^^ 4294967295 = 4294967295 := by decide
  rw [e] at this
  rw [this]
  generalize sumN 4294967295 a = x
  generalize sumN 4294967295 b = y
  generalize sumN 4294967295 c = z
  generalize 4294967295 = f
  have : f ^^^ x ^^^ (f ^^^ y) ^^^ (f ^^^ z) = (f ^^^ f) ^^^ (f ^^^ (x ^^^ y ^^^ z)) := by ac_rfl
  rw [this, Nat.xor_self, Nat.zero_xor]
/-- Bytes as natural numbers. -/
def nats (zs : List Int) : List Nat := zs.map Int.toNat
theorem nats_back {zs : List Int} (h : ∀ b ∈ zs, 0 ≤ b ∧ b ≤ 255) : (nats zs).map (fun n : Nat => (n : Int)) = zs := by
  unfold nats
  rw [List.map_map]
  conv => rhs; rw [← List.map_id zs]
  apply List.map_congr_left
  intro b hb
  have := h b hb
  simp
  omega
theorem nats_lt {zs : List Int} (h : ∀ b ∈ zs, 0 ≤ b ∧ b ≤ 255) : ∀ c ∈ nats zs, c < 256 := by
  intro c hc
  obtain ⟨b, hb, rfl⟩ := List.mem_map.1 hc
  have := h b hb
  omega
theorem over3_byte (a b c : List Nat) (ha : ∀ x ∈ a, x < 256) (hb : ∀ x ∈ b, x < 256) (hc : ∀ x ∈ c, x < 256) : ∀ x ∈ (over3 a b c).map (fun n : Nat => (n : Int)), 0 ≤ x ∧ x ≤ 255 := by
  intro x hx
  obtain ⟨m, hm, rfl⟩ := List.mem_map.1 hx
  obtain ⟨⟨p, q, r⟩, hp, rfl⟩ := List.mem_map.1 hm
  have h1 := List.of_mem_zip hp
  have h2 := List.of_mem_zip h1.2
  have : p ^^^ q ^^^ r < 2 ^ 8 := Nat.xor_lt_two_pow (Nat.xor_lt_two_pow (ha p h1.1) (hb q h2.1)) (hc r h2.2)
  simp only
  omega
theorem over3_at {za zb zc : List Int} {n k : Nat} (ha : n ≤ za.length) (hb : n ≤ zb.length) (hc : n ≤ zc.length) (hk : k < n) (h1 : 0 ≤ za.getD k 0 ∧ za.getD k 0 ≤ 255) (h2 : 0 ≤ zb.getD k 0 ∧ zb.getD k 0 ≤ 255) (h3 : 0 ≤ zc.getD k 0 ∧ zc.getD k 0 ≤ 255) :
    bits .xor .u8 (bits .xor .u8 (za.getD k 0) (zb.getD k 0)) (zc.getD k 0) = ((over3 (nats (za.take n)) (nats (zb.take n)) (nats (zc.take n))).map fun m : Nat => (m : Int)).getD k 0 := by
  have hka : k < za.length := by omega
  have hkb : k < zb.length := by omega
  have hkc : k < zc.length := by omega
  have e : ((over3 (nats (za.take n)) (nats (zb.take n)) (nats (zc.take n))).map fun m : Nat => (m : Int)).getD k 0 = (((za.getD k 0).toNat ^^^ (zb.getD k 0).toNat ^^^ (zc.getD k 0).toNat : Nat) : Int) := by
    have hlen : k < ((over3 (nats (za.take n)) (nats (zb.take n)) (nats (zc.take n))).map fun m : Nat => (m : Int)).length := by simp [over3, nats]; omega
    rw [List.getD_eq_getElem?_getD, List.getElem?_eq_getElem hlen, Option.getD_some]
    simp [over3, nats, hka, hkb, hkc]
  rw [e]
  clear e
  generalize za.getD k 0 = X at h1 ⊢
  generalize zb.getD k 0 = Y at h2 ⊢
  generalize zc.getD k 0 = Z at h3 ⊢
  obtain ⟨x, rfl⟩ := Int.eq_ofNat_of_zero_le h1.1
  obtain ⟨y, rfl⟩ := Int.eq_ofNat_of_zero_le h2.1
  obtain ⟨z, rfl⟩ := Int.eq_ofNat_of_zero_le h3.1
  have hxy : x ^^^ y < 2 ^ 8 := Nat.xor_lt_two_pow (by omega) (by omega)
  rw [u8_xor_nat x y (by omega) (by omega), u8_xor_nat (x ^^^ y) z (by omega) (by omega)]
  simp
theorem crcL_over3 {a b c : List Int} (ha : ∀ x ∈ a, 0 ≤ x ∧ x ≤ 255) (hb : ∀ x ∈ b, 0 ≤ x ∧ x ≤ 255) (hc : ∀ x ∈ c, 0 ≤ x ∧ x ≤ 255) (h1 : a.length = b.length) (h2 : b.length = c.length) :
    bits .xor .u32 (bits .xor .u32 (crcL a) (crcL b)) (crcL c) = crcL ((over3 (nats a) (nats b) (nats c)).map fun n : Nat => (n : Int)) := by
  have na := nats_lt ha
  have nb := nats_lt hb
  have nc := nats_lt hc
  have ea : crcL a = (crcN (nats a) : Int) := by rw [← crcL_nat _ na, nats_back ha]
  have eb : crcL b = (crcN (nats b) : Int) := by rw [← crcL_nat _ nb, nats_back hb]
  have ec : crcL c = (crcN (nats c) : Int) := by rw [← crcL_nat _ nc, nats_back hc]
  have ed : ∀ x ∈ over3 (nats a) (nats b) (nats c), x < 256 := fun x hx => by
    have := over3_byte _ _ _ na nb nc (x : Int) (List.mem_map.2 ⟨x, hx, rfl⟩)
    omega
  have la := crcN_lt _ na
  have lb := crcN_lt _ nb
  have lc := crcN_lt _ nc
  have lab : crcN (nats a) ^^^ crcN (nats b) < 2 ^ 32 := Nat.xor_lt_two_pow la lb
  rw [ea, eb, ec, crcL_nat _ ed, u32_xor_nat _ _ (by omega) (by omega), u32_xor_nat _ _ (by omega) (by omega), crcN_over3 _ _ _ (by simp [nats, h1]) (by simp [nats, h2])]

/-- One bit's step of the sum. -/
def bitN (s : Nat) : Nat := (s / 2) ^^^ (if s % 2 = 1 then 3988292384 else 0)
def bitsN : Nat → Nat → Nat
  | 0, s => s
  | k + 1, s => bitN (bitsN k s)
theorem bitN_lt {s : Nat} (h : s < 2 ^ 32) : bitN s < 2 ^ 32 := by
  unfold bitN
  exact Nat.xor_lt_two_pow (by omega) (by split <;> decide)
theorem bitsN_lt (k : Nat) {s : Nat} (h : s < 2 ^ 32) : bitsN k s < 2 ^ 32 := by
  induction k with
  | zero => exact h
  | succ k ih => exact bitN_lt ih
theorem bitN_xor (s t : Nat) : bitN (s ^^^ t) = bitN s ^^^ bitN t := by
  unfold bitN
  have e1 : (s ^^^ t) / 2 = (s / 2) ^^^ (t / 2) := by
    have := Nat.shiftRight_xor_distrib (a := s) (b := t) (i := 1)
    simpa [Nat.shiftRight_eq_div_pow] using this
  have e2 : (s ^^^ t) % 2 = (s % 2) ^^^ (t % 2) := Nat.xor_mod_two_pow (a := s) (b := t) (n := 1)
  rw [e1, e2]
  have h1 : s % 2 = 0 ∨ s % 2 = 1 := by omega
  have h2 : t % 2 = 0 ∨ t % 2 = 1 := by omega
  rcases h1 with h1 | h1 <;> rcases h2 with h2 | h2 <;> rw [h1, h2]
  · simp
  · simp [Nat.xor_assoc]
  · simp only [Nat.xor_zero, if_true]
    simp
    ac_rfl
  · simp
    generalize (3988292384 : Nat) = p
    have : s / 2 ^^^ p ^^^ (t / 2 ^^^ p) = s / 2 ^^^ t / 2 ^^^ (p ^^^ p) := by ac_rfl
    rw [this, Nat.xor_self, Nat.xor_zero]
theorem bitsN_xor (k s t : Nat) : bitsN k (s ^^^ t) = bitsN k s ^^^ bitsN k t := by
  induction k with
  | zero => rfl
  | succ k ih => simp only [bitsN]; rw [ih, bitN_xor]
theorem bitN_double (m : Nat) : bitN (2 * m) = m := by
  unfold bitN
  have e1 : 2 * m / 2 = m := by omega
  have e2 : ¬ 2 * m % 2 = 1 := by omega
  rw [e1, if_neg e2, Nat.xor_zero]
theorem bits4 (s : Nat) : bitsN 4 s = halfN s := by
  have hr : ∀ r, r < 16 → bitsN 4 r = tabN.getD r 0 := by decide
  have hq : bitsN 4 (16 * (s / 16)) = s / 16 := by
    have e : 16 * (s / 16) = 2 * (2 * (2 * (2 * (s / 16)))) := by omega
    rw [e]
    simp only [bitsN, bitN_double]
  have hs : s = (16 * (s / 16)) ^^^ (s % 16) := by
    apply Nat.eq_of_testBit_eq
    intro i
    rw [Nat.testBit_xor, show (16 : Nat) = 2 ^ 4 from rfl, Nat.testBit_two_pow_mul, Nat.testBit_mod_two_pow, Nat.testBit_div_two_pow]
    by_cases h : 4 ≤ i
    · have h2 : ¬ i < 4 := by omega
      have h3 : 4 + (i - 4) = i := by omega
      simp [h, h2]
    · have h2 : i < 4 := by omega
      simp [h, h2]
  conv => lhs; rw [hs]
  rw [bitsN_xor, hq, hr _ (Nat.mod_lt _ (by decide))]
  rfl
theorem bitsN_add (a b s : Nat) : bitsN (a + b) s = bitsN a (bitsN b s) := by
  induction a with
  | zero => simp [bitsN]
  | succ a ih => rw [Nat.succ_add]; simp only [bitsN]; rw [ih]
theorem bits8 (s : Nat) : bitsN 8 s = halfN (halfN s) := by
  rw [show 8 = 4 + 4 from rfl, bitsN_add, bits4, bits4]

theorem halfN_zero {u : Nat} (h : u < 2 ^ 32) (h0 : halfN u = 0) : u = 0 := by
  unfold halfN at h0
  have e : u / 16 = tabN.getD (u % 16) 0 := by
    have := congrArg (· ^^^ tabN.getD (u % 16) 0) h0
    simpa [Nat.xor_assoc] using this
  have hm : u % 16 < 16 := Nat.mod_lt _ (by decide)
  have big : ∀ i, i < 16 → i ≠ 0 → 268435456 ≤ tabN.getD i 0 := by decide
  by_cases hi : u % 16 = 0
  · rw [hi] at e
    have : tabN.getD 0 0 = 0 := rfl
    omega
  · have := big _ hm hi
    omega
theorem stepN_inj {s t c : Nat} (hs : s < 2 ^ 32) (ht : t < 2 ^ 32) (h : stepN s c = stepN t c) : s = t := by
  have e : stepN (s ^^^ t) (c ^^^ c) = 0 := by rw [stepN_xor, h, Nat.xor_self]
  rw [Nat.xor_self] at e
  unfold stepN at e
  rw [Nat.xor_zero] at e
  have hx : s ^^^ t < 2 ^ 32 := Nat.xor_lt_two_pow hs ht
  have h1 := halfN_zero (halfN_lt hx) e
  have h2 := halfN_zero hx h1
  have := congrArg (· ^^^ t) h2
  simpa [Nat.xor_assoc] using this
theorem sumN_inj : ∀ (l : List Nat) (s t : Nat), s < 2 ^ 32 → t < 2 ^ 32 → (∀ c ∈ l, c < 256) → sumN s l = sumN t l → s = t
  | [], _, _, _, _, _, h => h
  | c :: l, s, t, hs, ht, hl, h => by
    have hc := hl c (by simp)
    exact stepN_inj hs ht (sumN_inj l _ _ (stepN_lt hs hc) (stepN_lt ht hc) (fun d hd => hl d (by simp [hd])) h)
theorem stepN_bit {p x j : Nat} (hj : j < 8) : stepN p (x ^^^ 2 ^ j) ≠ stepN p x := by
  intro h
  have e : stepN (p ^^^ p) (x ^^^ 2 ^ j ^^^ x) = 0 := by rw [stepN_xor, h, Nat.xor_self]
  have e2 : x ^^^ 2 ^ j ^^^ x = 2 ^ j := by
    have : x ^^^ 2 ^ j ^^^ x = 2 ^ j ^^^ (x ^^^ x) := by ac_rfl
    rw [this, Nat.xor_self, Nat.xor_zero]
  rw [Nat.xor_self, e2] at e
  have all : ∀ j, j < 8 → stepN 0 (2 ^ j) ≠ 0 := by decide
  exact all j hj e
theorem sumN_append (s : Nat) (a b : List Nat) : sumN s (a ++ b) = sumN (sumN s a) b := by simp [sumN]
/-- A bit that is turned changes the sum. -/
theorem crcN_bit {l : List Nat} {i j : Nat} (hl : ∀ c ∈ l, c < 256) (hi : i < l.length) (hj : j < 8) : crcN (l.set i (l.getD i 0 ^^^ 2 ^ j)) ≠ crcN l := by
  intro h
  have e0 : sumN 4294967295 (l.set i (l.getD i 0 ^^^ 2 ^ j)) = sumN 4294967295 l := by
    unfold crcN at h
    have := congrArg (4294967295 ^^^ ·) h
    simpa [← Nat.xor_assoc] using this
  have e1 : l = l.take i ++ l.getD i 0 :: l.drop (i + 1) := by
    conv => lhs; rw [← List.take_append_drop i l, List.drop_eq_getElem_cons hi]
    simp [hi]
  have e2 : l.set i (l.getD i 0 ^^^ 2 ^ j) = l.take i ++ (l.getD i 0 ^^^ 2 ^ j) :: l.drop (i + 1) := List.set_eq_take_append_cons_drop.trans (by rw [if_pos hi])
  have hx : l.getD i 0 < 256 := hl _ (by simp [hi])
  have hx' : l.getD i 0 ^^^ 2 ^ j < 2 ^ 8 := Nat.xor_lt_two_pow (by omega) (Nat.pow_lt_pow_right (by omega) hj)
  rw [e2] at e0
  conv at e0 => rhs; rw [e1]
  rw [sumN_append, sumN_append] at e0
  have hp := sumN_lt (l.take i) 4294967295 (by decide) (fun c hc => hl c (List.mem_of_mem_take hc))
  generalize sumN 4294967295 (l.take i) = p at *
  have e3 : sumN (stepN p (l.getD i 0 ^^^ 2 ^ j)) (l.drop (i + 1)) = sumN (stepN p (l.getD i 0)) (l.drop (i + 1)) := e0
  exact stepN_bit hj (sumN_inj _ _ _ (stepN_lt hp (by omega)) (stepN_lt hp hx) (fun c hc => hl c (List.mem_of_mem_drop hc)) e3)

/-- A number's four bytes, the highest first; the number that four bytes are. -/
def be4 (c : Int) : List Int := [c / 16777216 % 256, c / 65536 % 256, c / 256 % 256, c % 256]
def num4 (l : List Int) : Int := l.getD 0 0 * 16777216 + l.getD 1 0 * 65536 + l.getD 2 0 * 256 + l.getD 3 0
theorem be4_byte (c : Int) : ∀ b ∈ be4 c, 0 ≤ b ∧ b ≤ 255 := by
  intro b hb
  simp [be4] at hb
  omega
theorem num4_be4 {c : Int} (h0 : 0 ≤ c) (h1 : c ≤ 4294967295) : num4 (be4 c) = c := by simp [num4, be4]; omega
theorem be4_num4 {l : List Int} (hl : l.length = 4) (hb : ∀ b ∈ l, 0 ≤ b ∧ b ≤ 255) : be4 (num4 l) = l := by
  match l, hl with
  | [a, b, c, d], _ =>
    have h1 := hb a (by simp)
    have h2 := hb b (by simp)
    have h3 := hb c (by simp)
    have h4 := hb d (by simp)
    simp [num4, be4]
    omega
theorem crcL_bounds {zs : List Int} (h : ∀ b ∈ zs, 0 ≤ b ∧ b ≤ 255) : 0 ≤ crcL zs ∧ crcL zs ≤ 4294967295 := by
  have e : crcL zs = (crcN (nats zs) : Int) := by rw [← crcL_nat _ (nats_lt h), nats_back h]
  have := crcN_lt _ (nats_lt h)
  omega
/-- What Open answers: the error, and what was sealed. -/
def openE (zs : List Int) : Int := if zs.length < 4 then 4 else if crcL (zs.take (zs.length - 4)) = num4 (zs.drop (zs.length - 4)) then 0 else 3
def openB (zs : List Int) : List Int := if openE zs = 0 then zs.take (zs.length - 4) else []
def sealL (zs : List Int) : List Int := zs ++ be4 (crcL zs)
theorem sealL_len (zs : List Int) : (sealL zs).length = zs.length + 4 := by simp [sealL, be4]
theorem sealL_byte {zs : List Int} (h : ∀ b ∈ zs, 0 ≤ b ∧ b ≤ 255) : ∀ b ∈ sealL zs, 0 ≤ b ∧ b ≤ 255 := by
  intro b hb
  rcases List.mem_append.1 hb with hb | hb
  · exact h b hb
  · exact be4_byte _ b hb
theorem open_seal {zs : List Int} (h : ∀ b ∈ zs, 0 ≤ b ∧ b ≤ 255) : openE (sealL zs) = 0 ∧ openB (sealL zs) = zs := by
  have hl := sealL_len zs
  have e1 : (sealL zs).take ((sealL zs).length - 4) = zs := by rw [hl]; simp [sealL]
  have e2 : (sealL zs).drop ((sealL zs).length - 4) = be4 (crcL zs) := by rw [hl]; simp [sealL]
  have hb := crcL_bounds h
  have e : openE (sealL zs) = 0 := by
    unfold openE
    rw [if_neg (by omega), e1, e2, num4_be4 hb.1 hb.2, if_pos rfl]
  exact ⟨e, by unfold openB; rw [if_pos e, e1]⟩
theorem xor_bit_ne (n j : Nat) : n ^^^ 2 ^ j ≠ n := by
  intro h
  have := congrArg (n ^^^ ·) h
  simp [← Nat.xor_assoc] at this
/-- With a bit turned it is refused. -/
theorem open_flip {zs : List Int} (h : ∀ b ∈ zs, 0 ≤ b ∧ b ≤ 255) {i j : Nat} (hi : i < zs.length + 4) (hj : j < 8) : openE ((sealL zs).set i ((((sealL zs).getD i 0).toNat ^^^ 2 ^ j : Nat) : Int)) = 3 := by
  have hl := sealL_len zs
  have hcb := crcL_bounds h
  obtain ⟨x, hx⟩ : ∃ x, x = ((((sealL zs).getD i 0).toNat ^^^ 2 ^ j : Nat) : Int) := ⟨_, rfl⟩
  rw [← hx]
  have hL : ((sealL zs).set i x).length = zs.length + 4 := by rw [List.length_set, hl]
  unfold openE
  rw [hL, if_neg (by omega), Nat.add_sub_cancel]
  by_cases hlt : i < zs.length
  · have e : (sealL zs).set i x = zs.set i x ++ be4 (crcL zs) := by unfold sealL; rw [List.set_append, if_pos hlt]
    have e1 : ((sealL zs).set i x).take zs.length = zs.set i x := by rw [e, List.take_append_of_le_length (by simp), List.take_of_length_le (by simp)]
    have e2 : ((sealL zs).set i x).drop zs.length = be4 (crcL zs) := by rw [e, List.drop_append_of_le_length (by simp), List.drop_of_length_le (by simp)]; simp
    rw [e1, e2, num4_be4 hcb.1 hcb.2, if_neg ?_]
    have hg : (sealL zs).getD i 0 = zs.getD i 0 := by unfold sealL; simp [List.getElem?_append, hlt]
    have hzi : zs.getD i 0 = zs[i] := by simp [hlt]
    have hxb : 0 ≤ x ∧ x ≤ 255 := by
      have hb := h _ (List.getElem_mem hlt)
      have : (zs.getD i 0).toNat ^^^ 2 ^ j < 2 ^ 8 := Nat.xor_lt_two_pow (by rw [hzi]; omega) (Nat.pow_lt_pow_right (by omega) hj)
      rw [hx, hg]
      omega
    have hzs' : ∀ b ∈ zs.set i x, 0 ≤ b ∧ b ≤ 255 := fun b hb => by
      rcases List.mem_or_eq_of_mem_set hb with hb | rfl
      · exact h b hb
      · exact hxb
    have en : nats (zs.set i x) = (nats zs).set i ((nats zs).getD i 0 ^^^ 2 ^ j) := by
      unfold nats
      rw [List.map_set]
      congr 1
      rw [hx, hg]
      simp [hlt]
    have ea : crcL (zs.set i x) = (crcN (nats (zs.set i x)) : Int) := by rw [← crcL_nat _ (nats_lt hzs'), nats_back hzs']
    have eb : crcL zs = (crcN (nats zs) : Int) := by rw [← crcL_nat _ (nats_lt h), nats_back h]
    rw [ea, eb, en]
    have := crcN_bit (l := nats zs) (i := i) (j := j) (nats_lt h) (by simpa [nats] using hlt) hj
    omega
  · have e : (sealL zs).set i x = zs ++ (be4 (crcL zs)).set (i - zs.length) x := by unfold sealL; rw [List.set_append, if_neg hlt]
    have e1 : ((sealL zs).set i x).take zs.length = zs := by rw [e]; simp
    have e2 : ((sealL zs).set i x).drop zs.length = (be4 (crcL zs)).set (i - zs.length) x := by rw [e]; simp
    rw [e1, e2, if_neg ?_]
    intro hc
    have hk : i - zs.length < (be4 (crcL zs)).length := by simp [be4]; omega
    have hg : (sealL zs).getD i 0 = (be4 (crcL zs)).getD (i - zs.length) 0 := by unfold sealL; simp [List.getElem?_append, hlt]
    generalize i - zs.length = k at *
    have hold : 0 ≤ (be4 (crcL zs)).getD k 0 ∧ (be4 (crcL zs)).getD k 0 ≤ 255 := by
      have : (be4 (crcL zs)).getD k 0 = (be4 (crcL zs))[k] := by simp [hk]
      rw [this]
      exact be4_byte _ _ (List.getElem_mem hk)
    have hxb : 0 ≤ x ∧ x ≤ 255 := by
      have : ((be4 (crcL zs)).getD k 0).toNat ^^^ 2 ^ j < 2 ^ 8 := Nat.xor_lt_two_pow (by omega) (Nat.pow_lt_pow_right (by omega) hj)
      rw [hx, hg]
      omega
    have hb' : ∀ b ∈ (be4 (crcL zs)).set k x, 0 ≤ b ∧ b ≤ 255 := fun b hb => by
      rcases List.mem_or_eq_of_mem_set hb with hb | rfl
      · exact be4_byte _ b hb
      · exact hxb
    have he := be4_num4 (l := (be4 (crcL zs)).set k x) (by rw [List.length_set]; rfl) hb'
    rw [← hc] at he
    have h1 : (be4 (crcL zs)).getD k 0 = ((be4 (crcL zs)).set k x).getD k 0 := by rw [← he]
    have h2 : ((be4 (crcL zs)).set k x).getD k 0 = x := by simp [hk]
    rw [h2, hx, hg] at h1
    have h3 := xor_bit_ne ((be4 (crcL zs)).getD k 0).toNat j
    omega
theorem dec_uvF : ∀ (f k : Nat) (X K : Int) (rest : List Int), 0 ≤ K → K < 2 * 128 ^ f → k + f = 9 → (K ≠ 0 ∨ k = 0) →
    dec X k (uvF f K ++ rest) = (X + K * 2 ^ (7 * k), (k : Int) + (uvF f K).length, 0) := by
  intro f
  induction f with
  | zero =>
    intro k X K rest h0 h1 hk hz
    obtain rfl : k = 9 := by omega
    have hK : K = 0 ∨ K = 1 := by simp at h1; omega
    rcases hK with rfl | rfl
    · omega
    · simp [uvF, dec]
  | succ f ih =>
    intro k X K rest h0 h1 hk hz
    have k9 : ¬ k = 9 := by omega
    by_cases h : K < 128
    · have hc : ¬ 128 ≤ K := by omega
      have hz' : ¬ (K = 0 ∧ 0 < k) := by omega
      have hm : K % 128 = K := by omega
      rw [uvF_small _ h]
      simp only [List.cons_append, List.nil_append, dec, k9, false_and, if_false, hc, hz', hm, List.length_cons, List.length_nil]
      simp
    · obtain ⟨g, hg, hr⟩ := room_step (show 128 ≤ K by omega) h1
      cases hg
      have hc : 128 ≤ K % 128 + 128 := by omega
      have hm : (K % 128 + 128) % 128 = K % 128 := by omega
      rw [uvF_more _ (show 128 ≤ K by omega)]
      simp only [List.cons_append, dec, k9, false_and, if_false, hc, if_true, hm]
      rw [ih (k + 1) _ (K / 128) rest (by omega) hr (by omega) (by omega)]
      have e : (2 : Int) ^ (7 * (k + 1)) = 128 * 2 ^ (7 * k) := (pow7 (show k ≤ 8 by omega)).1
      have e2 : X + K % 128 * 2 ^ (7 * k) + K / 128 * 2 ^ (7 * (k + 1)) = X + K * 2 ^ (7 * k) := by
        rw [e]
        generalize (2 : Int) ^ (7 * k) = p
        have hd : K = K % 128 + 128 * (K / 128) := by omega
        generalize K % 128 = r at *
        generalize K / 128 = q at *
        subst hd
        rw [Int.add_mul, Int.add_assoc, Int.mul_assoc]
        congr 2
        rw [Int.mul_left_comm]
      rw [e2]
      simp
      omega
theorem dec_uv {x : Int} (h0 : 0 ≤ x) (h1 : x ≤ 18446744073709551615) (rest : List Int) : dec 0 0 (uv x ++ rest) = (x, ((uv x).length : Int), 0) := by
  have := dec_uvF 9 0 0 x rest h0 (room_start h1) rfl (.inr rfl)
  unfold uv
  rw [this]
  simp
end Go.Proofs.YthhlbhnogcfnjaaDoor

namespace Go.Proofs.YthhlbhnogcfnjaaDoor

/-- What stands at o and behind it is written over, one by one. -/
def setAll {α : Type} : List α → Nat → List α → List α
  | xs, _, [] => xs
  | xs, o, v :: r => setAll (xs.set o v) (o + 1) r
theorem setAll_mid {α : Type} : ∀ (b' b pre post : List α), b.length = b'.length → setAll (pre ++ b ++ post) pre.length b' = pre ++ b' ++ post
  | [], b, pre, post, h => by
    have : b = [] := List.eq_nil_of_length_eq_zero (by simpa using h)
    subst this
    simp [setAll]
  | v :: r, [], _, _, h => by simp at h
  | v :: r, x :: b, pre, post, h => by
    have ih := setAll_mid r b (pre ++ [v]) post (by simpa using h)
    simp only [setAll]
    have e : (pre ++ x :: b ++ post).set pre.length v = pre ++ [v] ++ b ++ post := by simp
    rw [e]
    simp only [List.length_append, List.length_cons, List.length_nil] at ih
    rw [Nat.zero_add] at ih
    rw [ih]
    simp
theorem flatten_len {α : Type} {m : Nat} : ∀ (bl : List (List α)), (∀ b ∈ bl, b.length = m) → bl.flatten.length = bl.length * m
  | [], _ => by simp
  | b :: r, h => by
    have := flatten_len r (fun x hx => h x (by simp [hx]))
    have hb := h b (by simp)
    simp only [List.flatten_cons, List.length_append, List.length_cons, this, hb]
    rw [Nat.succ_mul]; omega
theorem split_at {α : Type} (bl : List α) (i : Nat) (d : α) (h : i < bl.length) : bl = bl.take i ++ bl.getD i d :: bl.drop (i + 1) := by
  have e := List.take_append_drop i bl
  rw [List.drop_eq_getElem_cons h] at e
  have : bl.getD i d = bl[i] := by simp [List.getD, h]
  rw [this]
  exact e.symm
theorem flatten_set {α : Type} {m : Nat} (bl : List (List α)) (i : Nat) (b' : List α) (hi : i < bl.length) (hm : ∀ b ∈ bl, b.length = m) (hb : b'.length = m) :
    (bl.set i b').flatten = setAll bl.flatten (i * m) b' := by
  have hs := split_at bl i [] hi
  have hl : (bl.take i).flatten.length = i * m := by
    rw [flatten_len _ (fun x hx => hm x (List.mem_of_mem_take hx))]
    rw [List.length_take, Nat.min_eq_left (by omega)]
  have hbi : (bl.getD i []).length = m := hm _ (by simp [List.getD, hi])
  have e1 : bl.flatten = (bl.take i).flatten ++ bl.getD i [] ++ (bl.drop (i + 1)).flatten := by
    conv => lhs; rw [hs]
    simp
  have e2 : (bl.set i b').flatten = (bl.take i).flatten ++ b' ++ (bl.drop (i + 1)).flatten := by
    rw [List.set_eq_take_append_cons_drop, if_pos hi]
    simp
  rw [e1, e2, ← hl]
  exact (setAll_mid b' _ _ _ (by omega)).symm
theorem flatten_at {α : Type} {m : Nat} (bl : List (List α)) (i j : Nat) (hi : i < bl.length) (hm : ∀ b ∈ bl, b.length = m) (hj : j < m) :
    bl.flatten[i * m + j]? = (bl.getD i [])[j]? := by
  have hs := split_at bl i [] hi
  have hl : (bl.take i).flatten.length = i * m := by
    rw [flatten_len _ (fun x hx => hm x (List.mem_of_mem_take hx))]
    rw [List.length_take, Nat.min_eq_left (by omega)]
  have hbi : (bl.getD i []).length = m := hm _ (by simp [List.getD, hi])
  have e1 : bl.flatten = (bl.take i).flatten ++ (bl.getD i [] ++ (bl.drop (i + 1)).flatten) := by
    conv => lhs; rw [hs]
    simp
  rw [e1, List.getElem?_append_right (by omega), hl, Nat.add_sub_cancel_left, List.getElem?_append_left (by omega)]

/-- A sector: 64 bytes. -/
def Sec (s : List Int) : Prop := s.length = 64 ∧ ∀ b ∈ s, 0 ≤ b ∧ b ≤ 255
def nought : List Int := List.replicate 64 0
theorem sec_nought : Sec nought := ⟨by simp [nought], fun b hb => by simp [nought] at hb; omega⟩

/-- A disk as the document has it. -/
structure Dk where
  last : List (List Int)
  wait : List (Nat × List Int)
  writes : Int
  left : Int

/-- Writes done one by one. -/
def app (l : List (List Int)) : List (Nat × List Int) → List (List Int)
  | [] => l
  | x :: r => app (l.set x.1 x.2) r
theorem app_snoc (l : List (List Int)) (ws : List (Nat × List Int)) (x : Nat × List Int) : app l (ws ++ [x]) = (app l ws).set x.1 x.2 := by
  induction ws generalizing l with
  | nil => rfl
  | cons y r ih => exact ih _
theorem app_len (l : List (List Int)) (ws : List (Nat × List Int)) : (app l ws).length = l.length := by
  induction ws generalizing l with
  | nil => rfl
  | cons y r ih => simp [app, ih]
/-- The last of the Writes to sector i, else what stood there. -/
def lastOf (i : Nat) (d : List Int) : List (Nat × List Int) → List Int
  | [] => d
  | x :: r => lastOf i (if x.1 = i then x.2 else d) r
theorem lastOf_snoc (i : Nat) (d : List Int) (ws : List (Nat × List Int)) (x : Nat × List Int) : lastOf i d (ws ++ [x]) = if x.1 = i then x.2 else lastOf i d ws := by
  induction ws generalizing d with
  | nil => rfl
  | cons y r ih => exact ih _
theorem app_at (l : List (List Int)) (ws : List (Nat × List Int)) (i : Nat) (hi : i < l.length) : (app l ws).getD i [] = lastOf i (l.getD i []) ws := by
  induction ws generalizing l with
  | nil => rfl
  | cons y r ih =>
    simp only [app, lastOf]
    rw [ih (l.set y.1 y.2) (by simpa using hi)]
    congr 1
    by_cases h : y.1 = i
    · subst h; simp [List.getD, hi]
    · simp [List.getD, h]

/-- What is kept of what waits, the first of it number k. -/
def keptFrom (keep : List Int) : Nat → List (Nat × List Int) → List (Nat × List Int)
  | _, [] => []
  | k, x :: r => if (k : Int) ∈ keep then x :: keptFrom keep (k + 1) r else keptFrom keep (k + 1) r
def kept (keep : List Int) (ws : List (Nat × List Int)) : List (Nat × List Int) := keptFrom keep 0 ws
theorem keptFrom_snoc (keep : List Int) (k : Nat) (ws : List (Nat × List Int)) (x : Nat × List Int) :
    keptFrom keep k (ws ++ [x]) = keptFrom keep k ws ++ (if ((k + ws.length : Nat) : Int) ∈ keep then [x] else []) := by
  induction ws generalizing k with
  | nil => simp [keptFrom]
  | cons y r ih =>
    have e : k + (y :: r).length = (k + 1) + r.length := by simp; omega
    rw [e]
    simp only [List.cons_append, keptFrom, ih]
    split <;> simp
theorem kept_snoc (keep : List Int) (ws : List (Nat × List Int)) (x : Nat × List Int) :
    kept keep (ws ++ [x]) = kept keep ws ++ (if (ws.length : Int) ∈ keep then [x] else []) := by
  have := keptFrom_snoc keep 0 ws x
  simpa [kept] using this
theorem keptFrom_mem {keep : List Int} {k : Nat} {ws : List (Nat × List Int)} {x : Nat × List Int} (h : x ∈ keptFrom keep k ws) : x ∈ ws := by
  induction ws generalizing k with
  | nil => simp [keptFrom] at h
  | cons y r ih =>
    simp only [keptFrom] at h
    split at h
    · rcases List.mem_cons.1 h with rfl | h
      · simp
      · simp [ih h]
    · simp [ih h]
theorem kept_mem {keep : List Int} {ws : List (Nat × List Int)} {x : Nat × List Int} (h : x ∈ kept keep ws) : x ∈ ws := keptFrom_mem h
theorem kept_nil (ws : List (Nat × List Int)) : kept [] ws = [] := by
  have : ∀ k, keptFrom [] k ws = [] := by
    induction ws with
    | nil => intro k; rfl
    | cons y r ih => intro k; simp [keptFrom, ih]
  exact this 0

def burn (left : Int) : Int := if left = -1 then -1 else left - 1
def Dk.now (d : Dk) : List (List Int) := app d.last d.wait
def Dk.new (n : Nat) : Dk := ⟨List.replicate n nought, [], 0, -1⟩
def Dk.write (d : Dk) (i : Nat) (s : List Int) : Dk := ⟨d.last, d.wait ++ [(i, s)], d.writes + 1, burn d.left⟩
def Dk.flush (d : Dk) : Dk := ⟨d.now, [], d.writes, burn d.left⟩
def Dk.crash (d : Dk) (keep : List Int) : Dk := ⟨app d.last (kept keep d.wait), [], d.writes, -1⟩
def Dk.fuse (d : Dk) (n : Int) : Dk := if d.left = 0 then d else ⟨d.last, d.wait, d.writes, max n (-1)⟩

/-- What a disk of n sectors keeps to. -/
structure Dk.Ok (d : Dk) (n : Nat) : Prop where
  len : d.last.length = n
  secs : ∀ s ∈ d.last, Sec s
  waits : ∀ x ∈ d.wait, x.1 < n ∧ Sec x.2
  left0 : -1 ≤ d.left
  left1 : d.left ≤ 9223372036854775807
  w0 : 0 ≤ d.writes

theorem app_secs {l : List (List Int)} {ws : List (Nat × List Int)} (hl : ∀ s ∈ l, Sec s) (hw : ∀ x ∈ ws, Sec x.2) : ∀ s ∈ app l ws, Sec s := by
  induction ws generalizing l with
  | nil => exact hl
  | cons y r ih =>
    refine ih (fun s hs => ?_) (fun x hx => hw x (by simp [hx]))
    rcases List.mem_or_eq_of_mem_set hs with h | h
    · exact hl s h
    · subst h; exact hw y (by simp)
theorem Dk.Ok.now_len {d : Dk} {n : Nat} (h : d.Ok n) : d.now.length = n := by rw [Dk.now, app_len]; exact h.len
theorem Dk.Ok.now_secs {d : Dk} {n : Nat} (h : d.Ok n) : ∀ s ∈ d.now, Sec s := app_secs h.secs (fun x hx => (h.waits x hx).2)
theorem burn_bounds {l : Int} (h0 : -1 ≤ l) (h1 : l ≤ 9223372036854775807) (_hd : l ≠ 0) : -1 ≤ burn l ∧ burn l ≤ 9223372036854775807 := by unfold burn; split <;> omega
theorem Dk.ok_new (n : Nat) : (Dk.new n).Ok n :=
  ⟨by simp [Dk.new], fun s hs => by simp [Dk.new] at hs; rw [hs.2]; exact sec_nought, fun x hx => by simp [Dk.new] at hx, by simp [Dk.new], by simp [Dk.new], by simp [Dk.new]⟩
theorem Dk.Ok.write {d : Dk} {n i : Nat} {s : List Int} (h : d.Ok n) (hd : d.left ≠ 0) (hi : i < n) (hs : Sec s) : (d.write i s).Ok n :=
  ⟨h.len, h.secs, fun x hx => by
    rcases List.mem_append.1 hx with hx | hx
    · exact h.waits x hx
    · simp at hx; subst hx; exact ⟨hi, hs⟩, (burn_bounds h.left0 h.left1 hd).1, (burn_bounds h.left0 h.left1 hd).2, by have := h.w0; simp [Dk.write]; omega⟩
theorem Dk.Ok.flush {d : Dk} {n : Nat} (h : d.Ok n) (hd : d.left ≠ 0) : d.flush.Ok n :=
  ⟨h.now_len, h.now_secs, fun x hx => by simp [Dk.flush] at hx, (burn_bounds h.left0 h.left1 hd).1, (burn_bounds h.left0 h.left1 hd).2, h.w0⟩
theorem Dk.Ok.crash {d : Dk} {n : Nat} (h : d.Ok n) (keep : List Int) : (d.crash keep).Ok n :=
  ⟨by simp [Dk.crash, app_len, h.len], app_secs h.secs (fun x hx => (h.waits x (kept_mem hx)).2), fun x hx => by simp [Dk.crash] at hx, by simp [Dk.crash], by simp [Dk.crash], h.w0⟩
theorem Dk.Ok.fuse {d : Dk} {n : Nat} (h : d.Ok n) {k : Int} (hk : k ≤ 9223372036854775807) : (d.fuse k).Ok n := by
  unfold Dk.fuse
  split
  · exact h
  · exact ⟨h.len, h.secs, h.waits, by simp; omega, by simp; omega, h.w0⟩

/-- The second loop of Crash: what waited is as it lasts. -/
def back (l : List (List Int)) (nw : List (List Int)) : List (Nat × List Int) → List (List Int)
  | [] => nw
  | x :: r => back l (nw.set x.1 (l.getD x.1 [])) r
theorem back_snoc (l nw : List (List Int)) (ws : List (Nat × List Int)) (x : Nat × List Int) : back l nw (ws ++ [x]) = (back l nw ws).set x.1 (l.getD x.1 []) := by
  induction ws generalizing nw with
  | nil => rfl
  | cons y r ih => exact ih _
theorem back_len (l nw : List (List Int)) (ws : List (Nat × List Int)) : (back l nw ws).length = nw.length := by
  induction ws generalizing nw with
  | nil => rfl
  | cons y r ih => simp [back, ih]
theorem back_at (l nw : List (List Int)) (ws : List (Nat × List Int)) (i : Nat) (hi : i < nw.length) :
    (back l nw ws).getD i [] = if ∃ x ∈ ws, x.1 = i then l.getD i [] else nw.getD i [] := by
  induction ws generalizing nw with
  | nil => simp [back]
  | cons y r ih =>
    rw [back, ih _ (by simpa using hi)]
    by_cases h : ∃ x ∈ r, x.1 = i
    · have : ∃ x ∈ y :: r, x.1 = i := by obtain ⟨x, hx, e⟩ := h; exact ⟨x, by simp [hx], e⟩
      rw [if_pos h, if_pos this]
    · rw [if_neg h]
      by_cases hy : y.1 = i
      · rw [if_pos ⟨y, by simp, hy⟩]
        subst hy; simp [List.getD, hi]
      · rw [if_neg (by rintro ⟨x, hx, e⟩; rcases List.mem_cons.1 hx with rfl | hx; exact hy e; exact h ⟨x, hx, e⟩)]
        simp [List.getD, hy]
theorem lastOf_none {i : Nat} {d : List Int} {ws : List (Nat × List Int)} (h : ¬ ∃ x ∈ ws, x.1 = i) : lastOf i d ws = d := by
  induction ws generalizing d with
  | nil => rfl
  | cons y r ih =>
    rw [lastOf, if_neg (fun e => h ⟨y, by simp, e⟩)]
    exact ih (fun ⟨x, hx, e⟩ => h ⟨x, by simp [hx], e⟩)
theorem back_all {l : List (List Int)} {ws : List (Nat × List Int)} {keep : List Int} : back (app l (kept keep ws)) (app l ws) ws = app l (kept keep ws) := by
  apply List.ext_getElem (by simp [back_len, app_len])
  intro i h1 h2
  have hi : i < l.length := by simpa [app_len] using h2
  have e := back_at (app l (kept keep ws)) (app l ws) ws i (by simpa [app_len] using hi)
  have e1 : (back (app l (kept keep ws)) (app l ws) ws).getD i [] = (back (app l (kept keep ws)) (app l ws) ws)[i] := by simp [List.getD, h1]
  have e2 : (app l (kept keep ws)).getD i [] = (app l (kept keep ws))[i] := by simp [List.getD, h2]
  rw [← e1, ← e2, e]
  split
  · rfl
  · rename_i hn
    rw [app_at _ _ _ hi, app_at _ _ _ hi, lastOf_none hn, lastOf_none (fun ⟨x, hx, e⟩ => hn ⟨x, kept_mem hx, e⟩)]
end Go.Proofs.YthhlbhnogcfnjaaDoor

namespace Go.Proofs.YthhlbhnogcfnjaaDoor
open Go.RowKit Go.PlainAid

def zeros (n : Nat) : List Int := List.replicate n 0
theorem zeros_len (n : Nat) : (zeros n).length = n := by simp [zeros]
/-- Bytes. -/
def By (l : List Int) : Prop := ∀ b ∈ l, 0 ≤ b ∧ b ≤ 255
theorem By.app {a b : List Int} (ha : By a) (hb : By b) : By (a ++ b) := fun x hx => by
  rcases List.mem_append.1 hx with h | h
  · exact ha x h
  · exact hb x h
theorem By.zeros (n : Nat) : By (zeros n) := fun x hx => by
  have := List.eq_of_mem_replicate hx
  omega
theorem By.take {a : List Int} (h : By a) (n : Nat) : By (a.take n) := fun x hx => h x (List.mem_of_mem_take hx)
theorem By.drop {a : List Int} (h : By a) (n : Nat) : By (a.drop n) := fun x hx => h x (List.mem_of_mem_drop hx)

theorem dec_nonneg : ∀ (l : List Int) (X : Int) (k : Nat), 0 ≤ X → 0 ≤ (dec X k l).1
  | [], _, _, _ => by simp [dec]
  | c :: l, X, k, h => by
    have h2 : 0 ≤ c % 128 * 2 ^ (7 * k) := Int.mul_nonneg (by omega) (Int.le_of_lt (Int.pow_pos (by omega)))
    unfold dec
    split
    · simp
    · split
      · exact dec_nonneg l _ _ (by omega)
      · split
        · simp
        · simp only; omega

theorem dec_cnt : ∀ (l : List Int) (X : Int) (k : Nat), k ≤ 9 → (dec X k l).2.2 = 0 → (k : Int) < (dec X k l).2.1 ∧ (dec X k l).2.1 ≤ 10 ∧ (dec X k l).2.1 ≤ k + l.length
  | [], _, _, _, h => by simp [dec] at h
  | c :: l, X, k, hk, h => by
    unfold dec at h ⊢
    by_cases h1 : k = 9 ∧ 1 < c
    · rw [if_pos h1] at h; simp at h
    · rw [if_neg h1] at h ⊢
      by_cases h2 : 128 ≤ c
      · rw [if_pos h2] at h ⊢
        have hk9 : k ≠ 9 := fun e => h1 ⟨e, by omega⟩
        have := dec_cnt l (X + c % 128 * 2 ^ (7 * k)) (k + 1) (by omega) h
        simp only [List.length_cons]
        omega
      · rw [if_neg h2] at h ⊢
        by_cases h3 : c = 0 ∧ 0 < k
        · rw [if_pos h3] at h; simp at h
        · rw [if_neg h3]
          simp only [List.length_cons]
          omega

/-- A page. -/
structure Pg where
  no : Nat
  lsn : Int
  data : List Int
structure Pg.Ok (p : Pg) (n : Nat) : Prop where
  no : p.no < n
  lsn0 : 0 ≤ p.lsn
  lsn1 : p.lsn ≤ 18446744073709551615
  len : p.data.length = 480
  byte : By p.data
/-- What is sealed of it. -/
def bodyOf (p : Pg) : List Int := (p.data ++ uv p.no ++ uv p.lsn) ++ zeros (508 - (p.data ++ uv p.no ++ uv p.lsn).length)
def frameOf (p : Pg) : List Int := sealL (bodyOf p)
theorem head_len {p : Pg} (h : p.data.length = 480) : (p.data ++ uv p.no ++ uv p.lsn).length ≤ 500 := by
  have h1 := uv_len (p.no : Int)
  have h2 := uv_len p.lsn
  simp only [List.length_append]
  omega
theorem bodyOf_len {p : Pg} (h : p.data.length = 480) : (bodyOf p).length = 508 := by
  have := head_len h
  unfold bodyOf
  rw [List.length_append, zeros_len]
  omega
theorem frameOf_len {p : Pg} (h : p.data.length = 480) : (frameOf p).length = 512 := by
  unfold frameOf; rw [sealL_len, bodyOf_len h]
theorem Pg.Ok.no_le {p : Pg} {n : Nat} (h : p.Ok n) (hn : n ≤ 4096) : (p.no : Int) ≤ 18446744073709551615 := by have := h.no; omega
theorem bodyOf_by {p : Pg} {n : Nat} (h : p.Ok n) (hn : n ≤ 4096) : By (bodyOf p) :=
  ((h.byte.app (uv_byte (by omega) (h.no_le hn))).app (uv_byte h.lsn0 h.lsn1)).app (By.zeros _)
theorem frameOf_by {p : Pg} {n : Nat} (h : p.Ok n) (hn : n ≤ 4096) : By (frameOf p) := sealL_byte (bodyOf_by h hn)

/-- The page that a frame tells. -/
def pageErr (f : List Int) : Int :=
  if openE f ≠ 0 then openE f else
    let t := (openB f).drop 480
    if (dec 0 0 t).2.2 ≠ 0 then (dec 0 0 t).2.2 else
      if (dec 0 0 (t.drop (dec 0 0 t).2.1.toNat)).2.2 ≠ 0 then (dec 0 0 (t.drop (dec 0 0 t).2.1.toNat)).2.2 else
        if 4096 ≤ (dec 0 0 t).1 then 3 else 0
def pageIn (f : List Int) : Pg :=
  let t := (openB f).drop 480
  ⟨(dec 0 0 t).1.toNat, (dec 0 0 (t.drop (dec 0 0 t).2.1.toNat)).1, (openB f).take 480⟩
theorem pageErr_zero {f : List Int} (h : pageErr f = 0) : openE f = 0 ∧ (dec 0 0 ((openB f).drop 480)).2.2 = 0 ∧ (dec 0 0 (((openB f).drop 480).drop (dec 0 0 ((openB f).drop 480)).2.1.toNat)).2.2 = 0 ∧ (dec 0 0 ((openB f).drop 480)).1 < 4096 := by
  unfold pageErr at h
  by_cases h1 : openE f = 0
  · rw [if_neg (fun e => e h1)] at h
    simp only at h
    by_cases h2 : (dec 0 0 ((openB f).drop 480)).2.2 = 0
    · rw [if_neg (fun e => e h2)] at h
      by_cases h3 : (dec 0 0 (((openB f).drop 480).drop (dec 0 0 ((openB f).drop 480)).2.1.toNat)).2.2 = 0
      · rw [if_neg (fun e => e h3)] at h
        by_cases h4 : 4096 ≤ (dec 0 0 ((openB f).drop 480)).1
        · rw [if_pos h4] at h; omega
        · exact ⟨h1, h2, h3, by omega⟩
      · rw [if_pos h3] at h; exact absurd h h3
    · rw [if_pos h2] at h; exact absurd h h2
  · rw [if_pos h1] at h; exact absurd h h1
theorem openB_len {f : List Int} (h : openE f = 0) (hl : f.length = 512) : (openB f).length = 508 := by
  unfold openB
  rw [if_pos h]
  simp [hl]
theorem page_back {p : Pg} {n : Nat} (h : p.Ok n) (hn : n ≤ 4096) : pageErr (frameOf p) = 0 ∧ pageIn (frameOf p) = p := by
  have ho := open_seal (bodyOf_by h hn)
  have h480 := h.len
  have hno := h.no
  have ht : (openB (frameOf p)).drop 480 = uv p.no ++ (uv p.lsn ++ zeros (508 - (p.data ++ uv p.no ++ uv p.lsn).length)) := by
    rw [frameOf, ho.2, bodyOf, List.append_assoc, List.append_assoc, List.append_assoc, List.drop_append_of_le_length (by omega), List.drop_of_length_le (by omega), List.nil_append]
  have hd : (openB (frameOf p)).take 480 = p.data := by
    rw [frameOf, ho.2, bodyOf, List.append_assoc, List.append_assoc, List.append_assoc, List.take_append_of_le_length (by omega), List.take_of_length_le (by omega)]
  have d1 := dec_uv (x := (p.no : Int)) (by omega) (h.no_le hn) (uv p.lsn ++ zeros (508 - (p.data ++ uv p.no ++ uv p.lsn).length))
  have d2 := dec_uv h.lsn0 h.lsn1 (zeros (508 - (p.data ++ uv p.no ++ uv p.lsn).length))
  have he : openE (frameOf p) = 0 := ho.1
  have h3 : (uv (p.no : Int) ++ (uv p.lsn ++ zeros (508 - (p.data ++ uv p.no ++ uv p.lsn).length))).drop (uv (p.no : Int)).length = uv p.lsn ++ zeros (508 - (p.data ++ uv p.no ++ uv p.lsn).length) := by simp
  constructor
  · unfold pageErr
    simp only [he, ht, d1, ne_eq, not_true_eq_false, if_false, Int.toNat_natCast, h3, d2]
    rw [if_neg (by omega)]
  · unfold pageIn
    simp only [ht, d1, Int.toNat_natCast, h3, d2, hd]

/-- Sectors one behind the other. -/
def secs (l : List (List Int)) (i k : Nat) : List Int := ((l.drop i).take k).flatten
theorem secs_zero (l : List (List Int)) (i : Nat) : secs l i 0 = [] := by simp [secs]
theorem secs_succ {l : List (List Int)} {i k : Nat} (h : i + k < l.length) : secs l i (k + 1) = secs l i k ++ l.getD (i + k) [] := by
  unfold secs
  rw [List.take_add_one, List.flatten_append]
  congr 1
  simp [List.getElem?_drop, List.getElem?_eq_getElem h]
theorem secs_len {l : List (List Int)} {i k : Nat} (hl : ∀ s ∈ l, Sec s) (h : i + k ≤ l.length) : (secs l i k).length = 64 * k := by
  unfold secs
  rw [flatten_len (m := 64) _ (fun s hs => (hl s (List.mem_of_mem_drop (List.mem_of_mem_take hs))).1)]
  simp; omega
theorem secs_by {l : List (List Int)} {i k : Nat} (hl : ∀ s ∈ l, Sec s) : By (secs l i k) := fun x hx => by
  obtain ⟨s, hs, hx⟩ := List.mem_flatten.1 hx
  exact (hl s (List.mem_of_mem_drop (List.mem_of_mem_take hs))).2 x hx

/-- Bytes as sectors. -/
def cut64 : Nat → List Int → List (List Int)
  | 0, _ => []
  | n + 1, b => b.take 64 :: cut64 n (b.drop 64)
def sectorsOf (b : List Int) : List (List Int) := cut64 (b.length / 64) b
theorem cut64_len (n : Nat) (b : List Int) : (cut64 n b).length = n := by
  induction n generalizing b with
  | zero => rfl
  | succ n ih => simp [cut64, ih]
theorem cut64_sec : ∀ (n : Nat) (b : List Int), By b → 64 * n ≤ b.length → ∀ s ∈ cut64 n b, Sec s
  | 0, _, _, _, s, hs => by simp [cut64] at hs
  | n + 1, b, hb, hl, s, hs => by
    simp only [cut64, List.mem_cons] at hs
    rcases hs with rfl | hs
    · exact ⟨by simp; omega, fun x hx => hb x (List.mem_of_mem_take hx)⟩
    · exact cut64_sec n (b.drop 64) (hb.drop 64) (by simp; omega) s hs
theorem cut64_at : ∀ (n : Nat) (b : List Int) (k : Nat), k < n → (cut64 n b).getD k [] = (b.drop (64 * k)).take 64
  | 0, _, k, h => by omega
  | n + 1, b, 0, _ => by simp [cut64]
  | n + 1, b, k + 1, h => by
    have := cut64_at n (b.drop 64) k (by omega)
    simp only [cut64, List.getD_cons_succ, this, List.drop_drop]
    congr 2
    omega
theorem cut64_flat : ∀ (n : Nat) (b : List Int), b.length = 64 * n → (cut64 n b).flatten = b
  | 0, b, h => by
    have : b = [] := List.eq_nil_of_length_eq_zero (by simpa using h)
    simp [cut64, this]
  | n + 1, b, h => by
    have := cut64_flat n (b.drop 64) (by simp; omega)
    simp only [cut64, List.flatten_cons, this, List.take_append_drop]

/-- Sectors written one by one, till the disk dies. -/
def storeP (d : Dk) (i : Nat) : List (List Int) → Dk × Int
  | [] => (d, 0)
  | s :: r => if d.left = 0 then (d, 50) else storeP (d.write i s) (i + 1) r
theorem storeP_snoc : ∀ (ss : List (List Int)) (d : Dk) (i : Nat) (s : List Int), storeP d i (ss ++ [s]) = if (storeP d i ss).2 = 0 then (if (storeP d i ss).1.left = 0 then ((storeP d i ss).1, 50) else ((storeP d i ss).1.write (i + ss.length) s, 0)) else storeP d i ss
  | [], d, i, s => by
    simp only [List.nil_append, storeP, if_true]
    by_cases h : d.left = 0 <;> simp [h]
  | x :: r, d, i, s => by
    simp only [List.cons_append, storeP]
    by_cases h : d.left = 0
    · simp [h]
    · simp only [h, if_false]
      rw [storeP_snoc r, List.length_cons, show i + 1 + r.length = i + (r.length + 1) by omega]
theorem storeP_err : ∀ (ss : List (List Int)) (d : Dk) (i : Nat), (storeP d i ss).2 = 0 ∨ (storeP d i ss).2 = 50
  | [], d, i => .inl rfl
  | x :: r, d, i => by
    unfold storeP
    split
    · exact .inr rfl
    · exact storeP_err r _ _
theorem storeP_stop : ∀ (ss t : List (List Int)) (d : Dk) (i : Nat), (storeP d i ss).2 = 50 → storeP d i (ss ++ t) = storeP d i ss
  | [], _, _, _, h => by simp [storeP] at h
  | x :: r, t, d, i, h => by
    simp only [List.cons_append, storeP] at h ⊢
    by_cases hd : d.left = 0
    · simp [hd]
    · simp only [hd, if_false] at h ⊢
      exact storeP_stop r t _ _ h
def flushP (d : Dk) : Dk × Int := if d.left = 0 then (d, 50) else (d.flush, 0)
/-- One behind the other, till one fails. -/
def thenP (x : Dk × Int) (f : Dk → Dk × Int) : Dk × Int := if x.2 ≠ 0 then x else f x.1
theorem storeP_ok {n : Nat} : ∀ (ss : List (List Int)) (d : Dk) (i : Nat), d.Ok n → (∀ s ∈ ss, Sec s) → i + ss.length ≤ n → (storeP d i ss).1.Ok n
  | [], _, _, h, _, _ => h
  | s :: r, d, i, h, hs, hi => by
    unfold storeP
    split
    · exact h
    · rename_i hd
      exact storeP_ok r _ _ (h.write hd (by simp at hi; omega) (hs s (by simp))) (fun x hx => hs x (by simp [hx])) (by simp at hi; omega)
theorem storeP_wait : ∀ (ss : List (List Int)) (d : Dk) (i : Nat), (storeP d i ss).1.wait.length ≤ d.wait.length + ss.length ∧ (storeP d i ss).1.writes ≤ d.writes + ss.length
  | [], d, i => by simp [storeP]
  | s :: r, d, i => by
    unfold storeP
    split
    · simp; omega
    · have := storeP_wait r (d.write i s) (i + 1)
      simp only [Dk.write, List.length_append, List.length_cons, List.length_nil] at this ⊢
      omega
theorem flushP_wait (d : Dk) : (flushP d).1.wait.length ≤ d.wait.length ∧ (flushP d).1.writes = d.writes := by
  unfold flushP
  split
  · exact ⟨Nat.le_refl _, rfl⟩
  · exact ⟨by simp [Dk.flush], rfl⟩

/-- The journal's head over frames. -/
def sumsOf : Nat → List Int → List Int
  | 0, _ => []
  | n + 1, f => (f.take 512).drop 508 ++ sumsOf n (f.drop 512)
def headOf (f : List Int) : List Int := (uv ((f.length / 512 : Nat) : Int) ++ sumsOf (f.length / 512) f) ++ zeros (64 - (uv ((f.length / 512 : Nat) : Int) ++ sumsOf (f.length / 512) f).length)
theorem sumsOf_len : ∀ (n : Nat) (f : List Int), 512 * n ≤ f.length → (sumsOf n f).length = 4 * n
  | 0, _, _ => rfl
  | n + 1, f, h => by
    have := sumsOf_len n (f.drop 512) (by simp; omega)
    simp only [sumsOf, List.length_append, this]
    simp; omega
theorem sumsOf_snoc : ∀ (n : Nat) (f : List Int), 512 * (n + 1) ≤ f.length → sumsOf (n + 1) f = sumsOf n f ++ ((f.drop (512 * n)).take 512).drop 508
  | 0, f, h => by simp [sumsOf]
  | n + 1, f, h => by
    have := sumsOf_snoc n (f.drop 512) (by simp; omega)
    rw [sumsOf, this, sumsOf, List.append_assoc, List.drop_drop]
    congr 5
    omega
theorem sumsOf_by : ∀ (n : Nat) (f : List Int), By f → By (sumsOf n f)
  | 0, _, _ => fun x hx => by simp [sumsOf] at hx
  | n + 1, f, h => ((h.take 512).drop 508).app (sumsOf_by n _ (h.drop 512))
theorem uv_small {k : Nat} (h : k ≤ 8) : uv (k : Int) = [(k : Int)] := uvF_small 9 (by omega)
theorem headOf_len {f : List Int} {k : Nat} (h : f.length = 512 * k) (hk : k ≤ 8) : (headOf f).length = 64 := by
  have e : f.length / 512 = k := by omega
  have := sumsOf_len k f (by omega)
  unfold headOf
  rw [e, uv_small hk]
  simp only [List.length_append, zeros_len, this, List.length_cons, List.length_nil]
  omega
theorem headOf_by {f : List Int} {k : Nat} (h : f.length = 512 * k) (hk : k ≤ 8) (hb : By f) : By (headOf f) := by
  have e : f.length / 512 = k := by omega
  unfold headOf
  rw [e]
  have hu : By (uv (k : Int)) := uv_byte (by omega) (by omega)
  exact (hu.app (sumsOf_by _ _ hb)).app (By.zeros _)
/-- How many frames a head tells. -/
def countOf (h : List Int) : Nat := if (dec 0 0 h).2.2 ≠ 0 ∨ 8 < (dec 0 0 h).1 then 0 else (dec 0 0 h).1.toNat
theorem countOf_le (h : List Int) : countOf h ≤ 8 := by unfold countOf; split <;> omega
theorem countOf_head {f : List Int} {k : Nat} (h : f.length = 512 * k) (hk : k ≤ 8) : countOf (headOf f) = k := by
  have e : f.length / 512 = k := by omega
  have d := dec_uv (x := (k : Int)) (by omega) (by omega) (sumsOf k f ++ zeros (64 - (uv (k : Int) ++ sumsOf k f).length))
  unfold countOf headOf
  rw [e, List.append_assoc, d]
  simp
  omega

/-- The pages of frames; none, if one is no frame. -/
def pagesIn : Nat → List Int → Option (List Pg)
  | 0, _ => some []
  | n + 1, f => if pageErr (f.take 512) ≠ 0 then none else (pagesIn n (f.drop 512)).map (pageIn (f.take 512) :: ·)
/-- May they be written at once? -/
def takes (n : Nat) (l : List Pg) : Prop := l.length ≤ 8 ∧ (∀ p ∈ l, p.Ok n) ∧ (l.map Pg.no).Nodup
/-- The frames of pages. -/
def framesOf (l : List Pg) : List Int := (l.map frameOf).flatten
theorem framesOf_len {l : List Pg} (h : ∀ p ∈ l, p.data.length = 480) : (framesOf l).length = 512 * l.length := by
  unfold framesOf
  rw [flatten_len (m := 512) _ (fun b hb => by obtain ⟨p, hp, rfl⟩ := List.mem_map.1 hb; exact frameOf_len (h p hp))]
  simp; omega
theorem pagesIn_back {n : Nat} (hn : n ≤ 4096) : ∀ (l : List Pg), (∀ p ∈ l, p.Ok n) → pagesIn l.length (framesOf l) = some l
  | [], _ => rfl
  | p :: r, h => by
    have hp := h p (by simp)
    have hl := frameOf_len hp.len
    have ht : (framesOf (p :: r)).take 512 = frameOf p := by
      simp only [framesOf, List.map_cons, List.flatten_cons]
      rw [List.take_append_of_le_length (by omega), List.take_of_length_le (by omega)]
    have hd : (framesOf (p :: r)).drop 512 = framesOf r := by
      simp only [framesOf, List.map_cons, List.flatten_cons]
      rw [List.drop_append_of_le_length (by omega), List.drop_of_length_le (by omega), List.nil_append]
    obtain ⟨e1, e2⟩ := page_back hp hn
    simp only [List.length_cons, pagesIn, ht, hd, e1, e2, pagesIn_back hn r (fun q hq => h q (by simp [hq])), ne_eq, not_true_eq_false, if_false, Option.map_some]
end Go.Proofs.YthhlbhnogcfnjaaDoor
