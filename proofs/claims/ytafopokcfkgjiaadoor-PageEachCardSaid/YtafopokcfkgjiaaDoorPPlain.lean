/-
  The plain mathematics of layer 1: a number's bytes, the sum of bytes (it is linear), what is sealed. Nothing of the program is named here.
-/
import Derived.WalkKit
import Derived.PlainAid
import Derived.OpenShut
namespace Go.Proofs.YtafopokcfkgjiaaDoor
open Go.RowKit Go.PlainAid


/-- The bytes of x, at most f of them with the mark of more. -/
def uvF : Nat → Int → List Int
  | 0, x => [x]
  | f + 1, x => if x < 128 then [x] else (x % 128 + 128) :: uvF f (x / 128)
def uv (x : Int) : List Int := uvF 9 x

theorem uvF_small (f : Nat) {x : Int} (h : x < 128) : uvF f x = [x] := by cases f <;> simp [uvF, h]
theorem uvF_more (f : Nat) {x : Int} (h : 128 ≤ x) : uvF (f + 1) x = (x % 128 + 128) :: uvF f (x / 128) := by
  have : ¬ x < 128 := by omega
  simp [uvF, this]
theorem uvF_len (f : Nat) (x : Int) : 1 ≤ (uvF f x).length ∧ (uvF f x).length ≤ f + 1 := by
  induction f generalizing x with
  | zero => simp [uvF]
  | succ f ih =>
    unfold uvF
    split
    · simp
    · have := ih (x / 128)
      simp; omega
theorem uv_len (x : Int) : 1 ≤ (uv x).length ∧ (uv x).length ≤ 10 := uvF_len 9 x
/-- Where x has more than seven bits, a byte less is left for what is above them. -/
theorem room_step {f : Nat} {x : Int} (h : 128 ≤ x) (hb : x < 2 * 128 ^ f) : ∃ g, f = g + 1 ∧ x / 128 < 2 * 128 ^ g := by
  cases f with
  | zero => simp at hb; omega
  | succ g =>
    refine ⟨g, rfl, ?_⟩
    have e : (2 : Int) * 128 ^ (g + 1) = 2 * 128 ^ g * 128 := by rw [Int.pow_succ, Int.mul_assoc]
    rw [e] at hb
    exact Int.ediv_lt_of_lt_mul (by omega) hb
theorem room_start {x : Int} (h : x ≤ 18446744073709551615) : x < 2 * 128 ^ 9 := by
  have : (2 : Int) * 128 ^ 9 = 18446744073709551616 := by decide
  omega
theorem low7 (x : Int) : bits .or .u8 (x % 256) 128 = x % 128 + 128 := by
  have h1 : 0 ≤ x % 256 := by omega
  have h2 : x % 256 < 256 := by omega
  obtain ⟨n, hn⟩ := Int.eq_ofNat_of_zero_le h1
  rw [hn] at h2 ⊢
  have h3 : x % 128 = ((n % 128 : Nat) : Int) := by omega
  rw [h3]
  have h4 : n < 256 := by omega
  clear hn h1 h2 h3
  have : ∀ n : Nat, n < 256 → bits .or .u8 (n : Int) 128 = ((n % 128 : Nat) : Int) + 128 := by decide +kernel
  exact this n h4
theorem uvF_inj : ∀ (f : Nat) (x y : Int), 0 ≤ x → 0 ≤ y → uvF f x = uvF f y → x = y := by
  intro f
  induction f with
  | zero => intro x y _ _ h; simpa [uvF] using h
  | succ f ih =>
    intro x y hx hy h
    by_cases h1 : x < 128 <;> by_cases h2 : y < 128
    · simpa [uvF, h1, h2] using h
    · simp [uvF, h1, h2] at h; omega
    · simp [uvF, h1, h2] at h; omega
    · simp only [uvF, h1, h2, if_false, List.cons.injEq] at h
      have := ih (x / 128) (y / 128) (by omega) (by omega) h.2
      omega
theorem uvF_byte : ∀ (f : Nat) (x : Int), 0 ≤ x → x < 2 * 128 ^ f → ∀ b ∈ uvF f x, 0 ≤ b ∧ b ≤ 255 := by
  intro f
  induction f with
  | zero => intro x h0 h1 b hb; simp [uvF] at hb; simp at h1; omega
  | succ f ih =>
    intro x h0 h1 b hb
    by_cases h : x < 128
    · simp [uvF, h] at hb; omega
    · simp only [uvF, h, if_false, List.mem_cons] at hb
      rcases hb with hb | hb
      · omega
      · obtain ⟨g, hg, hr⟩ := room_step (by omega) h1
        cases hg
        exact ih _ (by omega) hr b hb
theorem uv_byte {x : Int} (h0 : 0 ≤ x) (h1 : x ≤ 18446744073709551615) : ∀ b ∈ uv x, 0 ≤ b ∧ b ≤ 255 := uvF_byte 9 x h0 (room_start h1)

/-- A number with a sign, the sign in the lowest bit. -/
def zig (y : Int) : Int := if y < 0 then -2 * y - 1 else 2 * y
theorem zig_bounds {y : Int} (h0 : -9223372036854775808 ≤ y) (h1 : y ≤ 9223372036854775807) : 0 ≤ zig y ∧ zig y ≤ 18446744073709551615 := by unfold zig; split <;> omega

theorem nat_not64 {n : Nat} (h : n < 18446744073709551616) : n ^^^ 18446744073709551615 = 18446744073709551615 - n := by
  have e := congrArg BitVec.toNat (BitVec.xor_allOnes (x := BitVec.ofNat 64 n))
  rw [BitVec.toNat_xor, BitVec.toNat_not, BitVec.toNat_allOnes, BitVec.toNat_ofNat, Nat.mod_eq_of_lt h] at e
  exact e
theorem zig_bits {y : Int} (h0 : -9223372036854775808 ≤ y) (h1 : y ≤ 9223372036854775807) :
    bits .xor .u64 (IntKind.u64.wrap (IntKind.u64.wrap y * 2)) (IntKind.u64.wrap (y / 9223372036854775808)) = zig y := by
  by_cases h : y < 0
  · have e1 : IntKind.u64.wrap (IntKind.u64.wrap y * 2) = 2 * y + 18446744073709551616 := by
      rw [u64_neg h (by omega), IntKind.wrap_u64]; omega
    have e2 : IntKind.u64.wrap (y / 9223372036854775808) = 18446744073709551615 := by
      rw [shr63_neg h h0]; rfl
    rw [e1, e2]
    obtain ⟨n, hn⟩ := Int.eq_ofNat_of_zero_le (show 0 ≤ 2 * y + 18446744073709551616 by omega)
    rw [hn]
    have h2 := u64_xor_nat n 18446744073709551615 (by omega) (by omega)
    rw [show ((18446744073709551615 : Nat) : Int) = 18446744073709551615 from rfl] at h2
    rw [h2]
    have h3 : n ^^^ 18446744073709551615 = 18446744073709551615 - n := by
      exact nat_not64 (by omega)
    rw [h3]
    unfold zig
    rw [if_pos h]
    omega
  · have e1 : IntKind.u64.wrap (IntKind.u64.wrap y * 2) = 2 * y := by
      rw [u64_nonneg (n := y) (by omega) (by omega), u64_nonneg (by omega) (by omega)]; omega
    have e2 : IntKind.u64.wrap (y / 9223372036854775808) = 0 := by rw [shr63_nonneg (by omega) h1]; rfl
    rw [e1, e2]
    obtain ⟨n, hn⟩ := Int.eq_ofNat_of_zero_le (show 0 ≤ 2 * y by omega)
    rw [hn]
    have h2 := u64_xor_nat n 0 (by omega) (by omega)
    rw [show ((0 : Nat) : Int) = 0 from rfl] at h2
    rw [h2]
    unfold zig
    rw [if_neg h]
    simp; omega

/-- The number that bytes begin with: X is what the first k gave. -/
def dec (X : Int) (k : Nat) : List Int → Int × Int × Int
  | [] => (0, 0, 4)
  | c :: l => if k = 9 ∧ 1 < c then (0, 0, 5) else if 128 ≤ c then dec (X + c % 128 * 2 ^ (7 * k)) (k + 1) l else if c = 0 ∧ 0 < k then (0, 0, 3) else (X + c % 128 * 2 ^ (7 * k), k + 1, 0)
theorem mask128 {c : Int} (h₀ : 0 ≤ c) (h₁ : c ≤ 255) : bits .andNot .u8 c 128 = c % 128 := by
  obtain ⟨n, rfl⟩ := Int.eq_ofNat_of_zero_le h₀
  have h4 : n < 256 := by omega
  have : ∀ n : Nat, n < 256 → bits .andNot .u8 (n : Int) 128 = (n : Int) % 128 := by decide +kernel
  exact this n h4

theorem or_add {X Y : Int} {m : Nat} (h0 : 0 ≤ X) (h1 : X < 2 ^ m) (hY : 0 ≤ Y) (hs : X + Y * 2 ^ m ≤ 18446744073709551615) : bits .or .u64 X (Y * 2 ^ m) = X + Y * 2 ^ m := by
  have hp : 0 ≤ Y * 2 ^ m := Int.mul_nonneg hY (Int.le_of_lt (Int.pow_pos (by omega)))
  rw [u64_or X (Y * 2 ^ m) h0 (by omega) hp (by omega)]
  obtain ⟨x, rfl⟩ := Int.eq_ofNat_of_zero_le h0
  obtain ⟨y, rfl⟩ := Int.eq_ofNat_of_zero_le hY
  have e : ((y : Int) * 2 ^ m) = ((y * 2 ^ m : Nat) : Int) := by push_cast; rfl
  have h1' : x < 2 ^ m := by
    have : ((x : Nat) : Int) < ((2 ^ m : Nat) : Int) := by push_cast; exact h1
    omega
  rw [e, Int.toNat_natCast, Int.toNat_natCast, Nat.or_comm, nat_join m (y * 2 ^ m) x (by simp) h1']
  push_cast
  omega
theorem pow7 {k : Nat} (hk : k ≤ 8) : (2 : Int) ^ (7 * (k + 1)) = 128 * 2 ^ (7 * k) ∧ (0 : Int) < 2 ^ (7 * k) ∧ (2 : Int) ^ (7 * k) ≤ 72057594037927936 := by
  have : ∀ k : Nat, k ≤ 8 → (2 : Int) ^ (7 * (k + 1)) = 128 * 2 ^ (7 * k) ∧ (0 : Int) < 2 ^ (7 * k) ∧ (2 : Int) ^ (7 * k) ≤ 72057594037927936 := by decide
  exact this k hk
/-- A further byte, ahead of the tenth. -/
theorem or_more {X c : Int} {k : Nat} (h0 : 0 ≤ X) (h1 : X < 2 ^ (7 * k)) (hk : k ≤ 8) :
    bits .or .u64 X (IntKind.u64.wrap (c % 128 * 2 ^ (7 * k))) = X + c % 128 * 2 ^ (7 * k) ∧ 0 ≤ X + c % 128 * 2 ^ (7 * k) ∧ X + c % 128 * 2 ^ (7 * k) < 2 ^ (7 * (k + 1)) := by
  obtain ⟨e, p, q⟩ := pow7 hk
  have hm0 : 0 ≤ c % 128 := by omega
  have hm1 : c % 128 ≤ 127 := by omega
  generalize c % 128 = m at hm0 hm1 ⊢
  have hb : m * 2 ^ (7 * k) ≤ 127 * 2 ^ (7 * k) := Int.mul_le_mul_of_nonneg_right hm1 (by omega)
  have hb0 : 0 ≤ m * 2 ^ (7 * k) := Int.mul_nonneg hm0 (by omega)
  have hw : IntKind.u64.wrap (m * 2 ^ (7 * k)) = m * 2 ^ (7 * k) := IntWalk.u64_in _ ⟨by omega, by omega⟩
  rw [hw]
  refine ⟨or_add h0 h1 hm0 (by omega), by omega, by rw [e]; omega⟩

theorem drop_at {zs : List Int} {c : Int} {k : Nat} (hc : c = zs.getD k 0) (hk : k < zs.length) : zs.drop k = c :: zs.drop (k + 1) := by
  rw [List.drop_eq_getElem_cons hk, hc]
  simp [hk]
theorem take_at {zs : List Int} {c : Int} {k : Nat} (hc : c = zs.getD k 0) (hk : k < zs.length) : zs.take (k + 1) = zs.take k ++ [c] := by
  rw [List.take_succ_eq_append_getElem hk, hc]
  simp [hk]

/-- The sum of bytes, by half bytes. -/
def crcTab : List Int := [0, 498536548, 997073096, 651767980, 1994146192, 1802195444, 1303535960, 1342533948, 3988292384, 4027552580, 3604390888, 3412177804, 2607071920, 2262029012, 2685067896, 3183342108]
def crcHalf (s : Int) : Int := bits .xor .u32 (s / 16) (crcTab.getD (s % 16).toNat 0)
def crcStep (s c : Int) : Int := crcHalf (crcHalf (bits .xor .u32 s c))
def crcS (l : List Int) : Int := l.foldl crcStep 4294967295
def crcL (l : List Int) : Int := bits .xor .u32 IntKind.u32.max (crcS l)

theorem xor32_bounds (a b : Int) : 0 ≤ bits .xor .u32 a b ∧ bits .xor .u32 a b ≤ 4294967295 := by
  have := wf_bits .xor .u32 a b
  exact bounds_u32 this
theorem and15 {s : Int} (h0 : 0 ≤ s) (h1 : s ≤ 4294967295) : bits .and .u32 s 15 = s % 16 := by
  rw [u32_and s 15 h0 (by omega) (by omega) (by omega)]
  have : s.toNat &&& (15 : Int).toNat = s.toNat % 16 := nat_mask4 _
  rw [this]; omega

/-- Strings of bytes are told apart by their numbers. -/
theorem strOfNums_inj {a b : List Int} (ha : ∀ x ∈ a, 0 ≤ x ∧ x ≤ 255) (hb : ∀ x ∈ b, 0 ≤ x ∧ x ≤ 255) (h : (strOfNums a).data.toList = (strOfNums b).data.toList) : a = b := by
  rw [strOfNums_data, strOfNums_data] at h
  have hl : a.length = b.length := by simpa using congrArg List.length h
  apply List.ext_getElem hl
  intro i h1 h2
  have e := congrArg (fun l => l[i]?) h
  simp only [List.getElem?_map, List.getElem?_eq_getElem h1, List.getElem?_eq_getElem h2, Option.map_some, Option.some.injEq] at e
  have p := ha _ (List.getElem_mem h1)
  have q := hb _ (List.getElem_mem h2)
  have e' := congrArg UInt8.toNat e
  simp only [UInt8.toNat_ofNat'] at e'
  omega

def tabN : List Nat := [0, 498536548, 997073096, 651767980, 1994146192, 1802195444, 1303535960, 1342533948, 3988292384, 4027552580, 3604390888, 3412177804, 2607071920, 2262029012, 2685067896, 3183342108]
def halfN (s : Nat) : Nat := (s / 16) ^^^ tabN.getD (s % 16) 0
def stepN (s c : Nat) : Nat := halfN (halfN (s ^^^ c))
def sumN (s : Nat) (l : List Nat) : Nat := l.foldl stepN s

theorem tab_lt : ∀ i, i < 16 → tabN.getD i 0 < 2 ^ 32 := by decide
theorem tab_xor : ∀ i, i < 16 → ∀ j, j < 16 → tabN.getD (i ^^^ j) 0 = tabN.getD i 0 ^^^ tabN.getD j 0 := by decide
theorem halfN_lt {s : Nat} (h : s < 2 ^ 32) : halfN s < 2 ^ 32 := Nat.xor_lt_two_pow (by omega) (tab_lt _ (Nat.mod_lt _ (by omega)))
theorem halfN_xor (s t : Nat) : halfN (s ^^^ t) = halfN s ^^^ halfN t := by
  unfold halfN
  have e1 : (s ^^^ t) / 16 = (s / 16) ^^^ (t / 16) := by
    have := Nat.shiftRight_xor_distrib (a := s) (b := t) (i := 4)
    simpa [Nat.shiftRight_eq_div_pow] using this
  have e2 : (s ^^^ t) % 16 = (s % 16) ^^^ (t % 16) := Nat.xor_mod_two_pow (a := s) (b := t) (n := 4)
  rw [e1, e2, tab_xor _ (Nat.mod_lt _ (by omega)) _ (Nat.mod_lt _ (by omega))]
  ac_rfl
theorem stepN_lt {s c : Nat} (h : s < 2 ^ 32) (hc : c < 256) : stepN s c < 2 ^ 32 := halfN_lt (halfN_lt (Nat.xor_lt_two_pow h (by omega)))
theorem stepN_xor (s t c d : Nat) : stepN (s ^^^ t) (c ^^^ d) = stepN s c ^^^ stepN t d := by
  unfold stepN
  rw [← halfN_xor, ← halfN_xor]
  congr 2
  ac_rfl
/-- Three texts of one length, laid over each other. -/
def over3 (a b c : List Nat) : List Nat := (a.zip (b.zip c)).map fun p => p.1 ^^^ p.2.1 ^^^ p.2.2
theorem sumN_over3 : ∀ (a b c : List Nat) (s t u : Nat), a.length = b.length → b.length = c.length → sumN (s ^^^ t ^^^ u) (over3 a b c) = sumN s a ^^^ sumN t b ^^^ sumN u c
  | [], [], [], s, t, u, _, _ => rfl
  | x :: a, y :: b, z :: c, s, t, u, h1, h2 => by
    have ih := sumN_over3 a b c (stepN s x) (stepN t y) (stepN u z) (by simpa using h1) (by simpa using h2)
    rw [← stepN_xor, ← stepN_xor] at ih
    exact ih
  | [], _ :: _, _, _, _, _, h1, _ => by simp at h1
  | _ :: _, [], _, _, _, _, h1, _ => by simp at h1
  | _, [], _ :: _, _, _, _, _, h2 => by simp at h2
  | _, _ :: _, [], _, _, _, _, h2 => by simp at h2
theorem sumN_lt : ∀ (l : List Nat) (s : Nat), s < 2 ^ 32 → (∀ c ∈ l, c < 256) → sumN s l < 2 ^ 32
  | [], _, h, _ => h
  | c :: l, s, h, hl => sumN_lt l (stepN s c) (stepN_lt h (hl c (by simp))) (fun d hd => hl d (by simp [hd]))

theorem crcHalf_nat {s : Nat} (h : s < 2 ^ 32) : crcHalf (s : Int) = (halfN s : Int) := by
  unfold crcHalf halfN
  have e1 : (s : Int) / 16 = ((s / 16 : Nat) : Int) := by omega
  have e2 : ((s : Int) % 16).toNat = s % 16 := by omega
  have hm : s % 16 < 16 := Nat.mod_lt _ (by omega)
  have e3 : ∀ i, i < 16 → crcTab.getD i 0 = ((tabN.getD i 0 : Nat) : Int) := by decide
  rw [e1, e2, e3 _ hm, u32_xor_nat _ _ (by omega) (by have := tab_lt _ hm; omega)]
theorem crcStep_nat {s c : Nat} (h : s < 2 ^ 32) (hc : c < 256) : crcStep (s : Int) (c : Int) = (stepN s c : Int) := by
  unfold crcStep stepN
  have hx : s ^^^ c < 2 ^ 32 := Nat.xor_lt_two_pow h (by omega)
  rw [u32_xor_nat s c (by omega) (by omega), crcHalf_nat hx, crcHalf_nat (halfN_lt hx)]
theorem crcS_nat : ∀ (l : List Nat) (s : Nat), s < 2 ^ 32 → (∀ c ∈ l, c < 256) → (l.map fun n : Nat => (n : Int)).foldl crcStep (s : Int) = (sumN s l : Int)
  | [], _, _, _ => rfl
  | c :: l, s, h, hl => by
    have hc := hl c (by simp)
    simp only [List.map_cons, List.foldl_cons]
    rw [crcStep_nat h hc, crcS_nat l _ (stepN_lt h hc) (fun d hd => hl d (by simp [hd]))]
    rfl
/-- The sum of bytes, as a natural number. -/
def crcN (l : List Nat) : Nat := 4294967295 ^^^ sumN 4294967295 l
theorem crcL_nat (l : List Nat) (hl : ∀ c ∈ l, c < 256) : crcL (l.map fun n : Nat => (n : Int)) = (crcN l : Int) := by
  unfold crcL crcS crcN
  have h := crcS_nat l 4294967295 (by decide) hl
  have h' : (l.map fun n : Nat => (n : Int)).foldl crcStep 4294967295 = (sumN 4294967295 l : Int) := h
  rw [h']
  exact u32_xor_nat 4294967295 _ (by omega) (by have := sumN_lt l 4294967295 (by decide) hl; omega)
theorem crcN_lt (l : List Nat) (hl : ∀ c ∈ l, c < 256) : crcN l < 2 ^ 32 := Nat.xor_lt_two_pow (by decide) (sumN_lt l _ (by decide) hl)
theorem crcN_over3 (a b c : List Nat) (h1 : a.length = b.length) (h2 : b.length = c.length) : crcN a ^^^ crcN b ^^^ crcN c = crcN (over3 a b c) := by
  unfold crcN
  have := sumN_over3 a b c 4294967295 4294967295 4294967295 h1 h2
  have e : 4294967295 ^^^ 4294967295 ^^^ 4294967295 = 4294967295 := by decide
  rw [e] at this
  rw [this]
  generalize sumN 4294967295 a = x
  generalize sumN 4294967295 b = y
  generalize sumN 4294967295 c = z
  generalize 4294967295 = f
  have : f ^^^ x ^^^ (f ^^^ y) ^^^ (f ^^^ z) = (f ^^^ f) ^^^ (f ^^^ (x ^^^ y ^^^ z)) := by ac_rfl
  rw [this, Nat.xor_self, Nat.zero_xor]
/-- Bytes as natural numbers. -/
def nats (zs : List Int) : List Nat := zs.map Int.toNat
theorem nats_back {zs : List Int} (h : ∀ b ∈ zs, 0 ≤ b ∧ b ≤ 255) : (nats zs).map (fun n : Nat => (n : Int)) = zs := by
  unfold nats
  rw [List.map_map]
  conv => rhs; rw [← List.map_id zs]
  apply List.map_congr_left
  intro b hb
  have := h b hb
  simp
  omega
theorem nats_lt {zs : List Int} (h : ∀ b ∈ zs, 0 ≤ b ∧ b ≤ 255) : ∀ c ∈ nats zs, c < 256 := by
  intro c hc
  obtain ⟨b, hb, rfl⟩ := List.mem_map.1 hc
  have := h b hb
  omega
theorem over3_byte (a b c : List Nat) (ha : ∀ x ∈ a, x < 256) (hb : ∀ x ∈ b, x < 256) (hc : ∀ x ∈ c, x < 256) : ∀ x ∈ (over3 a b c).map (fun n : Nat => (n : Int)), 0 ≤ x ∧ x ≤ 255 := by
  intro x hx
  obtain ⟨m, hm, rfl⟩ := List.mem_map.1 hx
  obtain ⟨⟨p, q, r⟩, hp, rfl⟩ := List.mem_map.1 hm
  have h1 := List.of_mem_zip hp
  have h2 := List.of_mem_zip h1.2
  have : p ^^^ q ^^^ r < 2 ^ 8 := Nat.xor_lt_two_pow (Nat.xor_lt_two_pow (ha p h1.1) (hb q h2.1)) (hc r h2.2)
  simp only
  omega
theorem over3_at {za zb zc : List Int} {n k : Nat} (ha : n ≤ za.length) (hb : n ≤ zb.length) (hc : n ≤ zc.length) (hk : k < n) (h1 : 0 ≤ za.getD k 0 ∧ za.getD k 0 ≤ 255) (h2 : 0 ≤ zb.getD k 0 ∧ zb.getD k 0 ≤ 255) (h3 : 0 ≤ zc.getD k 0 ∧ zc.getD k 0 ≤ 255) :
    bits .xor .u8 (bits .xor .u8 (za.getD k 0) (zb.getD k 0)) (zc.getD k 0) = ((over3 (nats (za.take n)) (nats (zb.take n)) (nats (zc.take n))).map fun m : Nat => (m : Int)).getD k 0 := by
  have hka : k < za.length := by omega
  have hkb : k < zb.length := by omega
  have hkc : k < zc.length := by omega
  have e : ((over3 (nats (za.take n)) (nats (zb.take n)) (nats (zc.take n))).map fun m : Nat => (m : Int)).getD k 0 = (((za.getD k 0).toNat ^^^ (zb.getD k 0).toNat ^^^ (zc.getD k 0).toNat : Nat) : Int) := by
    have hlen : k < ((over3 (nats (za.take n)) (nats (zb.take n)) (nats (zc.take n))).map fun m : Nat => (m : Int)).length := by simp [over3, nats]; omega
    rw [List.getD_eq_getElem?_getD, List.getElem?_eq_getElem hlen, Option.getD_some]
    simp [over3, nats, hka, hkb, hkc]
  rw [e]
  clear e
  generalize za.getD k 0 = X at h1 ⊢
  generalize zb.getD k 0 = Y at h2 ⊢
  generalize zc.getD k 0 = Z at h3 ⊢
  obtain ⟨x, rfl⟩ := Int.eq_ofNat_of_zero_le h1.1
  obtain ⟨y, rfl⟩ := Int.eq_ofNat_of_zero_le h2.1
  obtain ⟨z, rfl⟩ := Int.eq_ofNat_of_zero_le h3.1
  have hxy : x ^^^ y < 2 ^ 8 := Nat.xor_lt_two_pow (by omega) (by omega)
  rw [u8_xor_nat x y (by omega) (by omega), u8_xor_nat (x ^^^ y) z (by omega) (by omega)]
  simp
theorem crcL_over3 {a b c : List Int} (ha : ∀ x ∈ a, 0 ≤ x ∧ x ≤ 255) (hb : ∀ x ∈ b, 0 ≤ x ∧ x ≤ 255) (hc : ∀ x ∈ c, 0 ≤ x ∧ x ≤ 255) (h1 : a.length = b.length) (h2 : b.length = c.length) :
    bits .xor .u32 (bits .xor .u32 (crcL a) (crcL b)) (crcL c) = crcL ((over3 (nats a) (nats b) (nats c)).map fun n : Nat => (n : Int)) := by
  have na := nats_lt ha
  have nb := nats_lt hb
  have nc := nats_lt hc
  have ea : crcL a = (crcN (nats a) : Int) := by rw [← crcL_nat _ na, nats_back ha]
  have eb : crcL b = (crcN (nats b) : Int) := by rw [← crcL_nat _ nb, nats_back hb]
  have ec : crcL c = (crcN (nats c) : Int) := by rw [← crcL_nat _ nc, nats_back hc]
  have ed : ∀ x ∈ over3 (nats a) (nats b) (nats c), x < 256 := fun x hx => by
    have := over3_byte _ _ _ na nb nc (x : Int) (List.mem_map.2 ⟨x, hx, rfl⟩)
    omega
  have la := crcN_lt _ na
  have lb := crcN_lt _ nb
  have lc := crcN_lt _ nc
  have lab : crcN (nats a) ^^^ crcN (nats b) < 2 ^ 32 := Nat.xor_lt_two_pow la lb
  rw [ea, eb, ec, crcL_nat _ ed, u32_xor_nat _ _ (by omega) (by omega), u32_xor_nat _ _ (by omega) (by omega), crcN_over3 _ _ _ (by simp [nats, h1]) (by simp [nats, h2])]

/-- One bit's step of the sum. -/
def bitN (s : Nat) : Nat := (s / 2) ^^^ (if s % 2 = 1 then 3988292384 else 0)
def bitsN : Nat → Nat → Nat
  | 0, s => s
  | k + 1, s => bitN (bitsN k s)
theorem bitN_lt {s : Nat} (h : s < 2 ^ 32) : bitN s < 2 ^ 32 := by
  unfold bitN
  exact Nat.xor_lt_two_pow (by omega) (by split <;> decide)
theorem bitsN_lt (k : Nat) {s : Nat} (h : s < 2 ^ 32) : bitsN k s < 2 ^ 32 := by
  induction k with
  | zero => exact h
  | succ k ih => exact bitN_lt ih
theorem bitN_xor (s t : Nat) : bitN (s ^^^ t) = bitN s ^^^ bitN t := by
  unfold bitN
  have e1 : (s ^^^ t) / 2 = (s / 2) ^^^ (t / 2) := by
    have := Nat.shiftRight_xor_distrib (a := s) (b := t) (i := 1)
    simpa [Nat.shiftRight_eq_div_pow] using this
  have e2 : (s ^^^ t) % 2 = (s % 2) ^^^ (t % 2) := Nat.xor_mod_two_pow (a := s) (b := t) (n := 1)
  rw [e1, e2]
  have h1 : s % 2 = 0 ∨ s % 2 = 1 := by omega
  have h2 : t % 2 = 0 ∨ t % 2 = 1 := by omega
  rcases h1 with h1 | h1 <;> rcases h2 with h2 | h2 <;> rw [h1, h2]
  · simp
  · simp [Nat.xor_assoc]
  · simp only [Nat.xor_zero, if_true]
    simp
    ac_rfl
  · simp
    generalize (3988292384 : Nat) = p
    have : s / 2 ^^^ p ^^^ (t / 2 ^^^ p) = s / 2 ^^^ t / 2 ^^^ (p ^^^ p) := by ac_rfl
    rw [this, Nat.xor_self, Nat.xor_zero]
theorem bitsN_xor (k s t : Nat) : bitsN k (s ^^^ t) = bitsN k s ^^^ bitsN k t := by
  induction k with
  | zero => rfl
  | succ k ih => simp only [bitsN]; rw [ih, bitN_xor]
theorem bitN_double (m : Nat) : bitN (2 * m) = m := by
  unfold bitN
  have e1 : 2 * m / 2 = m := by omega
  have e2 : ¬ 2 * m % 2 = 1 := by omega
  rw [e1, if_neg e2, Nat.xor_zero]
theorem bits4 (s : Nat) : bitsN 4 s = halfN s := by
  have hr : ∀ r, r < 16 → bitsN 4 r = tabN.getD r 0 := by decide
  have hq : bitsN 4 (16 * (s / 16)) = s / 16 := by
    have e : 16 * (s / 16) = 2 * (2 * (2 * (2 * (s / 16)))) := by omega
    rw [e]
    simp only [bitsN, bitN_double]
  have hs : s = (16 * (s / 16)) ^^^ (s % 16) := by
    apply Nat.eq_of_testBit_eq
    intro i
    rw [Nat.testBit_xor, show (16 : Nat) = 2 ^ 4 from rfl, Nat.testBit_two_pow_mul, Nat.testBit_mod_two_pow, Nat.testBit_div_two_pow]
    by_cases h : 4 ≤ i
    · have h2 : ¬ i < 4 := by omega
      have h3 : 4 + (i - 4) = i := by omega
      simp [h, h2]
    · have h2 : i < 4 := by omega
      simp [h, h2]
  conv => lhs; rw [hs]
  rw [bitsN_xor, hq, hr _ (Nat.mod_lt _ (by decide))]
  rfl
theorem bitsN_add (a b s : Nat) : bitsN (a + b) s = bitsN a (bitsN b s) := by
  induction a with
  | zero => simp [bitsN]
  | succ a ih => rw [Nat.succ_add]; simp only [bitsN]; rw [ih]
theorem bits8 (s : Nat) : bitsN 8 s = halfN (halfN s) := by
  rw [show 8 = 4 + 4 from rfl, bitsN_add, bits4, bits4]

theorem halfN_zero {u : Nat} (h : u < 2 ^ 32) (h0 : halfN u = 0) : u = 0 := by
  unfold halfN at h0
  have e : u / 16 = tabN.getD (u % 16) 0 := by
    have := congrArg (· ^^^ tabN.getD (u % 16) 0) h0
    simpa [Nat.xor_assoc] using this
  have hm : u % 16 < 16 := Nat.mod_lt _ (by decide)
  have big : ∀ i, i < 16 → i ≠ 0 → 268435456 ≤ tabN.getD i 0 := by decide
  by_cases hi : u % 16 = 0
  · rw [hi] at e
    have : tabN.getD 0 0 = 0 := rfl
    omega
  · have := big _ hm hi
    omega
theorem stepN_inj {s t c : Nat} (hs : s < 2 ^ 32) (ht : t < 2 ^ 32) (h : stepN s c = stepN t c) : s = t := by
  have e : stepN (s ^^^ t) (c ^^^ c) = 0 := by rw [stepN_xor, h, Nat.xor_self]
  rw [Nat.xor_self] at e
  unfold stepN at e
  rw [Nat.xor_zero] at e
  have hx : s ^^^ t < 2 ^ 32 := Nat.xor_lt_two_pow hs ht
  have h1 := halfN_zero (halfN_lt hx) e
  have h2 := halfN_zero hx h1
  have := congrArg (· ^^^ t) h2
  simpa [Nat.xor_assoc] using this
theorem sumN_inj : ∀ (l : List Nat) (s t : Nat), s < 2 ^ 32 → t < 2 ^ 32 → (∀ c ∈ l, c < 256) → sumN s l = sumN t l → s = t
  | [], _, _, _, _, _, h => h
  | c :: l, s, t, hs, ht, hl, h => by
    have hc := hl c (by simp)
    exact stepN_inj hs ht (sumN_inj l _ _ (stepN_lt hs hc) (stepN_lt ht hc) (fun d hd => hl d (by simp [hd])) h)
theorem stepN_bit {p x j : Nat} (hj : j < 8) : stepN p (x ^^^ 2 ^ j) ≠ stepN p x := by
  intro h
  have e : stepN (p ^^^ p) (x ^^^ 2 ^ j ^^^ x) = 0 := by rw [stepN_xor, h, Nat.xor_self]
  have e2 : x ^^^ 2 ^ j ^^^ x = 2 ^ j := by
    have : x ^^^ 2 ^ j ^^^ x = 2 ^ j ^^^ (x ^^^ x) := by ac_rfl
    rw [this, Nat.xor_self, Nat.xor_zero]
  rw [Nat.xor_self, e2] at e
  have all : ∀ j, j < 8 → stepN 0 (2 ^ j) ≠ 0 := by decide
  exact all j hj e
theorem sumN_append (s : Nat) (a b : List Nat) : sumN s (a ++ b) = sumN (sumN s a) b := by simp [sumN]
/-- A bit that is turned changes the sum. -/
theorem crcN_bit {l : List Nat} {i j : Nat} (hl : ∀ c ∈ l, c < 256) (hi : i < l.length) (hj : j < 8) : crcN (l.set i (l.getD i 0 ^^^ 2 ^ j)) ≠ crcN l := by
  intro h
  have e0 : sumN 4294967295 (l.set i (l.getD i 0 ^^^ 2 ^ j)) = sumN 4294967295 l := by
    unfold crcN at h
    have := congrArg (4294967295 ^^^ ·) h
    simpa [← Nat.xor_assoc] using this
  have e1 : l = l.take i ++ l.getD i 0 :: l.drop (i + 1) := by
    conv => lhs; rw [← List.take_append_drop i l, List.drop_eq_getElem_cons hi]
    simp [hi]
  have e2 : l.set i (l.getD i 0 ^^^ 2 ^ j) = l.take i ++ (l.getD i 0 ^^^ 2 ^ j) :: l.drop (i + 1) := List.set_eq_take_append_cons_drop.trans (by rw [if_pos hi])
  have hx : l.getD i 0 < 256 := hl _ (by simp [hi])
  have hx' : l.getD i 0 ^^^ 2 ^ j < 2 ^ 8 := Nat.xor_lt_two_pow (by omega) (Nat.pow_lt_pow_right (by omega) hj)
  rw [e2] at e0
  conv at e0 => rhs; rw [e1]
  rw [sumN_append, sumN_append] at e0
  have hp := sumN_lt (l.take i) 4294967295 (by decide) (fun c hc => hl c (List.mem_of_mem_take hc))
  generalize sumN 4294967295 (l.take i) = p at *
  have e3 : sumN (stepN p (l.getD i 0 ^^^ 2 ^ j)) (l.drop (i + 1)) = sumN (stepN p (l.getD i 0)) (l.drop (i + 1)) := e0
  exact stepN_bit hj (sumN_inj _ _ _ (stepN_lt hp (by omega)) (stepN_lt hp hx) (fun c hc => hl c (List.mem_of_mem_drop hc)) e3)

/-- A number's four bytes, the highest first; the number that four bytes are. -/
def be4 (c : Int) : List Int := [c / 16777216 % 256, c / 65536 % 256, c / 256 % 256, c % 256]
def num4 (l : List Int) : Int := l.getD 0 0 * 16777216 + l.getD 1 0 * 65536 + l.getD 2 0 * 256 + l.getD 3 0
theorem be4_byte (c : Int) : ∀ b ∈ be4 c, 0 ≤ b ∧ b ≤ 255 := by
  intro b hb
  simp [be4] at hb
  omega
theorem num4_be4 {c : Int} (h0 : 0 ≤ c) (h1 : c ≤ 4294967295) : num4 (be4 c) = c := by simp [num4, be4]; omega
theorem be4_num4 {l : List Int} (hl : l.length = 4) (hb : ∀ b ∈ l, 0 ≤ b ∧ b ≤ 255) : be4 (num4 l) = l := by
  match l, hl with
  | [a, b, c, d], _ =>
    have h1 := hb a (by simp)
    have h2 := hb b (by simp)
    have h3 := hb c (by simp)
    have h4 := hb d (by simp)
    simp [num4, be4]
    omega
theorem crcL_bounds {zs : List Int} (h : ∀ b ∈ zs, 0 ≤ b ∧ b ≤ 255) : 0 ≤ crcL zs ∧ crcL zs ≤ 4294967295 := by
  have e : crcL zs = (crcN (nats zs) : Int) := by rw [← crcL_nat _ (nats_lt h), nats_back h]
  have := crcN_lt _ (nats_lt h)
  omega
/-- What Open answers: the error, and what was sealed. -/
def openE (zs : List Int) : Int := if zs.length < 4 then 4 else if crcL (zs.take (zs.length - 4)) = num4 (zs.drop (zs.length - 4)) then 0 else 3
def openB (zs : List Int) : List Int := if openE zs = 0 then zs.take (zs.length - 4) else []
def sealL (zs : List Int) : List Int := zs ++ be4 (crcL zs)
theorem sealL_len (zs : List Int) : (sealL zs).length = zs.length + 4 := by simp [sealL, be4]
theorem sealL_byte {zs : List Int} (h : ∀ b ∈ zs, 0 ≤ b ∧ b ≤ 255) : ∀ b ∈ sealL zs, 0 ≤ b ∧ b ≤ 255 := by
  intro b hb
  rcases List.mem_append.1 hb with hb | hb
  · exact h b hb
  · exact be4_byte _ b hb
theorem open_seal {zs : List Int} (h : ∀ b ∈ zs, 0 ≤ b ∧ b ≤ 255) : openE (sealL zs) = 0 ∧ openB (sealL zs) = zs := by
  have hl := sealL_len zs
  have e1 : (sealL zs).take ((sealL zs).length - 4) = zs := by rw [hl]; simp [sealL]
  have e2 : (sealL zs).drop ((sealL zs).length - 4) = be4 (crcL zs) := by rw [hl]; simp [sealL]
  have hb := crcL_bounds h
  have e : openE (sealL zs) = 0 := by
    unfold openE
    rw [if_neg (by omega), e1, e2, num4_be4 hb.1 hb.2, if_pos rfl]
  exact ⟨e, by unfold openB; rw [if_pos e, e1]⟩
theorem xor_bit_ne (n j : Nat) : n ^^^ 2 ^ j ≠ n := by
  intro h
  have := congrArg (n ^^^ ·) h
  simp [← Nat.xor_assoc] at this
/-- With a bit turned it is refused. -/
theorem open_flip {zs : List Int} (h : ∀ b ∈ zs, 0 ≤ b ∧ b ≤ 255) {i j : Nat} (hi : i < zs.length + 4) (hj : j < 8) : openE ((sealL zs).set i ((((sealL zs).getD i 0).toNat ^^^ 2 ^ j : Nat) : Int)) = 3 := by
  have hl := sealL_len zs
  have hcb := crcL_bounds h
  obtain ⟨x, hx⟩ : ∃ x, x = ((((sealL zs).getD i 0).toNat ^^^ 2 ^ j : Nat) : Int) := ⟨_, rfl⟩
  rw [← hx]
  have hL : ((sealL zs).set i x).length = zs.length + 4 := by rw [List.length_set, hl]
  unfold openE
  rw [hL, if_neg (by omega), Nat.add_sub_cancel]
  by_cases hlt : i < zs.length
  · have e : (sealL zs).set i x = zs.set i x ++ be4 (crcL zs) := by unfold sealL; rw [List.set_append, if_pos hlt]
    have e1 : ((sealL zs).set i x).take zs.length = zs.set i x := by rw [e, List.take_append_of_le_length (by simp), List.take_of_length_le (by simp)]
    have e2 : ((sealL zs).set i x).drop zs.length = be4 (crcL zs) := by rw [e, List.drop_append_of_le_length (by simp), List.drop_of_length_le (by simp)]; simp
    rw [e1, e2, num4_be4 hcb.1 hcb.2, if_neg ?_]
    have hg : (sealL zs).getD i 0 = zs.getD i 0 := by unfold sealL; simp [List.getElem?_append, hlt]
    have hzi : zs.getD i 0 = zs[i] := by simp [hlt]
    have hxb : 0 ≤ x ∧ x ≤ 255 := by
      have hb := h _ (List.getElem_mem hlt)
      have : (zs.getD i 0).toNat ^^^ 2 ^ j < 2 ^ 8 := Nat.xor_lt_two_pow (by rw [hzi]; omega) (Nat.pow_lt_pow_right (by omega) hj)
      rw [hx, hg]
      omega
    have hzs' : ∀ b ∈ zs.set i x, 0 ≤ b ∧ b ≤ 255 := fun b hb => by
      rcases List.mem_or_eq_of_mem_set hb with hb | rfl
      · exact h b hb
      · exact hxb
    have en : nats (zs.set i x) = (nats zs).set i ((nats zs).getD i 0 ^^^ 2 ^ j) := by
      unfold nats
      rw [List.map_set]
      congr 1
      rw [hx, hg]
      simp [hlt]
    have ea : crcL (zs.set i x) = (crcN (nats (zs.set i x)) : Int) := by rw [← crcL_nat _ (nats_lt hzs'), nats_back hzs']
    have eb : crcL zs = (crcN (nats zs) : Int) := by rw [← crcL_nat _ (nats_lt h), nats_back h]
    rw [ea, eb, en]
    have := crcN_bit (l := nats zs) (i := i) (j := j) (nats_lt h) (by simpa [nats] using hlt) hj
    omega
  · have e : (sealL zs).set i x = zs ++ (be4 (crcL zs)).set (i - zs.length) x := by unfold sealL; rw [List.set_append, if_neg hlt]
    have e1 : ((sealL zs).set i x).take zs.length = zs := by rw [e]; simp
    have e2 : ((sealL zs).set i x).drop zs.length = (be4 (crcL zs)).set (i - zs.length) x := by rw [e]; simp
    rw [e1, e2, if_neg ?_]
    intro hc
    have hk : i - zs.length < (be4 (crcL zs)).length := by simp [be4]; omega
    have hg : (sealL zs).getD i 0 = (be4 (crcL zs)).getD (i - zs.length) 0 := by unfold sealL; simp [List.getElem?_append, hlt]
    generalize i - zs.length = k at *
    have hold : 0 ≤ (be4 (crcL zs)).getD k 0 ∧ (be4 (crcL zs)).getD k 0 ≤ 255 := by
      have : (be4 (crcL zs)).getD k 0 = (be4 (crcL zs))[k] := by simp [hk]
      rw [this]
      exact be4_byte _ _ (List.getElem_mem hk)
    have hxb : 0 ≤ x ∧ x ≤ 255 := by
      have : ((be4 (crcL zs)).getD k 0).toNat ^^^ 2 ^ j < 2 ^ 8 := Nat.xor_lt_two_pow (by omega) (Nat.pow_lt_pow_right (by omega) hj)
      rw [hx, hg]
      omega
    have hb' : ∀ b ∈ (be4 (crcL zs)).set k x, 0 ≤ b ∧ b ≤ 255 := fun b hb => by
      rcases List.mem_or_eq_of_mem_set hb with hb | rfl
      · exact be4_byte _ b hb
      · exact hxb
    have he := be4_num4 (l := (be4 (crcL zs)).set k x) (by rw [List.length_set]; rfl) hb'
    rw [← hc] at he
    have h1 : (be4 (crcL zs)).getD k 0 = ((be4 (crcL zs)).set k x).getD k 0 := by rw [← he]
    have h2 : ((be4 (crcL zs)).set k x).getD k 0 = x := by simp [hk]
    rw [h2, hx, hg] at h1
    have h3 := xor_bit_ne ((be4 (crcL zs)).getD k 0).toNat j
    omega
theorem dec_uvF : ∀ (f k : Nat) (X K : Int) (rest : List Int), 0 ≤ K → K < 2 * 128 ^ f → k + f = 9 → (K ≠ 0 ∨ k = 0) →
    dec X k (uvF f K ++ rest) = (X + K * 2 ^ (7 * k), (k : Int) + (uvF f K).length, 0) := by
  intro f
  induction f with
  | zero =>
    intro k X K rest h0 h1 hk hz
    obtain rfl : k = 9 := by omega
    have hK : K = 0 ∨ K = 1 := by simp at h1; omega
    rcases hK with rfl | rfl
    · omega
    · simp [uvF, dec]
  | succ f ih =>
    intro k X K rest h0 h1 hk hz
    have k9 : ¬ k = 9 := by omega
    by_cases h : K < 128
    · have hc : ¬ 128 ≤ K := by omega
      have hz' : ¬ (K = 0 ∧ 0 < k) := by omega
      have hm : K % 128 = K := by omega
      rw [uvF_small _ h]
      simp only [List.cons_append, List.nil_append, dec, k9, false_and, if_false, hc, hz', hm, List.length_cons, List.length_nil]
      simp
    · obtain ⟨g, hg, hr⟩ := room_step (show 128 ≤ K by omega) h1
      cases hg
      have hc : 128 ≤ K % 128 + 128 := by omega
      have hm : (K % 128 + 128) % 128 = K % 128 := by omega
      rw [uvF_more _ (show 128 ≤ K by omega)]
      simp only [List.cons_append, dec, k9, false_and, if_false, hc, if_true, hm]
      rw [ih (k + 1) _ (K / 128) rest (by omega) hr (by omega) (by omega)]
      have e : (2 : Int) ^ (7 * (k + 1)) = 128 * 2 ^ (7 * k) := (pow7 (show k ≤ 8 by omega)).1
      have e2 : X + K % 128 * 2 ^ (7 * k) + K / 128 * 2 ^ (7 * (k + 1)) = X + K * 2 ^ (7 * k) := by
        rw [e]
        generalize (2 : Int) ^ (7 * k) = p
        have hd : K = K % 128 + 128 * (K / 128) := by omega
        generalize K % 128 = r at *
        generalize K / 128 = q at *
        subst hd
        rw [Int.add_mul, Int.add_assoc, Int.mul_assoc]
        congr 2
        rw [Int.mul_left_comm]
      rw [e2]
      simp
      omega
theorem dec_uv {x : Int} (h0 : 0 ≤ x) (h1 : x ≤ 18446744073709551615) (rest : List Int) : dec 0 0 (uv x ++ rest) = (x, ((uv x).length : Int), 0) := by
  have := dec_uvF 9 0 0 x rest h0 (room_start h1) rfl (.inr rfl)
  unfold uv
  rw [this]
  simp
end Go.Proofs.YtafopokcfkgjiaaDoor
