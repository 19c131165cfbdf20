/-
  What pack.IntOf and the document's own answers (terrierref1: Uvar, Var, Int, IntOf) give, whatever the world.
-/
import Derived.Test.YtongdccpoefnlaaDoorAwake
namespace Go.Proofs.YtongdccpoefnlaaDoor
open Go.RowKit Go.PlainAid

/-- The number with a sign that was written as u. -/
def zag (u : Int) : Int := if u % 2 = 1 then -(u / 2) - 1 else u / 2

theorem dec_bounds : ∀ (l : List Int) (X : Int) (k : Nat), 0 ≤ X → X < 2 ^ (7 * k) → k ≤ 9 → (∀ b ∈ l, 0 ≤ b) → 0 ≤ (dec X k l).1 ∧ (dec X k l).1 ≤ 18446744073709551615
  | [], X, k, _, _, _, _ => by simp [dec]
  | c :: l, X, k, h0, h1, hk, hb => by
    unfold dec
    by_cases a : k = 9 ∧ 1 < c
    · rw [if_pos a]; simp
    · rw [if_neg a]
      by_cases k9 : k = 9
      · subst k9
        have hc : c ≤ 1 := by omega
        have hc0 := hb c (by simp)
        have e : (2 : Int) ^ (7 * 9) = 9223372036854775808 := by decide
        rw [if_neg (by omega), e]
        rw [e] at h1
        split
        · simp
        · simp only; omega
      · obtain ⟨_, n0, n1⟩ := or_more (c := c) h0 h1 (show k ≤ 8 by omega)
        have e := (pow7 (show k ≤ 8 by omega))
        split
        · exact dec_bounds l _ _ n0 n1 (by omega) (fun b h => hb b (by simp [h]))
        · split
          · simp
          · simp only; omega
theorem dec_err : ∀ (l : List Int) (X : Int) (k : Nat), (dec X k l).2.2 ≠ 0 → (dec X k l).1 = 0 ∧ (dec X k l).2.1 = 0
  | [], X, k, _ => by simp [dec]
  | c :: l, X, k, h => by
    unfold dec at h ⊢
    split
    · simp
    · rename_i a
      rw [if_neg a] at h
      split
      · rename_i b
        rw [if_pos b] at h
        exact dec_err l _ _ h
      · rename_i b
        rw [if_neg b] at h
        split
        · simp
        · rename_i c'
          rw [if_neg c'] at h
          simp at h

theorem i64_xor0 (a : Nat) (ha : a < 9223372036854775808) : bits .xor .i64 (a : Int) 0 = (a : Int) := by
  show IntKind.i64.wrap ((BitVec.ofInt 64 (a : Int) ^^^ BitVec.ofInt 64 0).toNat : Int) = _
  have h1 : BitVec.ofInt 64 0 = 0#64 := by decide
  rw [h1, BitVec.xor_zero, ofInt_u64 a (by omega)]
  simp [IntKind.wrap, IntKind.bits, IntKind.signed]
  omega
theorem i64_xorm (a : Nat) (ha : a < 9223372036854775808) : bits .xor .i64 (a : Int) (-1) = -(a : Int) - 1 := by
  show IntKind.i64.wrap ((BitVec.ofInt 64 (a : Int) ^^^ BitVec.ofInt 64 (-1)).toNat : Int) = _
  have h1 : BitVec.ofInt 64 (-1) = BitVec.allOnes 64 := by decide
  rw [h1, BitVec.xor_allOnes, BitVec.toNat_not, ofInt_u64 a (by omega)]
  simp [IntKind.wrap, IntKind.bits, IntKind.signed]
  omega
theorem mask127 {c : Int} (h₀ : 0 ≤ c) (h₁ : c ≤ 255) : bits .and .u8 c 127 = c % 128 := by
  obtain ⟨n, rfl⟩ := Int.eq_ofNat_of_zero_le h₀
  have h4 : n < 256 := by omega
  have : ∀ n : Nat, n < 256 → bits .and .u8 (n : Int) 127 = (n : Int) % 128 := by decide +kernel
  exact this n h4
theorem intOf_has {w : World} {v : Value} {zs : List Int} (h : Has w v zs) :
    Calls Tryd.prog 12 #[v] w fun e w' => e = .returned (.tuple #[.int .i64 (zag (dec 0 0 zs).1), .int .i64 (dec 0 0 zs).2.1, .int .i64 (dec 0 0 zs).2.2]) ∧ w' = w := by
  have hb := dec_bounds zs 0 0 (by omega) (by decide) (by omega) (fun b hb => by
    obtain ⟨j, hj, rfl⟩ := List.getElem_of_mem hb
    have := h.1 j
    rw [List.getElem?_eq_getElem hj] at this
    exact this.1)
  have hc := var_has h
  generalize (dec 0 0 zs).1 = u at *
  generalize (dec 0 0 zs).2.1 = n at *
  generalize (dec 0 0 zs).2.2 = er at *
  clear h
  have HC : Hid (Calls Tryd.prog 16 #[v] w fun e w' => e = .returned (.tuple #[.int .u64 u, .int .i64 n, .int .i64 er]) ∧ w' = w) := hc
  clear hc
  have ha := and_one_u64 u hb.1 hb.2
  rcases (show u % 2 = 0 ∨ u % 2 = 1 by omega) with h2 | h2
  · rw [h2] at ha
    have hz : zag u = u / 2 := by simp [zag, h2]
    have hx : bits .xor .i64 (u / 2) 0 = u / 2 := by
      obtain ⟨n, hn⟩ := Int.eq_ofNat_of_zero_le (show 0 ≤ u / 2 by omega)
      rw [hn]
      exact i64_xor0 n (by omega)
    have HZ : Hid (zag u = u / 2) := hz
    clear hz h2
    go_enter Tryd.func12, Tryd.ntmps12
    go_wp2_with (go_at_call 16; refine HC.out.mono ?_; rintro e w1 ⟨rfl, rfl⟩)
    go_ret3
    exact ⟨by rw [HZ.out]; rfl, rfl⟩
  · rw [h2] at ha
    have hz : zag u = -(u / 2) - 1 := by simp [zag, h2]
    have hx : bits .xor .i64 (u / 2) (-1) = -(u / 2) - 1 := by
      obtain ⟨n, hn⟩ := Int.eq_ofNat_of_zero_le (show 0 ≤ u / 2 by omega)
      rw [hn]
      exact i64_xorm n (by omega)
    have HZ : Hid (zag u = -(u / 2) - 1) := hz
    clear hz h2
    go_enter Tryd.func12, Tryd.ntmps12
    go_wp2_with (go_at_call 16; refine HC.out.mono ?_; rintro e w1 ⟨rfl, rfl⟩)
    go_ret3
    exact ⟨by rw [HZ.out]; rfl, rfl⟩

/-- The string s is the bytes zs. -/
def Str (s : ByteArray) (zs : List Int) : Prop := s = strOfNums zs ∧ (∀ b ∈ zs, 0 ≤ b ∧ b ≤ 255) ∧ zs.length ≤ 281474976710656
theorem Str.size {s : ByteArray} {zs : List Int} (h : Str s zs) : s.size = zs.length := by rw [h.1, strOfNums_size]
theorem Str.at {s : ByteArray} {zs : List Int} (h : Str s zs) (k : Nat) (hk : k < s.size) : ((s[k]'hk).toNat : Int) = zs.getD k 0 := by
  obtain ⟨rfl, hr, _⟩ := h
  have hk' : k < zs.length := by simpa [strOfNums_size] using hk
  have hb := hr _ (List.getElem_mem hk')
  have e : (strOfNums zs)[k] = UInt8.ofNat (zs[k]).toNat := by
    show (strOfNums zs).data[k] = _
    simp [strOfNums]
  rw [e]
  simp [hk']
  omega

set_option maxRecDepth 4000 in
set_option maxHeartbeats 400000 in
theorem refVar_any {s : ByteArray} {zs : List Int} (h : Str s zs) (w : World) :
    Calls Tryd.prog 17 #[.string s] w fun e w' => e = .returned (.tuple #[.int .u64 (dec 0 0 zs).1, .int .i64 (dec 0 0 zs).2.1, .int .i64 (dec 0 0 zs).2.2]) ∧ w' = w := by
  have hsz := h.size
  have hmax := h.2.2
  have hat := h.at
  have hr := range_of h.2.1
  clear h
  have HZ : Hid (zs.length = s.size) := by show _ = _; omega
  have hm : s.size ≤ 281474976710656 := by omega
  clear hsz hmax
  go_enter Tryd.func17, Tryd.ntmps17
  go_wp2
  go_loop [5, 6] (fun x i => ∃ (k : Nat) (X : Int), k ≤ s.size ∧ k ≤ 9 ∧ i = .int .i64 k ∧ x = .int .u64 X ∧ 0 ≤ X ∧ X < 2 ^ (7 * k) ∧ dec 0 0 zs = dec X k (zs.drop k)) (fun _ i => 10 - (intOf i).toNat)
  case atStart => exact ⟨0, 0, by omega, by omega, rfl, rfl, by omega, by decide, rfl⟩
  case round =>
    obtain ⟨k, X, hk, hk9, rfl, rfl, hX0, hX1, hd⟩ := hrel
    by_cases hlt : k < s.size
    · obtain ⟨c, hcc⟩ : ∃ c, c = zs.getD k 0 := ⟨_, rfl⟩
      have hg : ((s[k]'hlt).toNat : Int) = c := by rw [hcc]; exact hat k hlt
      have hrk : 0 ≤ c ∧ c ≤ 255 := by have := hr k; rw [hcc]; simpa using this
      have HD : Hid (dec 0 0 zs = dec X k (c :: zs.drop (k + 1))) := by rw [hd, drop_at hcc (by rw [HZ.out]; exact hlt)]; exact rfl
      have hmask : bits .and .u8 c 127 = c % 128 := mask127 hrk.1 hrk.2
      clear hd hat hr hcc
      by_cases hk9' : k = 9
      · subst hk9'
        rcases (show 1 < c ∨ c = 0 ∨ c = 1 by omega) with h | rfl | rfl
        · have hv : dec 0 0 zs = (0, 0, 5) := by rw [HD.out]; simp [dec, h]
          clear HD
          go_wp2
          go_ret3
          exact ⟨rfl, rfl⟩
        · have hv : dec 0 0 zs = (0, 0, 3) := by rw [HD.out]; simp [dec]
          clear HD
          go_wp2
          go_ret3
          exact ⟨rfl, rfl⟩
        · have hv : dec 0 0 zs = (X + 1 * 2 ^ 63, 10, 0) := by rw [HD.out]; simp [dec]
          have ho : bits .or .u64 X (1 * 2 ^ 63) = X + 1 * 2 ^ 63 := or_add hX0 hX1 (by omega) (by have : (2 : Int) ^ (7 * 9) = 9223372036854775808 := by decide
                                                                                                   omega)
          have HV : Hid (dec 0 0 zs = (bits .or .u64 X 9223372036854775808, 10, 0)) := by
            show _ = _
            rw [hv, ← ho]
            rfl
          clear HD hv ho
          go_wp2
          go_ret3
          refine ⟨?_, rfl⟩
          rw [HV.out]
          rfl
      · obtain ⟨ho, hn0, hn1⟩ := or_more (c := c) hX0 hX1 (show k ≤ 8 by omega)
        rcases (show 128 ≤ c ∨ (c = 0 ∧ 0 < k) ∨ (c = 0 ∧ k = 0) ∨ (0 < c ∧ c < 128) by omega) with h | ⟨rfl, h⟩ | ⟨rfl, rfl⟩ | ⟨h, h'⟩
        · have hv : dec 0 0 zs = dec (X + c % 128 * 2 ^ (7 * k)) (k + 1) (zs.drop (k + 1)) := by rw [HD.out]; simp [dec, h, hk9']
          have HV : Hid (dec 0 0 zs = dec (X + c % 128 * 2 ^ (7 * k)) (k + 1) (zs.drop (k + 1))) := hv
          clear HD hv
          go_wp2
          go_round
          case rel => exact ⟨k + 1, _, by omega, by omega, by go_num, rfl, hn0, hn1, HV.out⟩
          case measure => simp [intOf]; omega
        · have hv : dec 0 0 zs = (0, 0, 3) := by rw [HD.out]; simp [dec, h]
          clear HD
          go_wp2
          go_ret3
          exact ⟨rfl, rfl⟩
        · have hX : X = 0 := by simp at hX1; omega
          subst hX
          have hv : dec 0 0 zs = (0, 1, 0) := by rw [HD.out]; simp [dec]
          clear HD ho hn0 hn1 hX1 hX0 hk9'
          go_wp2
          go_ret3
          exact ⟨rfl, rfl⟩
        · have hv : dec 0 0 zs = (X + c % 128 * 2 ^ (7 * k), ((k + 1 : Nat) : Int), 0) := by
            rw [HD.out]
            have h1 : ¬ c = 0 := by omega
            have h2 : ¬ 128 ≤ c := by omega
            simp [dec, h1, h2, hk9']
          clear HD
          go_wp2
          go_ret3
          exact ⟨rfl, rfl⟩
    · have hv : dec 0 0 zs = (0, 0, 4) := by rw [hd, List.drop_eq_nil_of_le (by rw [HZ.out]; omega)]; rfl
      have hks : ((k : Int) == (s.size : Int)) = true := by have : k = s.size := by omega
                                                            simp [this]
      clear hd hat hr
      go_wp2
      go_ret3
      exact ⟨rfl, rfl⟩

theorem refIntOf_any {s : ByteArray} {zs : List Int} (h : Str s zs) (w : World) :
    Calls Tryd.prog 18 #[.string s] w fun e w' => e = .returned (.tuple #[.int .i64 (zag (dec 0 0 zs).1), .int .i64 (dec 0 0 zs).2.1, .int .i64 (dec 0 0 zs).2.2]) ∧ w' = w := by
  have hb := dec_bounds zs 0 0 (by omega) (by decide) (by omega) (fun b hb => (h.2.1 b hb).1)
  have he := dec_err zs 0 0
  have hc := refVar_any h w
  generalize (dec 0 0 zs).1 = u at *
  generalize (dec 0 0 zs).2.1 = n at *
  generalize (dec 0 0 zs).2.2 = er at *
  clear h
  have HC : Hid (Calls Tryd.prog 17 #[.string s] w fun e w' => e = .returned (.tuple #[.int .u64 u, .int .i64 n, .int .i64 er]) ∧ w' = w) := hc
  clear hc
  by_cases h0 : er = 0
  · subst h0
    clear he
    have ha := and_one_u64 u hb.1 hb.2
    rcases (show u % 2 = 0 ∨ u % 2 = 1 by omega) with h2 | h2
    · rw [h2] at ha
      have HZ : Hid (zag u = u / 2) := by show _ = _; simp [zag, h2]
      clear h2
      go_enter Tryd.func18, Tryd.ntmps18
      go_wp2_with (go_at_call 17; refine HC.out.mono ?_; rintro e w1 ⟨rfl, rfl⟩)
      go_ret3
      exact ⟨by rw [HZ.out]; rfl, rfl⟩
    · rw [h2] at ha
      have HZ : Hid (zag u = -(u / 2) - 1) := by show _ = _; simp [zag, h2]
      clear h2
      go_enter Tryd.func18, Tryd.ntmps18
      go_wp2_with (go_at_call 17; refine HC.out.mono ?_; rintro e w1 ⟨rfl, rfl⟩)
      go_ret3
      exact ⟨by rw [HZ.out]; rfl, rfl⟩
  · obtain ⟨rfl, rfl⟩ := he h0
    clear he
    have hne : (er != 0) = true := by simpa using h0
    go_enter Tryd.func18, Tryd.ntmps18
    go_wp2_with (go_at_call 17; refine HC.out.mono ?_; rintro e w1 ⟨rfl, rfl⟩)
    go_ret3
    exact ⟨rfl, rfl⟩

/-- The string that a slice of bytes becomes. -/
theorem Has.str {w : World} {v : Value} {zs : List Int} (h : Has w v zs) : Str (strOfNums zs) zs :=
  ⟨rfl, fun b hb => by
    obtain ⟨j, hj, rfl⟩ := List.getElem_of_mem hb
    have := h.1 j
    rwa [List.getElem?_eq_getElem hj] at this, by have := h.2.1; omega⟩
end Go.Proofs.YtongdccpoefnlaaDoor
