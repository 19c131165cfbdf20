/-
  PackSeals: the plain facts: the sum bit by bit; no bit can be turned unseen; four bytes, the highest first.
-/
import Derived.Test.YtongdccpoefnlaaDoorSumsPlain
namespace Go.Proofs.YtongdccpoefnlaaDoor
open Go.RowKit Go.PlainAid

/-- One bit's step of the sum. -/
def bitN (s : Nat) : Nat := (s / 2) ^^^ (if s % 2 = 1 then 3988292384 else 0)
def bitsN : Nat → Nat → Nat
  | 0, s => s
  | k + 1, s => bitN (bitsN k s)
theorem bitN_lt {s : Nat} (h : s < 2 ^ 32) : bitN s < 2 ^ 32 := by
  unfold bitN
  exact Nat.xor_lt_two_pow (by omega) (by split <;> decide)
theorem bitsN_lt (k : Nat) {s : Nat} (h : s < 2 ^ 32) : bitsN k s < 2 ^ 32 := by
  induction k with
  | zero => exact h
  | succ k ih => exact bitN_lt ih
theorem bitN_xor (s t : Nat) : bitN (s ^^^ t) = bitN s ^^^ bitN t := by
  unfold bitN
  have e1 : (s ^^^ t) / 2 = (s / 2) ^^^ (t / 2) := by
    have := Nat.shiftRight_xor_distrib (a := s) (b := t) (i := 1)
    simpa [Nat.shiftRight_eq_div_pow] using this
  have e2 : (s ^^^ t) % 2 = (s % 2) ^^^ (t % 2) := Nat.xor_mod_two_pow (a := s) (b := t) (n := 1)
  rw [e1, e2]
  have h1 : s % 2 = 0 ∨ s % 2 = 1 := by omega
  have h2 : t % 2 = 0 ∨ t % 2 = 1 := by omega
  rcases h1 with h1 | h1 <;> rcases h2 with h2 | h2 <;> rw [h1, h2]
  · simp
  · simp [Nat.xor_assoc]
  · simp only [Nat.xor_zero, if_true]
    simp
    ac_rfl
  · simp
    generalize (3988292384 : Nat) = p
    have : s / 2 ^^^ p ^^^ (t / 2 ^^^ p) = s / 2 ^^^ t / 2 ^^^ (p ^^^ p) := by ac_rfl
    rw [this, Nat.xor_self, Nat.xor_zero]
theorem bitsN_xor (k s t : Nat) : bitsN k (s ^^^ t) = bitsN k s ^^^ bitsN k t := by
  induction k with
  | zero => rfl
  | succ k ih => simp only [bitsN]; rw [ih, bitN_xor]
theorem bitN_double (m : Nat) : bitN (2 * m) = m := by
  unfold bitN
  have e1 : 2 * m / 2 = m := by omega
  have e2 : ¬ 2 * m % 2 = 1 := by omega
  rw [e1, if_neg e2, Nat.xor_zero]
theorem bits4 (s : Nat) : bitsN 4 s = halfN s := by
  have hr : ∀ r, r < 16 → bitsN 4 r = tabN.getD r 0 := by decide
  have hq : bitsN 4 (16 * (s / 16)) = s / 16 := by
    have e : 16 * (s / 16) = 2 * (2 * (2 * (2 * (s / 16)))) := by omega
    rw [e]
    simp only [bitsN, bitN_double]
  have hs : s = (16 * (s / 16)) ^^^ (s % 16) := by
    apply Nat.eq_of_testBit_eq
    intro i
    rw [Nat.testBit_xor, show (16 : Nat) = 2 ^ 4 from rfl, Nat.testBit_two_pow_mul, Nat.testBit_mod_two_pow, Nat.testBit_div_two_pow]
    by_cases h : 4 ≤ i
    · have h2 : ¬ i < 4 := by omega
      have h3 : 4 + (i - 4) = i := by omega
      simp [h, h2]
    · have h2 : i < 4 := by omega
      simp [h, h2]
  conv => lhs; rw [hs]
  rw [bitsN_xor, hq, hr _ (Nat.mod_lt _ (by decide))]
  rfl
theorem bitsN_add (a b s : Nat) : bitsN (a + b) s = bitsN a (bitsN b s) := by
  induction a with
  | zero => simp [bitsN]
  | succ a ih => rw [Nat.succ_add]; simp only [bitsN]; rw [ih]
theorem bits8 (s : Nat) : bitsN 8 s = halfN (halfN s) := by
  rw [show 8 = 4 + 4 from rfl, bitsN_add, bits4, bits4]

theorem halfN_zero {u : Nat} (h : u < 2 ^ 32) (h0 : halfN u = 0) : u = 0 := by
  unfold halfN at h0
  have e : u / 16 = tabN.getD (u % 16) 0 := by
    have := congrArg (· ^^^ tabN.getD (u % 16) 0) h0
    simpa [Nat.xor_assoc] using this
  have hm : u % 16 < 16 := Nat.mod_lt _ (by decide)
  have big : ∀ i, i < 16 → i ≠ 0 → 268435456 ≤ tabN.getD i 0 := by decide
  by_cases hi : u % 16 = 0
  · rw [hi] at e
    have : tabN.getD 0 0 = 0 := rfl
    omega
  · have := big _ hm hi
    omega
theorem stepN_inj {s t c : Nat} (hs : s < 2 ^ 32) (ht : t < 2 ^ 32) (h : stepN s c = stepN t c) : s = t := by
  have e : stepN (s ^^^ t) (c ^^^ c) = 0 := by rw [stepN_xor, h, Nat.xor_self]
  rw [Nat.xor_self] at e
  unfold stepN at e
  rw [Nat.xor_zero] at e
  have hx : s ^^^ t < 2 ^ 32 := Nat.xor_lt_two_pow hs ht
  have h1 := halfN_zero (halfN_lt hx) e
  have h2 := halfN_zero hx h1
  have := congrArg (· ^^^ t) h2
  simpa [Nat.xor_assoc] using this
theorem sumN_inj : ∀ (l : List Nat) (s t : Nat), s < 2 ^ 32 → t < 2 ^ 32 → (∀ c ∈ l, c < 256) → sumN s l = sumN t l → s = t
  | [], _, _, _, _, _, h => h
  | c :: l, s, t, hs, ht, hl, h => by
    have hc := hl c (by simp)
    exact stepN_inj hs ht (sumN_inj l _ _ (stepN_lt hs hc) (stepN_lt ht hc) (fun d hd => hl d (by simp [hd])) h)
theorem stepN_bit {p x j : Nat} (hj : j < 8) : stepN p (x ^^^ 2 ^ j) ≠ stepN p x := by
  intro h
  have e : stepN (p ^^^ p) (x ^^^ 2 ^ j ^^^ x) = 0 := by rw [stepN_xor, h, Nat.xor_self]
  have e2 : x ^^^ 2 ^ j ^^^ x = 2 ^ j := by
    have : x ^^^ 2 ^ j ^^^ x = 2 ^ j ^^^ (x ^^^ x) := by ac_rfl
    rw [this, Nat.xor_self, Nat.xor_zero]
  rw [Nat.xor_self, e2] at e
  have all : ∀ j, j < 8 → stepN 0 (2 ^ j) ≠ 0 := by decide
  exact all j hj e
theorem sumN_append (s : Nat) (a b : List Nat) : sumN s (a ++ b) = sumN (sumN s a) b := by simp [sumN]
/-- A bit that is turned changes the sum. -/
theorem crcN_bit {l : List Nat} {i j : Nat} (hl : ∀ c ∈ l, c < 256) (hi : i < l.length) (hj : j < 8) : crcN (l.set i (l.getD i 0 ^^^ 2 ^ j)) ≠ crcN l := by
  intro h
  have e0 : sumN 4294967295 (l.set i (l.getD i 0 ^^^ 2 ^ j)) = sumN 4294967295 l := by
    unfold crcN at h
    have := congrArg (4294967295 ^^^ ·) h
    simpa [← Nat.xor_assoc] using this
  have e1 : l = l.take i ++ l.getD i 0 :: l.drop (i + 1) := by
    conv => lhs; rw [← List.take_append_drop i l, List.drop_eq_getElem_cons hi]
    simp [hi]
  have e2 : l.set i (l.getD i 0 ^^^ 2 ^ j) = l.take i ++ (l.getD i 0 ^^^ 2 ^ j) :: l.drop (i + 1) := List.set_eq_take_append_cons_drop.trans (by rw [if_pos hi])
  have hx : l.getD i 0 < 256 := hl _ (by simp [hi])
  have hx' : l.getD i 0 ^^^ 2 ^ j < 2 ^ 8 := Nat.xor_lt_two_pow (by omega) (Nat.pow_lt_pow_right (by omega) hj)
  rw [e2] at e0
  conv at e0 => rhs; rw [e1]
  rw [sumN_append, sumN_append] at e0
  have hp := sumN_lt (l.take i) 4294967295 (by decide) (fun c hc => hl c (List.mem_of_mem_take hc))
  generalize sumN 4294967295 (l.take i) = p at *
  have e3 : sumN (stepN p (l.getD i 0 ^^^ 2 ^ j)) (l.drop (i + 1)) = sumN (stepN p (l.getD i 0)) (l.drop (i + 1)) := e0
  exact stepN_bit hj (sumN_inj _ _ _ (stepN_lt hp (by omega)) (stepN_lt hp hx) (fun c hc => hl c (List.mem_of_mem_drop hc)) e3)

/-- A number's four bytes, the highest first; the number that four bytes are. -/
def be4 (c : Int) : List Int := [c / 16777216 % 256, c / 65536 % 256, c / 256 % 256, c % 256]
def num4 (l : List Int) : Int := l.getD 0 0 * 16777216 + l.getD 1 0 * 65536 + l.getD 2 0 * 256 + l.getD 3 0
theorem be4_byte (c : Int) : ∀ b ∈ be4 c, 0 ≤ b ∧ b ≤ 255 := by
  intro b hb
  simp [be4] at hb
  omega
theorem num4_be4 {c : Int} (h0 : 0 ≤ c) (h1 : c ≤ 4294967295) : num4 (be4 c) = c := by simp [num4, be4]; omega
theorem be4_num4 {l : List Int} (hl : l.length = 4) (hb : ∀ b ∈ l, 0 ≤ b ∧ b ≤ 255) : be4 (num4 l) = l := by
  match l, hl with
  | [a, b, c, d], _ =>
    have h1 := hb a (by simp)
    have h2 := hb b (by simp)
    have h3 := hb c (by simp)
    have h4 := hb d (by simp)
    simp [num4, be4]
    omega
theorem crcL_bounds {zs : List Int} (h : ∀ b ∈ zs, 0 ≤ b ∧ b ≤ 255) : 0 ≤ crcL zs ∧ crcL zs ≤ 4294967295 := by
  have e : crcL zs = (crcN (nats zs) : Int) := by rw [← crcL_nat _ (nats_lt h), nats_back h]
  have := crcN_lt _ (nats_lt h)
  omega
/-- What Open answers: the error, and what was sealed. -/
def openE (zs : List Int) : Int := if zs.length < 4 then 4 else if crcL (zs.take (zs.length - 4)) = num4 (zs.drop (zs.length - 4)) then 0 else 3
def openB (zs : List Int) : List Int := if openE zs = 0 then zs.take (zs.length - 4) else []
def sealL (zs : List Int) : List Int := zs ++ be4 (crcL zs)
theorem sealL_len (zs : List Int) : (sealL zs).length = zs.length + 4 := by simp [sealL, be4]
theorem sealL_byte {zs : List Int} (h : ∀ b ∈ zs, 0 ≤ b ∧ b ≤ 255) : ∀ b ∈ sealL zs, 0 ≤ b ∧ b ≤ 255 := by
  intro b hb
  rcases List.mem_append.1 hb with hb | hb
  · exact h b hb
  · exact be4_byte _ b hb
theorem open_seal {zs : List Int} (h : ∀ b ∈ zs, 0 ≤ b ∧ b ≤ 255) : openE (sealL zs) = 0 ∧ openB (sealL zs) = zs := by
  have hl := sealL_len zs
  have e1 : (sealL zs).take ((sealL zs).length - 4) = zs := by rw [hl]; simp [sealL]
  have e2 : (sealL zs).drop ((sealL zs).length - 4) = be4 (crcL zs) := by rw [hl]; simp [sealL]
  have hb := crcL_bounds h
  have e : openE (sealL zs) = 0 := by
    unfold openE
    rw [if_neg (by omega), e1, e2, num4_be4 hb.1 hb.2, if_pos rfl]
  exact ⟨e, by unfold openB; rw [if_pos e, e1]⟩
theorem xor_bit_ne (n j : Nat) : n ^^^ 2 ^ j ≠ n := by
  intro h
  have := congrArg (n ^^^ ·) h
  simp [← Nat.xor_assoc] at this
/-- With a bit turned it is refused. -/
theorem open_flip {zs : List Int} (h : ∀ b ∈ zs, 0 ≤ b ∧ b ≤ 255) {i j : Nat} (hi : i < zs.length + 4) (hj : j < 8) : openE ((sealL zs).set i ((((sealL zs).getD i 0).toNat ^^^ 2 ^ j : Nat) : Int)) = 3 := by
  have hl := sealL_len zs
  have hcb := crcL_bounds h
  obtain ⟨x, hx⟩ : ∃ x, x = ((((sealL zs).getD i 0).toNat ^^^ 2 ^ j : Nat) : Int) := ⟨_, rfl⟩
  rw [← hx]
  have hL : ((sealL zs).set i x).length = zs.length + 4 := by rw [List.length_set, hl]
  unfold openE
  rw [hL, if_neg (by omega), Nat.add_sub_cancel]
  by_cases hlt : i < zs.length
  · have e : (sealL zs).set i x = zs.set i x ++ be4 (crcL zs) := by unfold sealL; rw [List.set_append, if_pos hlt]
    have e1 : ((sealL zs).set i x).take zs.length = zs.set i x := by rw [e, List.take_append_of_le_length (by simp), List.take_of_length_le (by simp)]
    have e2 : ((sealL zs).set i x).drop zs.length = be4 (crcL zs) := by rw [e, List.drop_append_of_le_length (by simp), List.drop_of_length_le (by simp)]; simp
    rw [e1, e2, num4_be4 hcb.1 hcb.2, if_neg ?_]
    have hg : (sealL zs).getD i 0 = zs.getD i 0 := by unfold sealL; simp [List.getElem?_append, hlt]
    have hzi : zs.getD i 0 = zs[i] := by simp [hlt]
    have hxb : 0 ≤ x ∧ x ≤ 255 := by
      have hb := h _ (List.getElem_mem hlt)
      have : (zs.getD i 0).toNat ^^^ 2 ^ j < 2 ^ 8 := Nat.xor_lt_two_pow (by rw [hzi]; omega) (Nat.pow_lt_pow_right (by omega) hj)
      rw [hx, hg]
      omega
    have hzs' : ∀ b ∈ zs.set i x, 0 ≤ b ∧ b ≤ 255 := fun b hb => by
      rcases List.mem_or_eq_of_mem_set hb with hb | rfl
      · exact h b hb
      · exact hxb
    have en : nats (zs.set i x) = (nats zs).set i ((nats zs).getD i 0 ^^^ 2 ^ j) := by
      unfold nats
      rw [List.map_set]
      congr 1
      rw [hx, hg]
      simp [hlt]
    have ea : crcL (zs.set i x) = (crcN (nats (zs.set i x)) : Int) := by rw [← crcL_nat _ (nats_lt hzs'), nats_back hzs']
    have eb : crcL zs = (crcN (nats zs) : Int) := by rw [← crcL_nat _ (nats_lt h), nats_back h]
    rw [ea, eb, en]
    have := crcN_bit (l := nats zs) (i := i) (j := j) (nats_lt h) (by simpa [nats] using hlt) hj
    omega
  · have e : (sealL zs).set i x = zs ++ (be4 (crcL zs)).set (i - zs.length) x := by unfold sealL; rw [List.set_append, if_neg hlt]
    have e1 : ((sealL zs).set i x).take zs.length = zs := by rw [e]; simp
    have e2 : ((sealL zs).set i x).drop zs.length = (be4 (crcL zs)).set (i - zs.length) x := by rw [e]; simp
    rw [e1, e2, if_neg ?_]
    intro hc
    have hk : i - zs.length < (be4 (crcL zs)).length := by simp [be4]; omega
    have hg : (sealL zs).getD i 0 = (be4 (crcL zs)).getD (i - zs.length) 0 := by unfold sealL; simp [List.getElem?_append, hlt]
    generalize i - zs.length = k at *
    have hold : 0 ≤ (be4 (crcL zs)).getD k 0 ∧ (be4 (crcL zs)).getD k 0 ≤ 255 := by
      have : (be4 (crcL zs)).getD k 0 = (be4 (crcL zs))[k] := by simp [hk]
      rw [this]
      exact be4_byte _ _ (List.getElem_mem hk)
    have hxb : 0 ≤ x ∧ x ≤ 255 := by
      have : ((be4 (crcL zs)).getD k 0).toNat ^^^ 2 ^ j < 2 ^ 8 := Nat.xor_lt_two_pow (by omega) (Nat.pow_lt_pow_right (by omega) hj)
      rw [hx, hg]
      omega
    have hb' : ∀ b ∈ (be4 (crcL zs)).set k x, 0 ≤ b ∧ b ≤ 255 := fun b hb => by
      rcases List.mem_or_eq_of_mem_set hb with hb | rfl
      · exact be4_byte _ b hb
      · exact hxb
    have he := be4_num4 (l := (be4 (crcL zs)).set k x) (by rw [List.length_set]; rfl) hb'
    rw [← hc] at he
    have h1 : (be4 (crcL zs)).getD k 0 = ((be4 (crcL zs)).set k x).getD k 0 := by rw [← he]
    have h2 : ((be4 (crcL zs)).set k x).getD k 0 = x := by simp [hk]
    rw [h2, hx, hg] at h1
    have h3 := xor_bit_ne ((be4 (crcL zs)).getD k 0).toNat j
    omega
end Go.Proofs.YtongdccpoefnlaaDoor
