/-
  The sum of bytes is linear: the plain facts.
-/
import Derived.Test.YtongdccpoefnlaaDoorAwake
namespace Go.Proofs.YtongdccpoefnlaaDoor
open Go.RowKit Go.PlainAid

def tabN : List Nat := [0, 498536548, 997073096, 651767980, 1994146192, 1802195444, 1303535960, 1342533948, 3988292384, 4027552580, 3604390888, 3412177804, 2607071920, 2262029012, 2685067896, 3183342108]
def halfN (s : Nat) : Nat := (s / 16) ^^^ tabN.getD (s % 16) 0
def stepN (s c : Nat) : Nat := halfN (halfN (s ^^^ c))
def sumN (s : Nat) (l : List Nat) : Nat := l.foldl stepN s

theorem tab_lt : ∀ i, i < 16 → tabN.getD i 0 < 2 ^ 32 := by decide
theorem tab_xor : ∀ i, i < 16 → ∀ j, j < 16 → tabN.getD (i ^^^ j) 0 = tabN.getD i 0 ^^^ tabN.getD j 0 := by decide
theorem halfN_lt {s : Nat} (h : s < 2 ^ 32) : halfN s < 2 ^ 32 := Nat.xor_lt_two_pow (by omega) (tab_lt _ (Nat.mod_lt _ (by omega)))
theorem halfN_xor (s t : Nat) : halfN (s ^^^ t) = halfN s ^^^ halfN t := by
  unfold halfN
  have e1 : (s ^^^ t) / 16 = (s / 16) ^^^ (t / 16) := by
    have := Nat.shiftRight_xor_distrib (a := s) (b := t) (i := 4)
    simpa [Nat.shiftRight_eq_div_pow] using this
  have e2 : (s ^^^ t) % 16 = (s % 16) ^^^ (t % 16) := Nat.xor_mod_two_pow (a := s) (b := t) (n := 4)
  rw [e1, e2, tab_xor _ (Nat.mod_lt _ (by omega)) _ (Nat.mod_lt _ (by omega))]
  ac_rfl
theorem stepN_lt {s c : Nat} (h : s < 2 ^ 32) (hc : c < 256) : stepN s c < 2 ^ 32 := halfN_lt (halfN_lt (Nat.xor_lt_two_pow h (by omega)))
theorem stepN_xor (s t c d : Nat) : stepN (s ^^^ t) (c ^^^ d) = stepN s c ^^^ stepN t d := by
  unfold stepN
  rw [← halfN_xor, ← halfN_xor]
  congr 2
  ac_rfl
/-- Three texts of one length, laid over each other. -/
def over3 (a b c : List Nat) : List Nat := (a.zip (b.zip c)).map fun p => p.1 ^^^ p.2.1 ^^^ p.2.2
theorem sumN_over3 : ∀ (a b c : List Nat) (s t u : Nat), a.length = b.length → b.length = c.length → sumN (s ^^^ t ^^^ u) (over3 a b c) = sumN s a ^^^ sumN t b ^^^ sumN u c
  | [], [], [], s, t, u, _, _ => rfl
  | x :: a, y :: b, z :: c, s, t, u, h1, h2 => by
    have ih := sumN_over3 a b c (stepN s x) (stepN t y) (stepN u z) (by simpa using h1) (by simpa using h2)
    rw [← stepN_xor, ← stepN_xor] at ih
    exact ih
  | [], _ :: _, _, _, _, _, h1, _ => by simp at h1
  | _ :: _, [], _, _, _, _, h1, _ => by simp at h1
  | _, [], _ :: _, _, _, _, _, h2 => by simp at h2
  | _, _ :: _, [], _, _, _, _, h2 => by simp at h2
theorem sumN_lt : ∀ (l : List Nat) (s : Nat), s < 2 ^ 32 → (∀ c ∈ l, c < 256) → sumN s l < 2 ^ 32
  | [], _, h, _ => h
  | c :: l, s, h, hl => sumN_lt l (stepN s c) (stepN_lt h (hl c (by simp))) (fun d hd => hl d (by simp [hd]))

theorem crcHalf_nat {s : Nat} (h : s < 2 ^ 32) : crcHalf (s : Int) = (halfN s : Int) := by
  unfold crcHalf halfN
  have e1 : (s : Int) / 16 = ((s / 16 : Nat) : Int) := by omega
  have e2 : ((s : Int) % 16).toNat = s % 16 := by omega
  have hm : s % 16 < 16 := Nat.mod_lt _ (by omega)
  have e3 : ∀ i, i < 16 → crcTab.getD i 0 = ((tabN.getD i 0 : Nat) : Int) := by decide
  rw [e1, e2, e3 _ hm, u32_xor_nat _ _ (by omega) (by have := tab_lt _ hm; omega)]
theorem crcStep_nat {s c : Nat} (h : s < 2 ^ 32) (hc : c < 256) : crcStep (s : Int) (c : Int) = (stepN s c : Int) := by
  unfold crcStep stepN
  have hx : s ^^^ c < 2 ^ 32 := Nat.xor_lt_two_pow h (by omega)
  rw [u32_xor_nat s c (by omega) (by omega), crcHalf_nat hx, crcHalf_nat (halfN_lt hx)]
theorem crcS_nat : ∀ (l : List Nat) (s : Nat), s < 2 ^ 32 → (∀ c ∈ l, c < 256) → (l.map fun n : Nat => (n : Int)).foldl crcStep (s : Int) = (sumN s l : Int)
  | [], _, _, _ => rfl
  | c :: l, s, h, hl => by
    have hc := hl c (by simp)
    simp only [List.map_cons, List.foldl_cons]
    rw [crcStep_nat h hc, crcS_nat l _ (stepN_lt h hc) (fun d hd => hl d (by simp [hd]))]
    rfl
/-- The sum of bytes, as a natural number. -/
def crcN (l : List Nat) : Nat := 4294967295 ^^^ sumN 4294967295 l
theorem crcL_nat (l : List Nat) (hl : ∀ c ∈ l, c < 256) : crcL (l.map fun n : Nat => (n : Int)) = (crcN l : Int) := by
  unfold crcL crcS crcN
  have h := crcS_nat l 4294967295 (by decide) hl
  have h' : (l.map fun n : Nat => (n : Int)).foldl crcStep 4294967295 = (sumN 4294967295 l : Int) := h
  rw [h']
  exact u32_xor_nat 4294967295 _ (by omega) (by have := sumN_lt l 4294967295 (by decide) hl; omega)
theorem crcN_lt (l : List Nat) (hl : ∀ c ∈ l, c < 256) : crcN l < 2 ^ 32 := Nat.xor_lt_two_pow (by decide) (sumN_lt l _ (by decide) hl)
theorem crcN_over3 (a b c : List Nat) (h1 : a.length = b.length) (h2 : b.length = c.length) : crcN a ^^^ crcN b ^^^ crcN c = crcN (over3 a b c) := by
  unfold crcN
  have := sumN_over3 a b c 4294967295 4294967295 4294967295 h1 h2
  have e : 4294967295 ^^^ 4294967295 ^^^ 4294967295 = 4294967295 := by decide
  rw [e] at this
  rw [this]
  generalize sumN 4294967295 a = x
  generalize sumN 4294967295 b = y
  generalize sumN 4294967295 c = z
  generalize 4294967295 = f
  have : f ^^^ x ^^^ (f ^^^ y) ^^^ (f ^^^ z) = (f ^^^ f) ^^^ (f ^^^ (x ^^^ y ^^^ z)) := by ac_rfl
  rw [this, Nat.xor_self, Nat.zero_xor]
/-- Bytes as natural numbers. -/
def nats (zs : List Int) : List Nat := zs.map Int.toNat
theorem nats_back {zs : List Int} (h : ∀ b ∈ zs, 0 ≤ b ∧ b ≤ 255) : (nats zs).map (fun n : Nat => (n : Int)) = zs := by
  unfold nats
  rw [List.map_map]
  conv => rhs; rw [← List.map_id zs]
  apply List.map_congr_left
  intro b hb
  have := h b hb
  simp
  omega
theorem nats_lt {zs : List Int} (h : ∀ b ∈ zs, 0 ≤ b ∧ b ≤ 255) : ∀ c ∈ nats zs, c < 256 := by
  intro c hc
  obtain ⟨b, hb, rfl⟩ := List.mem_map.1 hc
  have := h b hb
  omega
theorem over3_byte (a b c : List Nat) (ha : ∀ x ∈ a, x < 256) (hb : ∀ x ∈ b, x < 256) (hc : ∀ x ∈ c, x < 256) : ∀ x ∈ (over3 a b c).map (fun n : Nat => (n : Int)), 0 ≤ x ∧ x ≤ 255 := by
  intro x hx
  obtain ⟨m, hm, rfl⟩ := List.mem_map.1 hx
  obtain ⟨⟨p, q, r⟩, hp, rfl⟩ := List.mem_map.1 hm
  have h1 := List.of_mem_zip hp
  have h2 := List.of_mem_zip h1.2
  have : p ^^^ q ^^^ r < 2 ^ 8 := Nat.xor_lt_two_pow (Nat.xor_lt_two_pow (ha p h1.1) (hb q h2.1)) (hc r h2.2)
  simp only
  omega
theorem over3_at {za zb zc : List Int} {n k : Nat} (ha : n ≤ za.length) (hb : n ≤ zb.length) (hc : n ≤ zc.length) (hk : k < n) (h1 : 0 ≤ za.getD k 0 ∧ za.getD k 0 ≤ 255) (h2 : 0 ≤ zb.getD k 0 ∧ zb.getD k 0 ≤ 255) (h3 : 0 ≤ zc.getD k 0 ∧ zc.getD k 0 ≤ 255) :
    bits .xor .u8 (bits .xor .u8 (za.getD k 0) (zb.getD k 0)) (zc.getD k 0) = ((over3 (nats (za.take n)) (nats (zb.take n)) (nats (zc.take n))).map fun m : Nat => (m : Int)).getD k 0 := by
  have hka : k < za.length := by omega
  have hkb : k < zb.length := by omega
  have hkc : k < zc.length := by omega
  have e : ((over3 (nats (za.take n)) (nats (zb.take n)) (nats (zc.take n))).map fun m : Nat => (m : Int)).getD k 0 = (((za.getD k 0).toNat ^^^ (zb.getD k 0).toNat ^^^ (zc.getD k 0).toNat : Nat) : Int) := by
    have hlen : k < ((over3 (nats (za.take n)) (nats (zb.take n)) (nats (zc.take n))).map fun m : Nat => (m : Int)).length := by simp [over3, nats]; omega
    rw [List.getD_eq_getElem?_getD, List.getElem?_eq_getElem hlen, Option.getD_some]
    simp [over3, nats, hka, hkb, hkc]
  rw [e]
  clear e
  generalize za.getD k 0 = X at h1 ⊢
  generalize zb.getD k 0 = Y at h2 ⊢
  generalize zc.getD k 0 = Z at h3 ⊢
  obtain ⟨x, rfl⟩ := Int.eq_ofNat_of_zero_le h1.1
  obtain ⟨y, rfl⟩ := Int.eq_ofNat_of_zero_le h2.1
  obtain ⟨z, rfl⟩ := Int.eq_ofNat_of_zero_le h3.1
  have hxy : x ^^^ y < 2 ^ 8 := Nat.xor_lt_two_pow (by omega) (by omega)
  rw [u8_xor_nat x y (by omega) (by omega), u8_xor_nat (x ^^^ y) z (by omega) (by omega)]
  simp
theorem crcL_over3 {a b c : List Int} (ha : ∀ x ∈ a, 0 ≤ x ∧ x ≤ 255) (hb : ∀ x ∈ b, 0 ≤ x ∧ x ≤ 255) (hc : ∀ x ∈ c, 0 ≤ x ∧ x ≤ 255) (h1 : a.length = b.length) (h2 : b.length = c.length) :
    bits .xor .u32 (bits .xor .u32 (crcL a) (crcL b)) (crcL c) = crcL ((over3 (nats a) (nats b) (nats c)).map fun n : Nat => (n : Int)) := by
  have na := nats_lt ha
  have nb := nats_lt hb
  have nc := nats_lt hc
  have ea : crcL a = (crcN (nats a) : Int) := by rw [← crcL_nat _ na, nats_back ha]
  have eb : crcL b = (crcN (nats b) : Int) := by rw [← crcL_nat _ nb, nats_back hb]
  have ec : crcL c = (crcN (nats c) : Int) := by rw [← crcL_nat _ nc, nats_back hc]
  have ed : ∀ x ∈ over3 (nats a) (nats b) (nats c), x < 256 := fun x hx => by
    have := over3_byte _ _ _ na nb nc (x : Int) (List.mem_map.2 ⟨x, hx, rfl⟩)
    omega
  have la := crcN_lt _ na
  have lb := crcN_lt _ nb
  have lc := crcN_lt _ nc
  have lab : crcN (nats a) ^^^ crcN (nats b) < 2 ^ 32 := Nat.xor_lt_two_pow la lb
  rw [ea, eb, ec, crcL_nat _ ed, u32_xor_nat _ _ (by omega) (by omega), u32_xor_nat _ _ (by omega) (by omega), crcN_over3 _ _ _ (by simp [nats, h1]) (by simp [nats, h2])]
end Go.Proofs.YtongdccpoefnlaaDoor
