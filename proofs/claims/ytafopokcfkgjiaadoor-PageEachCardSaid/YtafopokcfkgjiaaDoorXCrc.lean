/-
  Two frames' sectors mixed: where the sum of the mix is that of one of them, the mix is that one.
-/
import Derived.Test.YtafopokcfkgjiaaDoorGPlain
namespace Go.Proofs.YtafopokcfkgjiaaDoor

/-- The table of sums in one number; the steps with it. -/
def tabL : Nat := 9937593612760466100516450665319420528403982636753068485404800763335476026940182181175496972418787619281442302519629725716261212251300561153615832085954560
def half2 (s : Nat) : Nat := (s / 16) ^^^ (tabL / 2 ^ (32 * (s % 16)) % 4294967296)
def step2 (s c : Nat) : Nat := half2 (half2 (s ^^^ c))
def sum2 (s : Nat) : List Nat → Nat
  | [] => s
  | c :: l => sum2 (step2 s c) l
def shN (s : Nat) : Nat → Nat
  | 0 => s
  | k + 1 => shN (step2 s 0) k
theorem tabL_at : ∀ i, i < 16 → tabL / 2 ^ (32 * i) % 4294967296 = tabN.getD i 0 := by decide +kernel
theorem half2_eq (s : Nat) : half2 s = halfN s := by
  unfold half2 halfN
  rw [tabL_at _ (Nat.mod_lt _ (by decide))]
theorem step2_eq (s c : Nat) : step2 s c = stepN s c := by unfold step2 stepN; rw [half2_eq, half2_eq]
theorem sum2_eq : ∀ (l : List Nat) (s : Nat), sum2 s l = sumN s l
  | [], _ => rfl
  | c :: l, s => by
    show sum2 (step2 s c) l = sumN (stepN s c) l
    rw [step2_eq, sum2_eq l]
theorem shN_eq : ∀ (k s : Nat), shN s k = sumN s (List.replicate k 0)
  | 0, _ => rfl
  | k + 1, s => by
    show shN (step2 s 0) k = sumN (stepN s 0) (List.replicate k 0)
    rw [step2_eq, shN_eq k]
/-- The body of a page's frame. -/
def bodyN (no n k : Nat) : Nat := if k < 480 then n * (k % 7 + 1) % 256 else if k = 480 then no else if k = 481 then (if n < 128 then n else n % 128 + 128) else if k = 482 then (if n < 128 then 0 else n / 128) else 0
def eN (no n no' n' i m : Nat) : List Nat := (List.range m).map fun t => bodyN no n (64 * i + t) ^^^ bodyN no' n' (64 * i + t)
def c8 (no n no' n' i : Nat) : Nat := if i = 7 then sum2 0 (eN no n no' n' 7 60) else shN (sum2 0 (eN no n no' n' i 64)) (444 - 64 * i)
def z8 (no n no' n' i : Nat) : Bool := (eN no n no' n' i 64).all (· == 0)
/-- Any sum of the rest with acc is not nought, but where nothing was taken. -/
def subs (acc : Nat) (pure : Bool) : List (Nat × Bool) → Bool
  | [] => pure || acc != 0
  | (c, z) :: l => subs acc pure l && subs (acc ^^^ c) (pure && z) l
def chk (no n no' n' : Nat) : Bool := subs 0 true ((List.range 7).map fun i => (c8 no n no' n' i, z8 no n no' n' i)) && ((List.range 8).foldl (fun a i => a ^^^ c8 no n no' n' i) 0 != 0)

theorem subs_any : ∀ (l : List (Nat × Bool)) (acc : Nat) (pure : Bool) (ch : Nat → Bool), subs acc pure l = true →
    (l.zipIdx.foldl (fun a x => if ch x.2 then a ^^^ x.1.1 else a) acc) = 0 → pure = true ∧ ∀ i c z, l[i]? = some (c, z) → ch i = true → z = true := by
  intro l
  suffices h : ∀ (l : List (Nat × Bool)) (acc : Nat) (pure : Bool) (ch : Nat → Bool) (k : Nat), subs acc pure l = true → ((l.zipIdx k).foldl (fun a x => if ch x.2 then a ^^^ x.1.1 else a) acc) = 0 → pure = true ∧ ∀ i c z, l[i]? = some (c, z) → ch (k + i) = true → z = true by
    intro acc pure ch h1 h2
    obtain ⟨h3, h4⟩ := h l acc pure ch 0 h1 h2
    exact ⟨h3, fun i c z e hc => h4 i c z e (by rw [Nat.zero_add]; exact hc)⟩
  intro l
  induction l with
  | nil =>
    intro acc pure ch k h1 h2
    have h2' : acc = 0 := h2
    subst h2'
    unfold subs at h1
    simp at h1
    exact ⟨h1, fun i c z e => by simp at e⟩
  | cons x l ih =>
    obtain ⟨c, z⟩ := x
    intro acc pure ch k h1 h2
    unfold subs at h1
    rw [Bool.and_eq_true] at h1
    rw [List.zipIdx_cons, List.foldl_cons] at h2
    by_cases hk : ch k = true
    · dsimp only at h2
      rw [if_pos hk] at h2
      obtain ⟨h3, h4⟩ := ih _ _ ch (k + 1) h1.2 h2
      rw [Bool.and_eq_true] at h3
      refine ⟨h3.1, fun i c' z' e hc => ?_⟩
      cases i with
      | zero =>
        simp at e
        rw [← e.2]
        exact h3.2
      | succ i => exact h4 i c' z' (by simpa using e) (by rw [show k + 1 + i = k + (i + 1) by omega]; exact hc)
    · dsimp only at h2
      rw [if_neg hk] at h2
      obtain ⟨h3, h4⟩ := ih _ _ ch (k + 1) h1.1 h2
      refine ⟨h3, fun i c' z' e hc => ?_⟩
      cases i with
      | zero => exact absurd hc hk
      | succ i => exact h4 i c' z' (by simpa using e) (by rw [show k + 1 + i = k + (i + 1) by omega]; exact hc)

/-- Two texts laid over each other. -/
def ov2 (a b : List Nat) : List Nat := List.zipWith (· ^^^ ·) a b
theorem sumN_ov2 : ∀ (a b : List Nat) (s t : Nat), a.length = b.length → sumN (s ^^^ t) (ov2 a b) = sumN s a ^^^ sumN t b
  | [], [], _, _, _ => rfl
  | x :: a, y :: b, s, t, h => by
    have ih := sumN_ov2 a b (stepN s x) (stepN t y) (by simpa using h)
    rw [← stepN_xor] at ih
    exact ih
  | [], _ :: _, _, _, h => by simp at h
  | _ :: _, [], _, _, h => by simp at h
theorem halfN_nought : halfN 0 = 0 := by decide
theorem stepN_nought : stepN 0 0 = 0 := by decide
theorem sumN_zeros : ∀ k : Nat, sumN 0 (List.replicate k 0) = 0
  | 0 => rfl
  | k + 1 => by
    show sumN (stepN 0 0) (List.replicate k 0) = 0
    rw [stepN_nought]
    exact sumN_zeros k
theorem ov2_zeros (l : List Nat) : ov2 (List.replicate l.length 0) l = l := by
  unfold ov2
  induction l with
  | nil => rfl
  | cons x l ih => simp [List.replicate_succ, ih]
/-- A sum, the first part's and the rest's by themselves. -/
theorem sum_cut (l : List Nat) (m : Nat) : sumN 0 l = sumN (sumN 0 (l.take m)) (List.replicate (l.length - m) 0) ^^^ sumN 0 (l.drop m) := by
  have e : l = l.take m ++ l.drop m := (List.take_append_drop m l).symm
  have h := sumN_ov2 (List.replicate (l.drop m).length 0) (l.drop m) (sumN 0 (l.take m)) 0 (by simp)
  rw [ov2_zeros, Nat.xor_zero, List.length_drop] at h
  rw [← h]
  conv => lhs; rw [e, sumN_append]
/-- A body's sectors. -/
def sB (l : List Nat) (i : Nat) : List Nat := (l.drop (64 * i)).take 64
def pcs (l : List Nat) (i : Nat) : Nat := sumN (sumN 0 (sB l i)) (List.replicate (l.length - 64 * (i + 1)) 0)
theorem sum_sectors {l : List Nat} (h : l.length = 508) : sumN 0 l = pcs l 0 ^^^ (pcs l 1 ^^^ (pcs l 2 ^^^ (pcs l 3 ^^^ (pcs l 4 ^^^ (pcs l 5 ^^^ (pcs l 6 ^^^ pcs l 7)))))) := by
  have st : ∀ i, sumN 0 (l.drop (64 * i)) = pcs l i ^^^ sumN 0 (l.drop (64 * (i + 1))) := fun i => by
    have q := sum_cut (l.drop (64 * i)) 64
    rw [List.length_drop, List.drop_drop, show 64 * i + 64 = 64 * (i + 1) by omega, show l.length - 64 * i - 64 = l.length - 64 * (i + 1) by omega] at q
    exact q
  have s0 := st 0
  rw [Nat.mul_zero, List.drop_zero] at s0
  rw [s0, st 1, st 2, st 3, st 4, st 5, st 6, st 7, List.drop_of_length_le (show l.length ≤ 64 * (7 + 1) by omega)]
  show _ = _
  rw [show sumN 0 [] = 0 from rfl, Nat.xor_zero]
theorem sB_ov2 (a b : List Nat) (i : Nat) : sB (ov2 a b) i = ov2 (sB a i) (sB b i) := by
  unfold sB ov2
  rw [List.drop_zipWith, List.take_zipWith]
theorem ov2_self : ∀ a : List Nat, ov2 a a = List.replicate a.length 0
  | [] => rfl
  | x :: a => by
    show (x ^^^ x) :: ov2 a a = _
    rw [Nat.xor_self, ov2_self a]
    rfl
theorem ov2_len (a b : List Nat) (h : a.length = b.length) : (ov2 a b).length = a.length := by unfold ov2; rw [List.length_zipWith]; omega
theorem pcs_same {a b : List Nat} {i : Nat} (hs : sB a i = sB b i) : pcs (ov2 a b) i = 0 := by
  unfold pcs
  rw [sB_ov2, hs, ov2_self, sumN_zeros, sumN_zeros]
theorem sB_ext {a b : List Nat} (ha : a.length = 508) (hb : b.length = 508) (h : ∀ i, i < 8 → sB a i = sB b i) : a = b := by
  refine List.ext_getElem? fun k => ?_
  by_cases hk : k < 508
  · have q := congrArg (fun l => l[k % 64]?) (h (k / 64) (by omega))
    unfold sB at q
    rw [List.getElem?_take, if_pos (Nat.mod_lt _ (by decide)), List.getElem?_take, if_pos (Nat.mod_lt _ (by decide)), List.getElem?_drop, List.getElem?_drop, show 64 * (k / 64) + k % 64 = k from Nat.div_add_mod k 64] at q
    exact q
  · rw [List.getElem?_eq_none (by omega), List.getElem?_eq_none (by omega)]
theorem xor_zero_iff {a b : Nat} : a ^^^ b = 0 ↔ a = b := ⟨fun h => by
  have : a ^^^ b ^^^ b = 0 ^^^ b := by rw [h]
  rwa [Nat.xor_assoc, Nat.xor_self, Nat.xor_zero, Nat.zero_xor] at this, fun h => by rw [h, Nat.xor_self]⟩

/-- A page's body as a list. -/
def bodyL (no n : Nat) : List Nat := (List.range 508).map (bodyN no n)
theorem bodyL_len (no n : Nat) : (bodyL no n).length = 508 := by unfold bodyL; simp
theorem bodyL_sB {no n i : Nat} (hi : i < 7) : sB (bodyL no n) i = (List.range 64).map fun t => bodyN no n (64 * i + t) := by
  unfold sB bodyL
  refine List.ext_getElem? fun k => ?_
  rw [List.getElem?_take, List.getElem?_map]
  by_cases hk : k < 64
  · rw [if_pos hk, List.getElem?_drop, List.getElem?_map, List.getElem?_range (by omega), List.getElem?_range hk]
    rfl
  · rw [if_neg hk, List.getElem?_eq_none (l := List.range 64) (by simp; omega)]
    rfl
theorem bodyL_sB7 (no n : Nat) : sB (bodyL no n) 7 = (List.range 60).map fun t => bodyN no n (64 * 7 + t) := by
  unfold sB bodyL
  refine List.ext_getElem? fun k => ?_
  rw [List.getElem?_take, List.getElem?_map]
  by_cases hk : k < 60
  · rw [if_pos (by omega), List.getElem?_drop, List.getElem?_map, List.getElem?_range (by omega), List.getElem?_range hk]
    rfl
  · rw [List.getElem?_eq_none (l := List.range 60) (by simp; omega)]
    split
    · rw [List.getElem?_drop, List.getElem?_map, List.getElem?_eq_none (by simp; omega)]
      rfl
    · rfl
theorem ov2_map {α : Type} (l : List α) (f g : α → Nat) : ov2 (l.map f) (l.map g) = l.map fun t => f t ^^^ g t := by
  unfold ov2
  induction l with
  | nil => rfl
  | cons x l ih => simp [ih]
theorem pcs_new {no n no' n' i : Nat} (hi : i < 7) {m : List Nat} (hm : m.length = 508) (hs : sB m i = sB (bodyL no' n') i) : pcs (ov2 (bodyL no n) m) i = c8 no n no' n' i := by
  unfold pcs c8 eN
  rw [sB_ov2, hs, bodyL_sB hi, bodyL_sB hi, ov2_map, if_neg (by omega), shN_eq, sum2_eq, ov2_len _ _ (by rw [bodyL_len, hm]), bodyL_len, show 508 - 64 * (i + 1) = 444 - 64 * i by omega]
theorem z8_same {no n no' n' i : Nat} (hi : i < 7) (h : z8 no n no' n' i = true) : sB (bodyL no n) i = sB (bodyL no' n') i := by
  rw [bodyL_sB hi, bodyL_sB hi]
  refine List.map_congr_left fun t ht => ?_
  unfold z8 eN at h
  rw [List.all_eq_true] at h
  have := h _ (List.mem_map.2 ⟨t, ht, rfl⟩)
  rw [beq_iff_eq] at this
  exact xor_zero_iff.1 this
theorem xor_cancel {I a b : Nat} (h : I ^^^ a = I ^^^ b) : a = b := by
  have e : I ^^^ (I ^^^ a) = I ^^^ (I ^^^ b) := by rw [h]
  rwa [← Nat.xor_assoc, ← Nat.xor_assoc, Nat.xor_self, Nat.zero_xor, Nat.zero_xor] at e
theorem xor_step (b : Bool) (a c : Nat) : (if b = true then a ^^^ c else a) = a ^^^ (if b = true then c else 0) := by cases b <;> simp
/-- Seven parts: where the sum of those chosen is nought each of them is none. -/
theorem subs7 {a0 a1 a2 a3 a4 a5 a6 : Nat} {z0 z1 z2 z3 z4 z5 z6 : Bool} (b : Nat → Bool) (h : subs 0 true [(a0, z0), (a1, z1), (a2, z2), (a3, z3), (a4, z4), (a5, z5), (a6, z6)] = true)
    (hx : (if b 0 then a0 else 0) ^^^ ((if b 1 then a1 else 0) ^^^ ((if b 2 then a2 else 0) ^^^ ((if b 3 then a3 else 0) ^^^ ((if b 4 then a4 else 0) ^^^ ((if b 5 then a5 else 0) ^^^ (if b 6 then a6 else 0)))))) = 0) :
    (b 0 = true → z0 = true) ∧ (b 1 = true → z1 = true) ∧ (b 2 = true → z2 = true) ∧ (b 3 = true → z3 = true) ∧ (b 4 = true → z4 = true) ∧ (b 5 = true → z5 = true) ∧ (b 6 = true → z6 = true) := by
  have hz := subs_any _ 0 true b h (by
    refine Eq.trans ?_ hx
    simp only [List.zipIdx_cons, List.zipIdx_nil, List.foldl_cons, List.foldl_nil, xor_step, Nat.xor_assoc, Nat.zero_xor, Nat.zero_add, Nat.reduceAdd])
  exact ⟨hz.2 0 a0 z0 rfl, hz.2 1 a1 z1 rfl, hz.2 2 a2 z2 rfl, hz.2 3 a3 z3 rfl, hz.2 4 a4 z4 rfl, hz.2 5 a5 z5 rfl, hz.2 6 a6 z6 rfl⟩
theorem crcN_diff {a b : List Nat} (h : a.length = b.length) (hc : crcN b = crcN a) : sumN 0 (ov2 a b) = 0 := by
  have h1 : sumN 4294967295 b = sumN 4294967295 a := xor_cancel hc
  have q := sumN_ov2 a b 4294967295 4294967295 h
  rwa [Nat.xor_self, h1, Nat.xor_self] at q
/-- The mix of two bodies whose tail is the first one's and whose sum is the first one's is the first one. -/
theorem mix_core {f g m : List Nat} (hf : f.length = 508) (hm : m.length = 508) (h7 : sB m 7 = sB f 7) (hs : ∀ i, i < 7 → sB m i = sB f i ∨ sB m i = sB g i) (hsum : crcN m = crcN f) {a0 a1 a2 a3 a4 a5 a6 : Nat} {z0 z1 z2 z3 z4 z5 z6 : Bool}
    (hc : subs 0 true [(a0, z0), (a1, z1), (a2, z2), (a3, z3), (a4, z4), (a5, z5), (a6, z6)] = true)
    (p0 : sB m 0 = sB g 0 → pcs (ov2 f m) 0 = a0) (p1 : sB m 1 = sB g 1 → pcs (ov2 f m) 1 = a1) (p2 : sB m 2 = sB g 2 → pcs (ov2 f m) 2 = a2) (p3 : sB m 3 = sB g 3 → pcs (ov2 f m) 3 = a3) (p4 : sB m 4 = sB g 4 → pcs (ov2 f m) 4 = a4) (p5 : sB m 5 = sB g 5 → pcs (ov2 f m) 5 = a5) (p6 : sB m 6 = sB g 6 → pcs (ov2 f m) 6 = a6)
    (q0 : z0 = true → sB f 0 = sB g 0) (q1 : z1 = true → sB f 1 = sB g 1) (q2 : z2 = true → sB f 2 = sB g 2) (q3 : z3 = true → sB f 3 = sB g 3) (q4 : z4 = true → sB f 4 = sB g 4) (q5 : z5 = true → sB f 5 = sB g 5) (q6 : z6 = true → sB f 6 = sB g 6) : m = f := by
  have h0 := crcN_diff (by rw [hf, hm]) hsum
  rw [sum_sectors (by rw [ov2_len _ _ (by rw [hf, hm]), hf]), pcs_same (i := 7) h7.symm, Nat.xor_zero] at h0
  have hex : ∀ i, ∃ b : Bool, i < 7 → (b = false ∧ sB m i = sB f i) ∨ (b = true ∧ sB m i = sB g i) := fun i => by
    by_cases hi : i < 7
    · rcases hs i hi with e | e
      · exact ⟨false, fun _ => .inl ⟨rfl, e⟩⟩
      · exact ⟨true, fun _ => .inr ⟨rfl, e⟩⟩
    · exact ⟨false, fun h => absurd h hi⟩
  obtain ⟨ch, hch⟩ : ∃ ch : Nat → Bool, ∀ i, i < 7 → (ch i = false ∧ sB m i = sB f i) ∨ (ch i = true ∧ sB m i = sB g i) := ⟨fun i => Classical.choose (hex i), fun i => Classical.choose_spec (hex i)⟩
  have val : ∀ i a, i < 7 → (sB m i = sB g i → pcs (ov2 f m) i = a) → pcs (ov2 f m) i = if ch i = true then a else 0 := fun i a hi hp => by
    rcases hch i hi with ⟨e, h⟩ | ⟨e, h⟩
    · rw [e, pcs_same h.symm]; rfl
    · rw [e, hp h]; rfl
  rw [val 0 a0 (by decide) p0, val 1 a1 (by decide) p1, val 2 a2 (by decide) p2, val 3 a3 (by decide) p3, val 4 a4 (by decide) p4, val 5 a5 (by decide) p5, val 6 a6 (by decide) p6] at h0
  obtain ⟨r0, r1, r2, r3, r4, r5, r6⟩ := subs7 ch hc h0
  have fin : ∀ i, i < 7 → (ch i = true → sB f i = sB g i) → sB m i = sB f i := fun i hi h => by
    rcases hch i hi with ⟨_, e⟩ | ⟨e', e⟩
    · exact e
    · rw [e, h e']
  refine sB_ext hm hf fun i hi => ?_
  match i, hi with
  | 0, _ => exact fin 0 (by decide) fun h => q0 (r0 h)
  | 1, _ => exact fin 1 (by decide) fun h => q1 (r1 h)
  | 2, _ => exact fin 2 (by decide) fun h => q2 (r2 h)
  | 3, _ => exact fin 3 (by decide) fun h => q3 (r3 h)
  | 4, _ => exact fin 4 (by decide) fun h => q4 (r4 h)
  | 5, _ => exact fin 5 (by decide) fun h => q5 (r5 h)
  | 6, _ => exact fin 6 (by decide) fun h => q6 (r6 h)
  | 7, _ => exact h7
theorem chk_subs {no n no' n' : Nat} (hc : chk no n no' n' = true) : subs 0 true [(c8 no n no' n' 0, z8 no n no' n' 0), (c8 no n no' n' 1, z8 no n no' n' 1), (c8 no n no' n' 2, z8 no n no' n' 2), (c8 no n no' n' 3, z8 no n no' n' 3), (c8 no n no' n' 4, z8 no n no' n' 4), (c8 no n no' n' 5, z8 no n no' n' 5), (c8 no n no' n' 6, z8 no n no' n' 6)] = true := by
  unfold chk at hc
  rw [Bool.and_eq_true] at hc
  exact hc.1
theorem mix_first {no n no' n' : Nat} (hc : chk no n no' n' = true) {m : List Nat} (hm : m.length = 508) (h7 : sB m 7 = sB (bodyL no n) 7) (hs : ∀ i, i < 7 → sB m i = sB (bodyL no n) i ∨ sB m i = sB (bodyL no' n') i) (hsum : crcN m = crcN (bodyL no n)) : m = bodyL no n :=
  mix_core (bodyL_len no n) hm h7 hs hsum (chk_subs hc)
    (pcs_new (by decide) hm) (pcs_new (by decide) hm) (pcs_new (by decide) hm) (pcs_new (by decide) hm) (pcs_new (by decide) hm) (pcs_new (by decide) hm) (pcs_new (by decide) hm)
    (z8_same (by decide)) (z8_same (by decide)) (z8_same (by decide)) (z8_same (by decide)) (z8_same (by decide)) (z8_same (by decide)) (z8_same (by decide))
theorem eN_comm (no n no' n' i m : Nat) : eN no' n' no n i m = eN no n no' n' i m := by
  unfold eN
  exact List.map_congr_left fun t _ => Nat.xor_comm _ _
theorem c8_comm (no n no' n' i : Nat) : c8 no' n' no n i = c8 no n no' n' i := by unfold c8; rw [eN_comm no n no' n', eN_comm no n no' n']
theorem z8_comm (no n no' n' i : Nat) : z8 no' n' no n i = z8 no n no' n' i := by unfold z8; rw [eN_comm no n no' n']
theorem chk_comm {no n no' n' : Nat} (h : chk no n no' n' = true) : chk no' n' no n = true := by
  unfold chk at h ⊢
  rw [show (fun i => (c8 no' n' no n i, z8 no' n' no n i)) = fun i => (c8 no n no' n' i, z8 no n no' n' i) from funext fun i => by rw [c8_comm no n no' n', z8_comm no n no' n'], show (fun a i => a ^^^ c8 no' n' no n i) = fun a i => a ^^^ c8 no n no' n' i from funext fun a => funext fun i => by rw [c8_comm no n no' n']]
  exact h
theorem fold8 (f : Nat → Nat) : (List.range 8).foldl (fun a i => a ^^^ f i) 0 = f 0 ^^^ (f 1 ^^^ (f 2 ^^^ (f 3 ^^^ (f 4 ^^^ (f 5 ^^^ (f 6 ^^^ f 7)))))) := by
  have e : List.range 8 = [0, 1, 2, 3, 4, 5, 6, 7] := rfl
  rw [e]
  simp only [List.foldl_cons, List.foldl_nil, Nat.xor_assoc, Nat.zero_xor]
theorem pcs_tail (no n no' n' : Nat) : pcs (ov2 (bodyL no n) (bodyL no' n')) 7 = c8 no n no' n' 7 := by
  unfold pcs c8 eN
  rw [sB_ov2, bodyL_sB7, bodyL_sB7, ov2_map, if_pos rfl, sum2_eq, ov2_len _ _ (by rw [bodyL_len, bodyL_len]), bodyL_len]
  rfl
/-- Two bodies have unlike sums. -/
theorem chk_sums {no n no' n' : Nat} (h : chk no n no' n' = true) : crcN (bodyL no' n') ≠ crcN (bodyL no n) := fun e => by
  have h0 := crcN_diff (by rw [bodyL_len, bodyL_len]) e
  rw [sum_sectors (by rw [ov2_len _ _ (by rw [bodyL_len, bodyL_len]), bodyL_len]), pcs_tail, pcs_new (i := 0) (by decide) (bodyL_len _ _) rfl, pcs_new (i := 1) (by decide) (bodyL_len _ _) rfl, pcs_new (i := 2) (by decide) (bodyL_len _ _) rfl, pcs_new (i := 3) (by decide) (bodyL_len _ _) rfl, pcs_new (i := 4) (by decide) (bodyL_len _ _) rfl, pcs_new (i := 5) (by decide) (bodyL_len _ _) rfl, pcs_new (i := 6) (by decide) (bodyL_len _ _) rfl] at h0
  unfold chk at h
  rw [Bool.and_eq_true, fold8 (c8 no n no' n'), h0] at h
  exact absurd h.2 (by decide)
end Go.Proofs.YtafopokcfkgjiaaDoor
