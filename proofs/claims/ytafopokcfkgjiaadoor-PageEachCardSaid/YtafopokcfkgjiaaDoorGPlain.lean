/-
  The plain mathematics of layer 3: a page, its frame of eight sectors, the journal's head; sectors one behind the other. Nothing of the program is named here.
-/
import Derived.Test.YtafopokcfkgjiaaDoorPPlain
import Derived.Test.YtafopokcfkgjiaaDoorDPlain
namespace Go.Proofs.YtafopokcfkgjiaaDoor
open Go.RowKit Go.PlainAid

def zeros (n : Nat) : List Int := List.replicate n 0
theorem zeros_len (n : Nat) : (zeros n).length = n := by simp [zeros]
/-- Bytes. -/
def By (l : List Int) : Prop := ∀ b ∈ l, 0 ≤ b ∧ b ≤ 255
theorem By.app {a b : List Int} (ha : By a) (hb : By b) : By (a ++ b) := fun x hx => by
  rcases List.mem_append.1 hx with h | h
  · exact ha x h
  · exact hb x h
theorem By.zeros (n : Nat) : By (zeros n) := fun x hx => by
  have := List.eq_of_mem_replicate hx
  omega
theorem By.take {a : List Int} (h : By a) (n : Nat) : By (a.take n) := fun x hx => h x (List.mem_of_mem_take hx)
theorem By.drop {a : List Int} (h : By a) (n : Nat) : By (a.drop n) := fun x hx => h x (List.mem_of_mem_drop hx)

theorem dec_nonneg : ∀ (l : List Int) (X : Int) (k : Nat), 0 ≤ X → 0 ≤ (dec X k l).1
  | [], _, _, _ => by simp [dec]
  | c :: l, X, k, h => by
    have h2 : 0 ≤ c % 128 * 2 ^ (7 * k) := Int.mul_nonneg (by omega) (Int.le_of_lt (Int.pow_pos (by omega)))
    unfold dec
    split
    · simp
    · split
      · exact dec_nonneg l _ _ (by omega)
      · split
        · simp
        · simp only; omega

theorem dec_cnt : ∀ (l : List Int) (X : Int) (k : Nat), k ≤ 9 → (dec X k l).2.2 = 0 → (k : Int) < (dec X k l).2.1 ∧ (dec X k l).2.1 ≤ 10 ∧ (dec X k l).2.1 ≤ k + l.length
  | [], _, _, _, h => by simp [dec] at h
  | c :: l, X, k, hk, h => by
    unfold dec at h ⊢
    by_cases h1 : k = 9 ∧ 1 < c
    · rw [if_pos h1] at h; simp at h
    · rw [if_neg h1] at h ⊢
      by_cases h2 : 128 ≤ c
      · rw [if_pos h2] at h ⊢
        have hk9 : k ≠ 9 := fun e => h1 ⟨e, by omega⟩
        have := dec_cnt l (X + c % 128 * 2 ^ (7 * k)) (k + 1) (by omega) h
        simp only [List.length_cons]
        omega
      · rw [if_neg h2] at h ⊢
        by_cases h3 : c = 0 ∧ 0 < k
        · rw [if_pos h3] at h; simp at h
        · rw [if_neg h3]
          simp only [List.length_cons]
          omega

/-- A page. -/
structure Pg where
  no : Nat
  lsn : Int
  data : List Int
structure Pg.Ok (p : Pg) (n : Nat) : Prop where
  no : p.no < n
  lsn0 : 0 ≤ p.lsn
  lsn1 : p.lsn ≤ 18446744073709551615
  len : p.data.length = 480
  byte : By p.data
/-- What is sealed of it. -/
def bodyOf (p : Pg) : List Int := (p.data ++ uv p.no ++ uv p.lsn) ++ zeros (508 - (p.data ++ uv p.no ++ uv p.lsn).length)
def frameOf (p : Pg) : List Int := sealL (bodyOf p)
theorem head_len {p : Pg} (h : p.data.length = 480) : (p.data ++ uv p.no ++ uv p.lsn).length ≤ 500 := by
  have h1 := uv_len (p.no : Int)
  have h2 := uv_len p.lsn
  simp only [List.length_append]
  omega
theorem bodyOf_len {p : Pg} (h : p.data.length = 480) : (bodyOf p).length = 508 := by
  have := head_len h
  unfold bodyOf
  rw [List.length_append, zeros_len]
  omega
theorem frameOf_len {p : Pg} (h : p.data.length = 480) : (frameOf p).length = 512 := by
  unfold frameOf; rw [sealL_len, bodyOf_len h]
theorem Pg.Ok.no_le {p : Pg} {n : Nat} (h : p.Ok n) (hn : n ≤ 4096) : (p.no : Int) ≤ 18446744073709551615 := by have := h.no; omega
theorem bodyOf_by {p : Pg} {n : Nat} (h : p.Ok n) (hn : n ≤ 4096) : By (bodyOf p) :=
  ((h.byte.app (uv_byte (by omega) (h.no_le hn))).app (uv_byte h.lsn0 h.lsn1)).app (By.zeros _)
theorem frameOf_by {p : Pg} {n : Nat} (h : p.Ok n) (hn : n ≤ 4096) : By (frameOf p) := sealL_byte (bodyOf_by h hn)

/-- The page that a frame tells. -/
def pageErr (f : List Int) : Int :=
  if openE f ≠ 0 then openE f else
    let t := (openB f).drop 480
    if (dec 0 0 t).2.2 ≠ 0 then (dec 0 0 t).2.2 else
      if (dec 0 0 (t.drop (dec 0 0 t).2.1.toNat)).2.2 ≠ 0 then (dec 0 0 (t.drop (dec 0 0 t).2.1.toNat)).2.2 else
        if 4096 ≤ (dec 0 0 t).1 then 3 else 0
def pageIn (f : List Int) : Pg :=
  let t := (openB f).drop 480
  ⟨(dec 0 0 t).1.toNat, (dec 0 0 (t.drop (dec 0 0 t).2.1.toNat)).1, (openB f).take 480⟩
theorem pageErr_zero {f : List Int} (h : pageErr f = 0) : openE f = 0 ∧ (dec 0 0 ((openB f).drop 480)).2.2 = 0 ∧ (dec 0 0 (((openB f).drop 480).drop (dec 0 0 ((openB f).drop 480)).2.1.toNat)).2.2 = 0 ∧ (dec 0 0 ((openB f).drop 480)).1 < 4096 := by
  unfold pageErr at h
  by_cases h1 : openE f = 0
  · rw [if_neg (fun e => e h1)] at h
    simp only at h
    by_cases h2 : (dec 0 0 ((openB f).drop 480)).2.2 = 0
    · rw [if_neg (fun e => e h2)] at h
      by_cases h3 : (dec 0 0 (((openB f).drop 480).drop (dec 0 0 ((openB f).drop 480)).2.1.toNat)).2.2 = 0
      · rw [if_neg (fun e => e h3)] at h
        by_cases h4 : 4096 ≤ (dec 0 0 ((openB f).drop 480)).1
        · rw [if_pos h4] at h; omega
        · exact ⟨h1, h2, h3, by omega⟩
      · rw [if_pos h3] at h; exact absurd h h3
    · rw [if_pos h2] at h; exact absurd h h2
  · rw [if_pos h1] at h; exact absurd h h1
theorem openB_len {f : List Int} (h : openE f = 0) (hl : f.length = 512) : (openB f).length = 508 := by
  unfold openB
  rw [if_pos h]
  simp [hl]
theorem page_back {p : Pg} {n : Nat} (h : p.Ok n) (hn : n ≤ 4096) : pageErr (frameOf p) = 0 ∧ pageIn (frameOf p) = p := by
  have ho := open_seal (bodyOf_by h hn)
  have h480 := h.len
  have hno := h.no
  have ht : (openB (frameOf p)).drop 480 = uv p.no ++ (uv p.lsn ++ zeros (508 - (p.data ++ uv p.no ++ uv p.lsn).length)) := by
    rw [frameOf, ho.2, bodyOf, List.append_assoc, List.append_assoc, List.append_assoc, List.drop_append_of_le_length (by omega), List.drop_of_length_le (by omega), List.nil_append]
  have hd : (openB (frameOf p)).take 480 = p.data := by
    rw [frameOf, ho.2, bodyOf, List.append_assoc, List.append_assoc, List.append_assoc, List.take_append_of_le_length (by omega), List.take_of_length_le (by omega)]
  have d1 := dec_uv (x := (p.no : Int)) (by omega) (h.no_le hn) (uv p.lsn ++ zeros (508 - (p.data ++ uv p.no ++ uv p.lsn).length))
  have d2 := dec_uv h.lsn0 h.lsn1 (zeros (508 - (p.data ++ uv p.no ++ uv p.lsn).length))
  have he : openE (frameOf p) = 0 := ho.1
  have h3 : (uv (p.no : Int) ++ (uv p.lsn ++ zeros (508 - (p.data ++ uv p.no ++ uv p.lsn).length))).drop (uv (p.no : Int)).length = uv p.lsn ++ zeros (508 - (p.data ++ uv p.no ++ uv p.lsn).length) := by simp
  constructor
  · unfold pageErr
    simp only [he, ht, d1, ne_eq, not_true_eq_false, if_false, Int.toNat_natCast, h3, d2]
    rw [if_neg (by omega)]
  · unfold pageIn
    simp only [ht, d1, Int.toNat_natCast, h3, d2, hd]

/-- Sectors one behind the other. -/
def secs (l : List (List Int)) (i k : Nat) : List Int := ((l.drop i).take k).flatten
theorem secs_zero (l : List (List Int)) (i : Nat) : secs l i 0 = [] := by simp [secs]
theorem secs_succ {l : List (List Int)} {i k : Nat} (h : i + k < l.length) : secs l i (k + 1) = secs l i k ++ l.getD (i + k) [] := by
  unfold secs
  rw [List.take_add_one, List.flatten_append]
  congr 1
  simp [List.getElem?_drop, List.getElem?_eq_getElem h]
theorem secs_len {l : List (List Int)} {i k : Nat} (hl : ∀ s ∈ l, Sec s) (h : i + k ≤ l.length) : (secs l i k).length = 64 * k := by
  unfold secs
  rw [flatten_len (m := 64) _ (fun s hs => (hl s (List.mem_of_mem_drop (List.mem_of_mem_take hs))).1)]
  simp; omega
theorem secs_by {l : List (List Int)} {i k : Nat} (hl : ∀ s ∈ l, Sec s) : By (secs l i k) := fun x hx => by
  obtain ⟨s, hs, hx⟩ := List.mem_flatten.1 hx
  exact (hl s (List.mem_of_mem_drop (List.mem_of_mem_take hs))).2 x hx

/-- Bytes as sectors. -/
def cut64 : Nat → List Int → List (List Int)
  | 0, _ => []
  | n + 1, b => b.take 64 :: cut64 n (b.drop 64)
def sectorsOf (b : List Int) : List (List Int) := cut64 (b.length / 64) b
theorem cut64_len (n : Nat) (b : List Int) : (cut64 n b).length = n := by
  induction n generalizing b with
  | zero => rfl
  | succ n ih => simp [cut64, ih]
theorem cut64_sec : ∀ (n : Nat) (b : List Int), By b → 64 * n ≤ b.length → ∀ s ∈ cut64 n b, Sec s
  | 0, _, _, _, s, hs => by simp [cut64] at hs
  | n + 1, b, hb, hl, s, hs => by
    simp only [cut64, List.mem_cons] at hs
    rcases hs with rfl | hs
    · exact ⟨by simp; omega, fun x hx => hb x (List.mem_of_mem_take hx)⟩
    · exact cut64_sec n (b.drop 64) (hb.drop 64) (by simp; omega) s hs
theorem cut64_at : ∀ (n : Nat) (b : List Int) (k : Nat), k < n → (cut64 n b).getD k [] = (b.drop (64 * k)).take 64
  | 0, _, k, h => by omega
  | n + 1, b, 0, _ => by simp [cut64]
  | n + 1, b, k + 1, h => by
    have := cut64_at n (b.drop 64) k (by omega)
    simp only [cut64, List.getD_cons_succ, this, List.drop_drop]
    congr 2
    omega
theorem cut64_flat : ∀ (n : Nat) (b : List Int), b.length = 64 * n → (cut64 n b).flatten = b
  | 0, b, h => by
    have : b = [] := List.eq_nil_of_length_eq_zero (by simpa using h)
    simp [cut64, this]
  | n + 1, b, h => by
    have := cut64_flat n (b.drop 64) (by simp; omega)
    simp only [cut64, List.flatten_cons, this, List.take_append_drop]

/-- Sectors written one by one, till the disk dies. -/
def storeP (d : Dk) (i : Nat) : List (List Int) → Dk × Int
  | [] => (d, 0)
  | s :: r => if d.left = 0 then (d, 50) else storeP (d.write i s) (i + 1) r
theorem storeP_snoc : ∀ (ss : List (List Int)) (d : Dk) (i : Nat) (s : List Int), storeP d i (ss ++ [s]) = if (storeP d i ss).2 = 0 then (if (storeP d i ss).1.left = 0 then ((storeP d i ss).1, 50) else ((storeP d i ss).1.write (i + ss.length) s, 0)) else storeP d i ss
  | [], d, i, s => by
    simp only [List.nil_append, storeP, if_true]
    by_cases h : d.left = 0 <;> simp [h]
  | x :: r, d, i, s => by
    simp only [List.cons_append, storeP]
    by_cases h : d.left = 0
    · simp [h]
    · simp only [h, if_false]
      rw [storeP_snoc r, List.length_cons, show i + 1 + r.length = i + (r.length + 1) by omega]
theorem storeP_err : ∀ (ss : List (List Int)) (d : Dk) (i : Nat), (storeP d i ss).2 = 0 ∨ (storeP d i ss).2 = 50
  | [], d, i => .inl rfl
  | x :: r, d, i => by
    unfold storeP
    split
    · exact .inr rfl
    · exact storeP_err r _ _
theorem storeP_stop : ∀ (ss t : List (List Int)) (d : Dk) (i : Nat), (storeP d i ss).2 = 50 → storeP d i (ss ++ t) = storeP d i ss
  | [], _, _, _, h => by simp [storeP] at h
  | x :: r, t, d, i, h => by
    simp only [List.cons_append, storeP] at h ⊢
    by_cases hd : d.left = 0
    · simp [hd]
    · simp only [hd, if_false] at h ⊢
      exact storeP_stop r t _ _ h
def flushP (d : Dk) : Dk × Int := if d.left = 0 then (d, 50) else (d.flush, 0)
/-- One behind the other, till one fails. -/
def thenP (x : Dk × Int) (f : Dk → Dk × Int) : Dk × Int := if x.2 ≠ 0 then x else f x.1
theorem storeP_ok {n : Nat} : ∀ (ss : List (List Int)) (d : Dk) (i : Nat), d.Ok n → (∀ s ∈ ss, Sec s) → i + ss.length ≤ n → (storeP d i ss).1.Ok n
  | [], _, _, h, _, _ => h
  | s :: r, d, i, h, hs, hi => by
    unfold storeP
    split
    · exact h
    · rename_i hd
      exact storeP_ok r _ _ (h.write hd (by simp at hi; omega) (hs s (by simp))) (fun x hx => hs x (by simp [hx])) (by simp at hi; omega)
theorem storeP_wait : ∀ (ss : List (List Int)) (d : Dk) (i : Nat), (storeP d i ss).1.wait.length ≤ d.wait.length + ss.length ∧ (storeP d i ss).1.writes ≤ d.writes + ss.length
  | [], d, i => by simp [storeP]
  | s :: r, d, i => by
    unfold storeP
    split
    · simp; omega
    · have := storeP_wait r (d.write i s) (i + 1)
      simp only [Dk.write, List.length_append, List.length_cons, List.length_nil] at this ⊢
      omega
theorem flushP_wait (d : Dk) : (flushP d).1.wait.length ≤ d.wait.length ∧ (flushP d).1.writes = d.writes := by
  unfold flushP
  split
  · exact ⟨Nat.le_refl _, rfl⟩
  · exact ⟨by simp [Dk.flush], rfl⟩

/-- The journal's head over frames. -/
def sumsOf : Nat → List Int → List Int
  | 0, _ => []
  | n + 1, f => (f.take 512).drop 508 ++ sumsOf n (f.drop 512)
def headOf (f : List Int) : List Int := (uv ((f.length / 512 : Nat) : Int) ++ sumsOf (f.length / 512) f) ++ zeros (64 - (uv ((f.length / 512 : Nat) : Int) ++ sumsOf (f.length / 512) f).length)
theorem sumsOf_len : ∀ (n : Nat) (f : List Int), 512 * n ≤ f.length → (sumsOf n f).length = 4 * n
  | 0, _, _ => rfl
  | n + 1, f, h => by
    have := sumsOf_len n (f.drop 512) (by simp; omega)
    simp only [sumsOf, List.length_append, this]
    simp; omega
theorem sumsOf_snoc : ∀ (n : Nat) (f : List Int), 512 * (n + 1) ≤ f.length → sumsOf (n + 1) f = sumsOf n f ++ ((f.drop (512 * n)).take 512).drop 508
  | 0, f, h => by simp [sumsOf]
  | n + 1, f, h => by
    have := sumsOf_snoc n (f.drop 512) (by simp; omega)
    rw [sumsOf, this, sumsOf, List.append_assoc, List.drop_drop]
    congr 5
    omega
theorem sumsOf_by : ∀ (n : Nat) (f : List Int), By f → By (sumsOf n f)
  | 0, _, _ => fun x hx => by simp [sumsOf] at hx
  | n + 1, f, h => ((h.take 512).drop 508).app (sumsOf_by n _ (h.drop 512))
theorem uv_small {k : Nat} (h : k ≤ 8) : uv (k : Int) = [(k : Int)] := uvF_small 9 (by omega)
theorem headOf_len {f : List Int} {k : Nat} (h : f.length = 512 * k) (hk : k ≤ 8) : (headOf f).length = 64 := by
  have e : f.length / 512 = k := by omega
  have := sumsOf_len k f (by omega)
  unfold headOf
  rw [e, uv_small hk]
  simp only [List.length_append, zeros_len, this, List.length_cons, List.length_nil]
  omega
theorem headOf_by {f : List Int} {k : Nat} (h : f.length = 512 * k) (hk : k ≤ 8) (hb : By f) : By (headOf f) := by
  have e : f.length / 512 = k := by omega
  unfold headOf
  rw [e]
  have hu : By (uv (k : Int)) := uv_byte (by omega) (by omega)
  exact (hu.app (sumsOf_by _ _ hb)).app (By.zeros _)
/-- How many frames a head tells. -/
def countOf (h : List Int) : Nat := if (dec 0 0 h).2.2 ≠ 0 ∨ 8 < (dec 0 0 h).1 then 0 else (dec 0 0 h).1.toNat
theorem countOf_le (h : List Int) : countOf h ≤ 8 := by unfold countOf; split <;> omega
theorem countOf_head {f : List Int} {k : Nat} (h : f.length = 512 * k) (hk : k ≤ 8) : countOf (headOf f) = k := by
  have e : f.length / 512 = k := by omega
  have d := dec_uv (x := (k : Int)) (by omega) (by omega) (sumsOf k f ++ zeros (64 - (uv (k : Int) ++ sumsOf k f).length))
  unfold countOf headOf
  rw [e, List.append_assoc, d]
  simp
  omega

/-- The pages of frames; none, if one is no frame. -/
def pagesIn : Nat → List Int → Option (List Pg)
  | 0, _ => some []
  | n + 1, f => if pageErr (f.take 512) ≠ 0 then none else (pagesIn n (f.drop 512)).map (pageIn (f.take 512) :: ·)
/-- May they be written at once? -/
def takes (n : Nat) (l : List Pg) : Prop := l.length ≤ 8 ∧ (∀ p ∈ l, p.Ok n) ∧ (l.map Pg.no).Nodup
/-- The frames of pages. -/
def framesOf (l : List Pg) : List Int := (l.map frameOf).flatten
theorem framesOf_len {l : List Pg} (h : ∀ p ∈ l, p.data.length = 480) : (framesOf l).length = 512 * l.length := by
  unfold framesOf
  rw [flatten_len (m := 512) _ (fun b hb => by obtain ⟨p, hp, rfl⟩ := List.mem_map.1 hb; exact frameOf_len (h p hp))]
  simp; omega
theorem pagesIn_back {n : Nat} (hn : n ≤ 4096) : ∀ (l : List Pg), (∀ p ∈ l, p.Ok n) → pagesIn l.length (framesOf l) = some l
  | [], _ => rfl
  | p :: r, h => by
    have hp := h p (by simp)
    have hl := frameOf_len hp.len
    have ht : (framesOf (p :: r)).take 512 = frameOf p := by
      simp only [framesOf, List.map_cons, List.flatten_cons]
      rw [List.take_append_of_le_length (by omega), List.take_of_length_le (by omega)]
    have hd : (framesOf (p :: r)).drop 512 = framesOf r := by
      simp only [framesOf, List.map_cons, List.flatten_cons]
      rw [List.drop_append_of_le_length (by omega), List.drop_of_length_le (by omega), List.nil_append]
    obtain ⟨e1, e2⟩ := page_back hp hn
    simp only [List.length_cons, pagesIn, ht, hd, e1, e2, pagesIn_back hn r (fun q hq => h q (by simp [hq])), ne_eq, not_true_eq_false, if_false, Option.map_some]
end Go.Proofs.YtafopokcfkgjiaaDoor
