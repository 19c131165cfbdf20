/-
  The plain mathematics of layer 4: a piece in its sector, the head, a record in its frame. Nothing of the program is named here.
-/
import Derived.Test.YthhlbhnogcfnjaaDoorMA
namespace Go.Proofs.YthhlbhnogcfnjaaDoor
open Go.RowKit Go.PlainAid

theorem dec_len : ∀ (zs : List Int) (X : Int) (k : Nat), (dec X k zs).2.2 = 0 → (k : Int) + 1 ≤ (dec X k zs).2.1 ∧ (dec X k zs).2.1 ≤ k + zs.length
  | [], X, k, h => by simp [dec] at h
  | c :: l, X, k, h => by
    unfold dec at h ⊢
    split at h
    · simp at h
    · rename_i h1
      rw [if_neg h1]
      split at h
      · rename_i h2
        rw [if_pos h2]
        have := dec_len l _ _ h
        simp only [List.length_cons]
        omega
      · rename_i h2
        rw [if_neg h2]
        split at h
        · simp at h
        · rename_i h3
          rw [if_neg h3]
          simp only [List.length_cons]
          omega
theorem dec_ten : ∀ (zs : List Int) (X : Int) (k : Nat), k ≤ 9 → (dec X k zs).2.2 = 0 → (dec X k zs).2.1 ≤ 10
  | [], X, k, _, h => by simp [dec] at h
  | c :: l, X, k, hk, h => by
    unfold dec at h ⊢
    split at h
    · simp at h
    · rename_i h1
      rw [if_neg h1]
      split at h
      · rename_i h2
        rw [if_pos h2]
        exact dec_ten l _ _ (by omega) h
      · rename_i h2
        rw [if_neg h2]
        split at h
        · simp at h
        · rename_i h3
          rw [if_neg h3]
          show (k : Int) + 1 ≤ 10
          omega
theorem openB_by {s : List Int} (h : By s) : By (openB s) := fun b hx => by
  unfold openB at hx
  split at hx
  · exact h b (List.mem_of_mem_take hx)
  · simp at hx
theorem openB_size {s : List Int} (h : openE s = 0) : (openB s).length = s.length - 4 := by
  unfold openB
  rw [if_pos h, List.length_take]
  omega
/-- A sector as a piece: is it sound, its number, its bytes. -/
def pcOk (s : List Int) : Bool := decide (openE s = 0 ∧ (dec 0 0 ((openB s).drop 48)).2.2 = 0)
def pcNo (s : List Int) : Int := if pcOk s then (dec 0 0 ((openB s).drop 48)).1 else 0
def pcBy (s : List Int) : List Int := if pcOk s then (openB s).take 48 else []
theorem pcBy_by {s : List Int} (h : By s) : By (pcBy s) := by
  unfold pcBy
  split
  · exact (openB_by h).take 48
  · exact fun x hx => by simp at hx
theorem pcBy_len {s : List Int} (hs : s.length = 64) (h : pcOk s = true) : (pcBy s).length = 48 := by
  have h1 : openE s = 0 := by simp [pcOk] at h; exact h.1
  unfold pcBy
  rw [if_pos h, List.length_take, openB_size h1, hs]
  rfl
theorem pcNo_nonneg (s : List Int) : 0 ≤ pcNo s := by
  unfold pcNo
  split
  · exact dec_nonneg _ _ _ (by omega)
  · omega
/-- A sector as the head. -/
def hdOk (s : List Int) : Bool := decide (pcOk s = true ∧ pcNo s = 18446744073709551615 ∧ (dec 0 0 (pcBy s)).2.2 = 0 ∧ 1 ≤ (dec 0 0 (pcBy s)).1 ∧ (dec 0 0 (pcBy s)).1 ≤ 4611686018427387904 ∧
  (dec 0 0 ((pcBy s).drop (dec 0 0 (pcBy s)).2.1.toNat)).2.2 = 0 ∧ (dec 0 0 ((pcBy s).drop (dec 0 0 (pcBy s)).2.1.toNat)).1 ≤ 4611686018427387904)
def hdFirst (s : List Int) : Int := if hdOk s then (dec 0 0 (pcBy s)).1 else 0
def hdFrom (s : List Int) : Int := if hdOk s then (dec 0 0 ((pcBy s).drop (dec 0 0 (pcBy s)).2.1.toNat)).1 else 0
/-- The record whose frame bytes begin with. -/
def rcSize (b : List Int) : Int := (dec 0 0 (b.drop (dec 0 0 b).2.1.toNat)).1
def rcOk (b : List Int) (lsn : Int) : Bool := decide ((dec 0 0 b).2.2 = 0 ∧ (dec 0 0 b).1 = lsn ∧ (dec 0 0 (b.drop (dec 0 0 b).2.1.toNat)).2.2 = 0 ∧ rcSize b ≤ 2000 ∧ rcSize b + 16 ≤ b.length ∧ openE (b.take (rcSize b + 16).toNat) = 0)
def rcBy (b : List Int) (lsn : Int) : List Int := if rcOk b lsn then (openB (b.take (rcSize b + 16).toNat)).drop 12 else []
theorem rcSize_nonneg (b : List Int) : 0 ≤ rcSize b := dec_nonneg _ _ _ (by omega)
theorem rcBy_len {b : List Int} {lsn : Int} (h : rcOk b lsn = true) : ((rcBy b lsn).length : Int) = rcSize b ∧ (rcBy b lsn).length + 16 ≤ b.length ∧ (rcBy b lsn).length ≤ 2000 := by
  have h0 := rcSize_nonneg b
  have h1 := h
  simp only [rcOk, decide_eq_true_eq] at h1
  obtain ⟨_, _, _, h2, h3, h4⟩ := h1
  have : (rcBy b lsn).length = (rcSize b).toNat := by
    unfold rcBy
    rw [if_pos h, List.length_drop, openB_size h4, List.length_take]
    omega
  omega
/-- The records that bytes begin with, one by one. -/
def recsF : Nat → List Int → Int → List (List Int)
  | 0, _, _ => []
  | f + 1, b, lsn => if rcOk b lsn then rcBy b lsn :: recsF f (b.drop ((rcBy b lsn).length + 16)) (lsn + 1) else []
def recsP (b : List Int) (lsn : Int) : List (List Int) := recsF (b.length + 1) b lsn
theorem recsF_enough : ∀ (f g : Nat) (b : List Int) (lsn : Int), b.length < f → b.length < g → recsF f b lsn = recsF g b lsn
  | 0, _, _, _, h, _ => by omega
  | _, 0, _, _, _, h => by omega
  | f + 1, g + 1, b, lsn, hf, hg => by
    unfold recsF
    by_cases h : rcOk b lsn = true
    · have := (rcBy_len h).2.1
      rw [if_pos h, if_pos h, recsF_enough f g _ _ (by rw [List.length_drop]; omega) (by rw [List.length_drop]; omega)]
    · rw [if_neg h, if_neg h]
theorem recsP_yes {b : List Int} {lsn : Int} (h : rcOk b lsn = true) : recsP b lsn = rcBy b lsn :: recsP (b.drop ((rcBy b lsn).length + 16)) (lsn + 1) := by
  have := (rcBy_len h).2.1
  rw [recsP, recsF, if_pos h, recsP]
  congr 1
  exact recsF_enough _ _ _ _ (by rw [List.length_drop]; omega) (by rw [List.length_drop]; omega)
theorem recsP_no {b : List Int} {lsn : Int} (h : rcOk b lsn = false) : recsP b lsn = [] := by
  rw [recsP, recsF, if_neg (by rw [h]; decide)]
/-- Bytes of the stream that records take. -/
def bulkOf (rs : List (List Int)) : Nat := (rs.map fun r => r.length + 16).sum
theorem bulk_nil : bulkOf [] = 0 := rfl
theorem bulk_cons (r : List Int) (rs : List (List Int)) : bulkOf (r :: rs) = r.length + 16 + bulkOf rs := by simp [bulkOf]
theorem bulk_app (a b : List (List Int)) : bulkOf (a ++ b) = bulkOf a + bulkOf b := by simp [bulkOf]
theorem bulk_len (rs : List (List Int)) : rs.length * 16 ≤ bulkOf rs := by
  induction rs with
  | nil => simp [bulkOf]
  | cons r l ih => rw [bulk_cons, List.length_cons]; omega
theorem recsF_bulk : ∀ (f : Nat) (b : List Int) (lsn : Int), bulkOf (recsF f b lsn) ≤ b.length
  | 0, b, lsn => by simp [recsF, bulkOf]
  | f + 1, b, lsn => by
    unfold recsF
    by_cases h : rcOk b lsn = true
    · have h1 := (rcBy_len h).2.1
      have h2 := recsF_bulk f (b.drop ((rcBy b lsn).length + 16)) (lsn + 1)
      rw [if_pos h, bulk_cons]
      rw [List.length_drop] at h2
      omega
    · rw [if_neg h]; simp [bulkOf]
theorem recsP_bulk (b : List Int) (lsn : Int) : bulkOf (recsP b lsn) ≤ b.length := recsF_bulk _ b lsn
/-- The pieces that follow each other from number 'no' on. -/
def strmF (rd : Nat → List Int) : Nat → Nat → List Int
  | 0, _ => []
  | f + 1, no => if pcOk (rd no) = true ∧ pcNo (rd no) = no then pcBy (rd no) ++ strmF rd f (no + 1) else []
end Go.Proofs.YthhlbhnogcfnjaaDoor
