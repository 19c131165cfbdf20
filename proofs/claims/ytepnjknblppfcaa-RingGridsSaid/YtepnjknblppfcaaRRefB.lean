/-
  Layer 13: the document's Inside, Holds.
-/
import Derived.Test.YtepnjknblppfcaaRRef
namespace Go.Proofs.Ytepnjknblppfcaa
open Go.RowKit Go.Sort

theorem cN_succ (b : Nat → Bool) (k : Nat) : cN (k + 1) b = cN k b + if b k then 1 else 0 := rfl
theorem odd_step {c : Int} : decide ((c + 1) % 2 = 1) = !decide (c % 2 = 1) := by
  by_cases h : c % 2 = 1
  · rw [decide_eq_true h, decide_eq_false (by omega)]; rfl
  · rw [decide_eq_false h, decide_eq_true (by omega)]; rfl
/-- Is the segment at i met, is it a ray's? -/
def onAt (ps : List Pp) (p : Pp) (i : Nat) : Bool := on2 (ringQ ps i) (ringQ ps ((i + 1) % ps.length)) (clP p)
def rayAt (ps : List Pp) (p : Pp) (i : Nat) : Bool := rayP (ringQ ps i) (ringQ ps ((i + 1) % ps.length)) (clP p)
def oddK (ps : List Pp) (p : Pp) (k : Nat) : Bool := decide (cN k (rayAt ps p) % 2 = 1)
theorem oddK_zero (ps : List Pp) (p : Pp) : oddK ps p 0 = false := rfl
theorem oddK_yes {ps : List Pp} {p : Pp} {k : Nat} (h : rayAt ps p k = true) : oddK ps p (k + 1) = !oddK ps p k := by
  unfold oddK
  rw [cN_succ, h]
  exact odd_step
theorem oddK_no {ps : List Pp} {p : Pp} {k : Nat} (h : rayAt ps p k = false) : oddK ps p (k + 1) = oddK ps p k := by
  unfold oddK
  rw [cN_succ, h]
  simp
theorem insideL_on {ps : List Pp} {p : Pp} {k : Nat} (hk : k < ps.length) (h : onAt ps p k = true) : insideL ps p = 0 := by
  unfold insideL insideR
  rw [if_pos]
  have h0 := cN_nonneg (onAt ps p) ps.length
  rcases Int.lt_or_eq_of_le h0 with g | g
  · exact g
  · have := (cN_zero (b := onAt ps p)).1 g.symm k hk
    rw [h] at this
    cases this
theorem insideL_off {ps : List Pp} {p : Pp} (h : ∀ i, i < ps.length → onAt ps p i = false) : insideL ps p = if oddK ps p ps.length then 1 else -1 := by
  unfold insideL insideR
  have e : onR ps.length (ringQ ps) (clP p) = 0 := (cN_zero (b := onAt ps p)).2 h
  rw [e, if_neg (by omega)]
  show (if cN ps.length (rayAt ps p) % 2 = 1 then 1 else -1) = _
  unfold oddK
  by_cases g : cN ps.length (rayAt ps p) % 2 = 1
  · rw [if_pos g, decide_eq_true g]; rfl
  · rw [if_neg g, decide_eq_false g]; rfl
























































































































































































theorem holdsL_no {ps ms : List Pp} {k : Nat} (hk : k < ms.length) (h : insideL ps (lpt ms k) ≠ 1) : holdsL ps ms = false := by
  cases hh : holdsL ps ms with
  | false => rfl
  | true =>
    unfold holdsL at hh
    rw [Bool.and_eq_true, List.all_eq_true] at hh
    have := hh.2 _ (List.mem_of_getElem? (at_lpt hk))
    rw [beq_iff_eq] at this
    exact absurd this h
theorem holdsL_yes {ps ms : List Pp} (h : ∀ i, i < ms.length → insideL ps (lpt ms i) = 1) : holdsL ps ms = decide (0 < ms.length) := by
  unfold holdsL
  rw [show (ms.all fun m => insideL ps m == 1) = true from List.all_eq_true.2 fun p hp => by
    obtain ⟨i, hi⟩ := List.getElem?_of_mem hp
    have := h i (List.getElem?_eq_some_iff.1 hi).1
    rw [lpt_at hi] at this
    rw [this]
    rfl, Bool.and_true]




































































end Go.Proofs.Ytepnjknblppfcaa
