/-
  Lines of segments, as exact numbers tell of them.
-/
import Derived.Test.YtlnjjkgjknheiaaSShr
import Derived.Test.YtlnjjkgjknheiaaMC
namespace Go.Proofs.Ytlnjjkgjknheiaa

/-- The point that a call takes for p. -/
def clP (p : Pp) : Pp := (near p.1, near p.2)
def lpt (ps : List Pp) (i : Nat) : Pp := ps.getD i (0, 0)
/-- How two segments of two lines stand. -/
def sgR (ps qs : List Pp) (i k : Nat) : Int := relP (clP (lpt ps i)) (clP (lpt ps (i + 1))) (clP (lpt qs k)) (clP (lpt qs (k + 1)))
def closedL (ps : List Pp) : Bool := decide (3 ≤ ps.length) && eqp (clP (lpt ps 0)) (clP (lpt ps (ps.length - 1)))
def wantL (ps : List Pp) (i k : Nat) : Int := if k = i + 1 ∨ (i = 0 ∧ k + 1 = ps.length - 1 ∧ 2 < ps.length - 1 ∧ closedL ps = true) then 1 else 0
def stepsL (ps : List Pp) : Bool := (List.range (ps.length - 1)).all fun i => !eqp (clP (lpt ps i)) (clP (lpt ps (i + 1)))
def pairsL (ps : List Pp) : Bool := (List.range (ps.length - 1)).all fun i => (List.range (ps.length - 1)).all fun k => decide (k ≤ i) || sgR ps ps i k == wantL ps i k
def simpleL (ps : List Pp) : Bool := stepsL ps && pairsL ps
def gridL (ps : List Pp) : Bool := ps.all fun p => okP p.1 p.2
def okL (ps : List Pp) : Bool := decide (2 ≤ ps.length) && decide (ps.length ≤ 64) && gridL ps && simpleL ps
def joinL (a b : List Pp) : List Pp := if 0 < a.length ∧ 0 < b.length ∧ lpt a (a.length - 1) = lpt b 0 then a ++ b.drop 1 else a ++ b
def onL (ps : List Pp) (p : Pp) (i : Nat) : Bool := on2 (clP (lpt ps i)) (clP (lpt ps (i + 1))) (clP p)
def atL (ps : List Pp) (p : Pp) : Option Nat := (List.range (ps.length - 1)).find? (onL ps p)
def endL (ps : List Pp) (p : Pp) : Bool := eqp (lpt ps 0) p || eqp (lpt ps (ps.length - 1)) p
def splitL (ps : List Pp) (p : Pp) : (List Pp × List Pp) × Bool :=
  match atL ps p with
  | none => (([], []), false)
  | some k => if endL ps p then (([], []), false) else ((ps.take (k + 1) ++ [p], if lpt ps (k + 1) = p then ps.drop (k + 1) else p :: ps.drop (k + 1)), true)
def shdL (ps qs : List Pp) (i k : Nat) : Pp := (shdP (clP (lpt ps i)) (clP (lpt ps (i + 1))) (clP (lpt qs k)) (clP (lpt qs (k + 1)))).1
def meetL (a b : List Pp) (i k : Nat) : Bool := sgR a b i k == 0 || (sgR a b i k == 1 && endL a (shdL a b i k) && endL b (shdL a b i k))
def apartL (a b : List Pp) : Bool := (List.range (a.length - 1)).all fun i => (List.range (b.length - 1)).all fun k => meetL a b i k

theorem lpt_at {ps : List Pp} {i : Nat} {p : Pp} (h : ps[i]? = some p) : lpt ps i = p := by
  unfold lpt
  rw [List.getD_eq_getElem?_getD, h]
  rfl
theorem at_lpt {ps : List Pp} {i : Nat} (h : i < ps.length) : ps[i]? = some (lpt ps i) := by
  unfold lpt
  rw [List.getD_eq_getElem?_getD, List.getElem?_eq_getElem h]
  rfl
theorem all_range_succ (f : Nat → Bool) (k : Nat) : (List.range (k + 1)).all f = ((List.range k).all f && f k) := by
  rw [List.range_succ, List.all_append]
  simp
/-- A test that all pass up to n, as far as k. -/
theorem all_range_false {f : Nat → Bool} {k n : Nat} (h : k < n) (hf : f k = false) : (List.range n).all f = false := by
  rw [List.all_eq_false]
  exact ⟨k, List.mem_range.2 h, by rw [hf]; simp⟩
theorem clP_clP (p : Pp) : clP (clP p) = clP p := by unfold clP; rw [near_near, near_near]
/-- Points of the grid. -/
def Gl (ps : List Pp) : Prop := ∀ p ∈ ps, clP p = p
theorem gl_map (ps : List Pp) : Gl (ps.map clP) := fun p hp => by
  obtain ⟨q, _, rfl⟩ := List.mem_map.1 hp
  exact clP_clP q
theorem Gl.rev {ps : List Pp} (h : Gl ps) : Gl ps.reverse := fun p hp => h p (List.mem_reverse.1 hp)
theorem Gl.p64 {ps : List Pp} (h : Gl ps) : ∀ p ∈ ps, P64 p := fun p hp => by
  have e := h p hp
  have e1 : near p.1 = p.1 := congrArg Prod.fst e
  have e2 : near p.2 = p.2 := congrArg Prod.snd e
  have := near_lo p.1; have := near_hi p.1; have := near_lo p.2; have := near_hi p.2
  exact ⟨⟨by omega, by omega⟩, ⟨by omega, by omega⟩⟩
/-- A slice that was laid behind all that was there. -/
def Newer (base : Nat) (v : Value) : Prop := ∀ a n c, v = .slice (some a) n c → base ≤ a.block
end Go.Proofs.Ytlnjjkgjknheiaa
