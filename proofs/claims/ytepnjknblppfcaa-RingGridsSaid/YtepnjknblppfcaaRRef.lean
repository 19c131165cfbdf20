/-
  Layer 13: rings of points; the document's Area2.
-/
import Derived.Test.YtepnjknblppfcaaRPlain
import Derived.Test.YtepnjknblppfcaaMB
import Derived.Test.YtepnjknblppfcaaQFree
import Derived.Test.YtepnjknblppfcaaSRay
namespace Go.Proofs.Ytepnjknblppfcaa
open Go.RowKit Go.Sort

/-- A ring of points, each as a call takes it. -/
def ringQ (ps : List Pp) (i : Nat) : Pp := clP (lpt ps i)
def areaL (ps : List Pp) : Int := areaR ps.length (ringQ ps)
def insideL (ps : List Pp) (p : Pp) : Int := insideR ps.length (ringQ ps) (clP p)
def holdsL (ps ms : List Pp) : Bool := decide (0 < ms.length) && ms.all fun m => insideL ps m == 1
def turnedL (ps : List Pp) : List Pp := (List.range ps.length).map fun i => lpt ps ((ps.length - i) % ps.length)

theorem areaL_few {ps : List Pp} (h : ps.length < 3) : areaL ps = 0 := by
  unfold areaL areaR
  match hn : ps.length, h with
  | 0, _ => rfl
  | 1, _ => show 0 + crossI (ringQ ps 0) (ringQ ps 0) = 0; rw [crossI_self]; rfl
  | 2, _ =>
    show 0 + crossI (ringQ ps 0) (ringQ ps 1) + crossI (ringQ ps 1) (ringQ ps 0) = 0
    rw [crossI_anti (ringQ ps 0) (ringQ ps 1)]
    omega
/-- What the first k segments sum up to. -/
def areaK (ps : List Pp) (k : Nat) : Int := sN k fun i => crossI (ringQ ps i) (ringQ ps ((i + 1) % ps.length))
theorem areaK_all (ps : List Pp) : areaK ps ps.length = areaL ps := rfl
theorem areaK_succ (ps : List Pp) (k : Nat) : areaK ps (k + 1) = areaK ps k + crossI (ringQ ps k) (ringQ ps ((k + 1) % ps.length)) := rfl
theorem ringQ_in (ps : List Pp) (i : Nat) : -1048576 ≤ (ringQ ps i).1 ∧ (ringQ ps i).1 ≤ 1048576 ∧ -1048576 ≤ (ringQ ps i).2 ∧ (ringQ ps i).2 ≤ 1048576 := ⟨near_lo _, near_hi _, near_lo _, near_hi _⟩
theorem crossI_bound {a b : Pp} (ha : -1048576 ≤ a.1 ∧ a.1 ≤ 1048576 ∧ -1048576 ≤ a.2 ∧ a.2 ≤ 1048576) (hb : -1048576 ≤ b.1 ∧ b.1 ≤ 1048576 ∧ -1048576 ≤ b.2 ∧ b.2 ≤ 1048576) : -8796093022208 ≤ crossI a b ∧ crossI a b ≤ 8796093022208 := by
  have m1 := mul_bound (u := a.1) (v := b.2) (by omega) (by omega) (by omega) (by omega)
  have m2 := mul_bound (u := b.1) (v := a.2) (by omega) (by omega) (by omega) (by omega)
  unfold crossI
  omega
theorem areaK_bound (ps : List Pp) : ∀ k : Nat, -(8796093022208 * (k : Int)) ≤ areaK ps k ∧ areaK ps k ≤ 8796093022208 * (k : Int)
  | 0 => by have h : areaK ps 0 = 0 := rfl; omega
  | k + 1 => by
    have h := areaK_bound ps k
    have c := crossI_bound (ringQ_in ps k) (ringQ_in ps ((k + 1) % ps.length))
    rw [areaK_succ]
    omega
theorem tmod_next {k n : Nat} (_hn : 0 < n) : Int.tmod ((k : Int) + 1) (n : Int) = (((k + 1) % n : Nat) : Int) := by
  rw [show ((k : Int) + 1) = ((k + 1 : Nat) : Int) by omega, Int.ofNat_tmod]




































































































































end Go.Proofs.Ytepnjknblppfcaa
