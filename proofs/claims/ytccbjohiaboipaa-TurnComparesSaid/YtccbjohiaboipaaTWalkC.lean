/-
  TurnCompares, as its frame wants it.
-/
import Derived.Test.YtccbjohiaboipaaTComp
import Derived.Test.YtccbjohiaboipaaTTurnC
namespace Go.Proofs.Ytccbjohiaboipaa
open Go.RowKit

theorem turnCompares_walk (w : World) (x0 x1 : Int) (hx0 : -9223372036854775808 ≤ x0 ∧ x0 ≤ 9223372036854775807) (hx1 : -9223372036854775808 ≤ x1 ∧ x1 ≤ 9223372036854775807) (y0 y1 : Int) (hy0 : -9223372036854775808 ≤ y0 ∧ y0 ≤ 9223372036854775807) (hy1 : -9223372036854775808 ≤ y1 ∧ y1 ≤ 9223372036854775807)
    (z0 z1 : Int) (hz0 : -9223372036854775808 ≤ z0 ∧ z0 ≤ 9223372036854775807) (hz1 : -9223372036854775808 ≤ z1 ∧ z1 ≤ 9223372036854775807) (p0 p1 : Int) (hp0 : -9223372036854775808 ≤ p0 ∧ p0 ≤ 9223372036854775807) (hp1 : -9223372036854775808 ≤ p1 ∧ p1 ≤ 9223372036854775807) (q0 q1 : Int) (hq0 : -9223372036854775808 ≤ q0 ∧ q0 ≤ 9223372036854775807) (hq1 : -9223372036854775808 ≤ q1 ∧ q1 ≤ 9223372036854775807) :
    Calls Try.prog 4 #[pv x0 x1, pv y0 y1, pv z0 z1, pv p0 p1, pv q0 q1] w fun e w' => e = .returned (.bool true) ∧ Below w.heap.size w w' :=
  turnCompares_core turnC w x0 x1 y0 y1 z0 z1 p0 p1 q0 q1 _ _ _ _ _ _ _ ⟨hx0, hx1⟩ ⟨hy0, hy1⟩ ⟨hz0, hz1⟩ ⟨hp0, hp1⟩ ⟨hq0, hq1⟩ (hid rfl) (hid rfl) (hid rfl) (hid rfl) (hid rfl)
end Go.Proofs.Ytccbjohiaboipaa
