/-
  Layer 14 in memory: edges, a row of them; how they are compared.
-/
import Derived.Test.YtjfnbgjnmjdeeaaTFn
namespace Go.Proofs.Ytjfnbgjnmjdeeaa
open Go.RowKit Go.Sort

/-- An edge as it lies in memory, its Line a slice. -/
structure ER where
  id : Int
  st : Int
  en : Int
  lo : Option Addr
  ll : Nat
  lc : Nat
  lf : Int
  rt : Int
abbrev erV (x : ER) : Value := .agg #[.int .i64 x.id, .int .i64 x.st, .int .i64 x.en, .slice x.lo x.ll x.lc, .int .i64 x.lf, .int .i64 x.rt]
/-- Its cells, from one on. -/
def EAt (w : World) (b o : Nat) (x : ER) : Prop :=
  w.cell? ⟨b, o, none⟩ = some (.int .i64 x.id) ∧ w.cell? ⟨b, o + 1, none⟩ = some (.int .i64 x.st) ∧ w.cell? ⟨b, o + 2, none⟩ = some (.int .i64 x.en) ∧ w.cell? ⟨b, o + 3, none⟩ = some (.slice x.lo x.ll x.lc) ∧ w.cell? ⟨b, o + 4, none⟩ = some (.int .i64 x.lf) ∧ w.cell? ⟨b, o + 5, none⟩ = some (.int .i64 x.rt)
theorem EAt.below {w w' : World} {b o B : Nat} {x : ER} (h : EAt w b o x) (hb : Below B w w') (hB : b < B) : EAt w' b o x :=
  ⟨cell_below h.1 hb hB, cell_below h.2.1 hb hB, cell_below h.2.2.1 hb hB, cell_below h.2.2.2.1 hb hB, cell_below h.2.2.2.2.1 hb hB, cell_below h.2.2.2.2.2 hb hB⟩
/-- A row of edges. -/
def EAts (w : World) (b off : Nat) (xs : List ER) : Prop := ∀ (k : Nat) (x : ER), xs[k]? = some x → EAt w b (off + k * 6) x
theorem EAts.below {w w' : World} {b off B : Nat} {xs : List ER} (h : EAts w b off xs) (hb : Below B w w') (hB : b < B) : EAts w' b off xs := fun k x hx => (h k x hx).below hb hB
theorem EAt.lt {w : World} {b o : Nat} {x : ER} (h : EAt w b o x) : b < w.heap.size := lt_of_cell h.1

/-- A boxed edge. -/
theorem ebox (w : World) (x : ER) (t : TypeId) : EAt (w.alloc (.cells #[.int .i64 x.id, .int .i64 x.st, .int .i64 x.en, .slice x.lo x.ll x.lc, .int .i64 x.lf, .int .i64 x.rt] t)) w.heap.size 0 x := by
  have h : (w.alloc (.cells #[.int .i64 x.id, .int .i64 x.st, .int .i64 x.en, .slice x.lo x.ll x.lc, .int .i64 x.lf, .int .i64 x.rt] t)).heap[w.heap.size]? = some (.cells #[.int .i64 x.id, .int .i64 x.st, .int .i64 x.en, .slice x.lo x.ll x.lc, .int .i64 x.lf, .int .i64 x.rt] t) := by unfold World.alloc; simp
  generalize w.alloc (.cells #[.int .i64 x.id, .int .i64 x.st, .int .i64 x.en, .slice x.lo x.ll x.lc, .int .i64 x.lf, .int .i64 x.rt] t) = W at h ⊢
  refine ⟨?_, ?_, ?_, ?_, ?_, ?_⟩ <;> simp [World.cell?, h]

set_option maxRecDepth 100000 in
set_option maxHeartbeats 1600000 in
theorem cmpID_any (x : ER) (id : Int) (w : World) :
    Calls Try.prog 27 #[erV x, .int .i64 id] w fun e w' => e = .returned (.int .i64 (sgn (x.id - id))) ∧ Below w.heap.size w w' := by
  obtain ⟨wA, hwA⟩ : ∃ wA, w.alloc (.cells #[.int .i64 x.id, .int .i64 x.st, .int .i64 x.en, .slice x.lo x.ll x.lc, .int .i64 x.lf, .int .i64 x.rt] 33) = wA := ⟨_, rfl⟩
  have hbA : Below w.heap.size w wA := by rw [← hwA]; exact (Below.refl _ w).alloc (Nat.le_refl _) _
  obtain ⟨c0, c1, c2, c3, c4, c5⟩ : EAt wA w.heap.size 0 x := by rw [← hwA]; exact ebox w x _
  have HC := hid (compareI_any x.id id wA)
  have HB := hid hbA
  clear hbA
  go_enter Try.func27, Try.ntmps27
  go_wp2_with (first
    | (go_at_call 20; refine HC.out.mono ?_; rintro e w1 ⟨rfl, hb1⟩; replace HB := hid (HB.out.trans (hb1.mono HB.out.size)); clear HC hb1))
  go_ret
  exact ⟨rfl, HB.out⟩

set_option maxRecDepth 100000 in
set_option maxHeartbeats 1600000 in
theorem byID1_any (x y : ER) (w : World) :
    Calls Try.prog 40 #[erV x, erV y] w fun e w' => e = .returned (.int .i64 (sgn (x.id - y.id))) ∧ Below w.heap.size w w' := by
  obtain ⟨wA, hwA⟩ : ∃ wA, w.alloc (.cells #[.int .i64 x.id, .int .i64 x.st, .int .i64 x.en, .slice x.lo x.ll x.lc, .int .i64 x.lf, .int .i64 x.rt] 33) = wA := ⟨_, rfl⟩
  obtain ⟨wB, hwB⟩ : ∃ wB, wA.alloc (.cells #[.int .i64 y.id, .int .i64 y.st, .int .i64 y.en, .slice y.lo y.ll y.lc, .int .i64 y.lf, .int .i64 y.rt] 33) = wB := ⟨_, rfl⟩
  have hbA : Below w.heap.size w wA := by rw [← hwA]; exact (Below.refl _ w).alloc (Nat.le_refl _) _
  have hsA : wA.heap.size = w.heap.size + 1 := by rw [← hwA]; simp
  have hbB : Below wA.heap.size wA wB := by rw [← hwB]; exact (Below.refl _ wA).alloc (Nat.le_refl _) _
  have hA : EAt wB w.heap.size 0 x := (show EAt wA w.heap.size 0 x by rw [← hwA]; exact ebox w x _).below hbB (by omega)
  have hB : EAt wB (w.heap.size + 1) 0 y := by rw [← hwB, ← hsA]; exact ebox wA y _
  obtain ⟨a0, a1, a2, a3, a4, a5⟩ := hA
  obtain ⟨b0, _⟩ := hB
  have HC := hid (cmpID_any x y.id wB)
  have HB := hid (hbA.trans (hbB.mono (by omega)))
  clear hbA hbB
  go_enter Try.func40, Try.ntmps40
  go_wp2_with (first
    | (go_at_call 27; refine HC.out.mono ?_; rintro e w1 ⟨rfl, hb1⟩; replace HB := hid (HB.out.trans (hb1.mono HB.out.size)); clear HC hb1))
  go_ret
  exact ⟨rfl, HB.out⟩

set_option maxRecDepth 100000 in
set_option maxHeartbeats 1600000 in
theorem byID2_any (x y : ER) (w : World) :
    Calls Try.prog 42 #[erV x, erV y] w fun e w' => e = .returned (.bool (x.id == y.id)) ∧ Below w.heap.size w w' := by
  obtain ⟨wA, hwA⟩ : ∃ wA, w.alloc (.cells #[.int .i64 x.id, .int .i64 x.st, .int .i64 x.en, .slice x.lo x.ll x.lc, .int .i64 x.lf, .int .i64 x.rt] 33) = wA := ⟨_, rfl⟩
  obtain ⟨wB, hwB⟩ : ∃ wB, wA.alloc (.cells #[.int .i64 y.id, .int .i64 y.st, .int .i64 y.en, .slice y.lo y.ll y.lc, .int .i64 y.lf, .int .i64 y.rt] 33) = wB := ⟨_, rfl⟩
  have hbA : Below w.heap.size w wA := by rw [← hwA]; exact (Below.refl _ w).alloc (Nat.le_refl _) _
  have hsA : wA.heap.size = w.heap.size + 1 := by rw [← hwA]; simp
  have hbB : Below wA.heap.size wA wB := by rw [← hwB]; exact (Below.refl _ wA).alloc (Nat.le_refl _) _
  have hA : EAt wB w.heap.size 0 x := (show EAt wA w.heap.size 0 x by rw [← hwA]; exact ebox w x _).below hbB (by omega)
  have hB : EAt wB (w.heap.size + 1) 0 y := by rw [← hwB, ← hsA]; exact ebox wA y _
  obtain ⟨a0, _⟩ := hA
  obtain ⟨b0, _⟩ := hB
  have HB := hid (hbA.trans (hbB.mono (by omega)))
  clear hbA hbB
  go_enter Try.func42, Try.ntmps42
  go_wp2
  go_ret
  exact ⟨rfl, HB.out⟩
end Go.Proofs.Ytjfnbgjnmjdeeaa
