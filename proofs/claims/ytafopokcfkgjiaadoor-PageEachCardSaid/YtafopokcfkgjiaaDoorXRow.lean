/-
  Layer 3: slices of two and of three pages, just laid; a row of numbers that the call itself made.
-/
import Derived.Test.YtafopokcfkgjiaaDoorXIs
import Derived.Test.YtafopokcfkgjiaaDoorDCrash
namespace Go.Proofs.YtafopokcfkgjiaaDoor
open Go.RowKit

/-- A slice of three pages, just laid. -/
theorem pgs_three {w : World} {n0 n1 n2 m0 m1 m2 : Nat} {a0 a1 a2 : Option Addr} {c0 c1 c2 : Nat} (h0 : w.ownsRow 0 5 1 (.slice a0 480 c0) 480 (secV (dataL m0))) (h1 : w.ownsRow 0 5 1 (.slice a1 480 c1) 480 (secV (dataL m1))) (h2 : w.ownsRow 0 5 1 (.slice a2 480 c2) 480 (secV (dataL m2))) :
    Pgs (w.alloc (.cells #[.int .i64 n0, .int .u64 m0, .slice a0 480 c0, .int .i64 n1, .int .u64 m1, .slice a1 480 c1, .int .i64 n2, .int .u64 m2, .slice a2 480 c2] 33)) (.slice (some ⟨w.heap.size, 0, none⟩) 3 3) [pgOf n0 m0, pgOf n1 m1, pgOf n2 m2] := by
  refine ⟨_, 3, rfl, Nat.le_refl _, fun _ => ⟨w.heap.size, 0, _, (0, 0), rfl, heap_new w _, fun k p hk => ?_⟩⟩
  have hc : ∀ j : Nat, (w.alloc (.cells #[.int .i64 n0, .int .u64 m0, .slice a0 480 c0, .int .i64 n1, .int .u64 m1, .slice a1 480 c1, .int .i64 n2, .int .u64 m2, .slice a2 480 c2] 33)).cell? ⟨w.heap.size, j, none⟩ = (#[Value.int .i64 n0, .int .u64 m0, .slice a0 480 c0, .int .i64 n1, .int .u64 m1, .slice a1 480 c1, .int .i64 n2, .int .u64 m2, .slice a2 480 c2] : Array Value)[j]? := fun j => cell_of_row _ _ _ _ _ _ (heap_new w _)
  match k, hk with
  | 0, hk =>
    simp only [List.getElem?_cons_zero, Option.some.injEq] at hk
    subst hk
    refine ⟨.slice a0 480 c0, hc 0, hc 1, hc 2, ?_⟩
    rw [show (pgOf n0 m0).data.length = 480 from dataL_len m0]
    exact h0.alloc _
  | 1, hk =>
    simp only [List.getElem?_cons_succ, List.getElem?_cons_zero, Option.some.injEq] at hk
    subst hk
    refine ⟨.slice a1 480 c1, hc 3, hc 4, hc 5, ?_⟩
    rw [show (pgOf n1 m1).data.length = 480 from dataL_len m1]
    exact h1.alloc _
  | 2, hk =>
    simp only [List.getElem?_cons_succ, List.getElem?_cons_zero, Option.some.injEq] at hk
    subst hk
    refine ⟨.slice a2 480 c2, hc 6, hc 7, hc 8, ?_⟩
    rw [show (pgOf n2 m2).data.length = 480 from dataL_len m2]
    exact h2.alloc _
  | k + 3, hk => simp at hk
/-- A slice of two pages, just laid. -/
theorem pgs_two {w : World} {n0 n1 m0 m1 : Nat} {a0 a1 : Option Addr} {c0 c1 : Nat} (h0 : w.ownsRow 0 5 1 (.slice a0 480 c0) 480 (secV (dataL m0))) (h1 : w.ownsRow 0 5 1 (.slice a1 480 c1) 480 (secV (dataL m1))) :
    Pgs (w.alloc (.cells #[.int .i64 n0, .int .u64 m0, .slice a0 480 c0, .int .i64 n1, .int .u64 m1, .slice a1 480 c1] 33)) (.slice (some ⟨w.heap.size, 0, none⟩) 2 2) [pgOf n0 m0, pgOf n1 m1] := by
  refine ⟨_, 2, rfl, Nat.le_refl _, fun _ => ⟨w.heap.size, 0, _, (0, 0), rfl, heap_new w _, fun k p hk => ?_⟩⟩
  have hc : ∀ j : Nat, (w.alloc (.cells #[.int .i64 n0, .int .u64 m0, .slice a0 480 c0, .int .i64 n1, .int .u64 m1, .slice a1 480 c1] 33)).cell? ⟨w.heap.size, j, none⟩ = (#[Value.int .i64 n0, .int .u64 m0, .slice a0 480 c0, .int .i64 n1, .int .u64 m1, .slice a1 480 c1] : Array Value)[j]? := fun j => cell_of_row _ _ _ _ _ _ (heap_new w _)
  match k, hk with
  | 0, hk =>
    simp only [List.getElem?_cons_zero, Option.some.injEq] at hk
    subst hk
    refine ⟨.slice a0 480 c0, hc 0, hc 1, hc 2, ?_⟩
    rw [show (pgOf n0 m0).data.length = 480 from dataL_len m0]
    exact h0.alloc _
  | 1, hk =>
    simp only [List.getElem?_cons_succ, List.getElem?_cons_zero, Option.some.injEq] at hk
    subst hk
    refine ⟨.slice a1 480 c1, hc 3, hc 4, hc 5, ?_⟩
    rw [show (pgOf n1 m1).data.length = 480 from dataL_len m1]
    exact h1.alloc _
  | k + 2, hk => simp at hk

theorem infoInt : (Tryd.prog.info? 3).map (fun i => (i.zero, i.size, i.bytes)) = some (some (.int .i64 0), 1, 8) := by kernel_rfl
/-- A row of numbers that the call itself made. -/
def NRow (W : World) (base : Nat) (v : Value) (zs : List Int) : Prop := W.ownsRow base 3 1 v zs.length (zs.map (Value.int .i64))
theorem NRow.below {w w' : World} {base : Nat} {v : Value} {zs : List Int} (h : NRow w base v zs) (hb : Below w.heap.size w w') : NRow w' base v zs := by
  refine ⟨h.1, ?_⟩
  rcases h.2 with h0 | ⟨g, cap, cur, h1, h2, h3, h4⟩
  · exact .inl h0
  · exact .inr ⟨g, cap, cur, h1, h2, (hb.block g (lt_of_heap h3)).trans h3, h4⟩
theorem NRow.nil (w : World) (base : Nat) : NRow w base (.slice none 0 0) [] := by
  have h := World.ownsRow_nil w base 3 1
  exact h
theorem NRow.ints {w : World} {base : Nat} {v : Value} {zs : List Int} (h : NRow w base v zs) (hz : ∀ y ∈ zs, -9223372036854775808 ≤ y ∧ y ≤ 9223372036854775807) : Ints w v zs := by
  refine ⟨hz, ?_⟩
  rcases h.2 with ⟨rfl, h0⟩ | ⟨g, cap, cur, rfl, h2⟩
  · exact ⟨none, 0, by rw [h0], fun hl => by omega⟩
  · refine ⟨_, cap, rfl, fun hl => ⟨g, 0, rfl, fun j hj => ?_⟩⟩
    have h' : w.ownsRow base 3 1 (.slice (some ⟨g, 0, none⟩) zs.length cap) zs.length (zs.map (Value.int .i64)) := h
    rw [Nat.zero_add]
    refine (h'.cellAt j (by omega)).trans ?_
    simp [List.getD, hj]
theorem NRow.snoc {w : World} {base : Nat} {v : Value} {zs : List Int} (h : NRow w base v zs) (hb : base ≤ w.heap.size) (hl : zs.length ≤ 1000000) (z : Int) :
    ∃ v' w', (Builtin.append_ #[39, 39] 39 #[v, .slice (some ⟨w.heap.size, 0, none⟩) 1 1]).run Tryd.prog (w.alloc (.cells #[.int .i64 z] 3)) = .ok v' w' ∧ NRow w' base v' (zs ++ [z]) ∧ Below base w w' := by
  obtain ⟨i0, hi, hz0, hz1, hz2⟩ := info_parts infoInt
  obtain ⟨wA, hwA⟩ : ∃ wA, wA = w.alloc (.cells #[.int .i64 z] 3) := ⟨_, rfl⟩
  have hbA : Below w.heap.size w wA := by rw [hwA]; exact (Below.refl _ _).alloc (Nat.le_refl _) _
  have hnew : wA.heap[w.heap.size]? = some (.cells #[.int .i64 z] 3 (0, 0)) := by rw [hwA]; exact heap_new w _
  have h2 := h.below hbA
  obtain ⟨v', w', hrun, r1, r2, _⟩ := run_append_own (P := Tryd.prog) wA base 39 39 3 i0 _ 1 8 Tryd.underlying39 hi hz0 hz1 hz2 rfl (by decide) v zs.length _ h2 ⟨w.heap.size, 0, none⟩ 1 1 [.int .i64 z] rfl
    (fun j u hj => by rw [Addr.add_lit, Nat.zero_add, cell_of_row _ _ _ _ _ _ hnew, ← hj]; simp) (by intro u hu'; simp at hu'; subst hu'; rfl) (by unfold maxLen; omega) (by omega) (by rw [hwA]; simp; omega)
  rw [← hwA]
  refine ⟨v', w', hrun, ?_, ?_⟩
  · unfold NRow
    rw [List.map_append, List.length_append]
    exact r1
  · refine (hbA.mono hb).grown r2 (Nat.le_trans hb hbA.size) (fun k e => ?_)
    rcases h.2 with ⟨rfl, _⟩ | ⟨g, cap', cur, rfl, hg, _⟩
    · cases e
    · cases e
      exact hg
end Go.Proofs.YtafopokcfkgjiaaDoor
