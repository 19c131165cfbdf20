/-
  A row of points that the call itself made: append.
-/
import Derived.Test.YtepnjknblppfcaaSList
import Derived.Test.YtepnjknblppfcaaQBox
import Derived.Test.YtepnjknblppfcaaQMeet
import Derived.OwnWalk
import Derived.Laws.OwnMore
namespace Go.Proofs.Ytepnjknblppfcaa
open Go.RowKit Go.Sort

theorem infoPt : (Try.prog.info? 24).map (fun i => (i.zero, i.size, i.bytes)) = some (some (.agg #[.int .i64 0, .int .i64 0]), 2, 16) := by kernel_rfl
def ptCells (ps : List Pp) : List Value := ps.flatMap fun p => [Value.int .i64 p.1, .int .i64 p.2]
def PtRow (W : World) (base : Nat) (v : Value) (ps : List Pp) : Prop := W.ownsRow base 24 2 v ps.length (ptCells ps)
theorem ptCells_app (a b : List Pp) : ptCells (a ++ b) = ptCells a ++ ptCells b := by simp [ptCells]
theorem ptCells_at : ∀ (ps : List Pp) (k : Nat) (p : Pp), ps[k]? = some p → (ptCells ps)[k * 2]? = some (.int .i64 p.1) ∧ (ptCells ps)[k * 2 + 1]? = some (.int .i64 p.2)
  | [], k, p, h => by simp at h
  | q :: ps, 0, p, h => by
    simp at h
    subst h
    exact ⟨rfl, rfl⟩
  | q :: ps, k + 1, p, h => by
    have h' := ptCells_at ps k p (by simpa using h)
    have e : ptCells (q :: ps) = .int .i64 q.1 :: .int .i64 q.2 :: ptCells ps := rfl
    rw [e, show (k + 1) * 2 = k * 2 + 1 + 1 by omega]
    exact ⟨by simpa using h'.1, by simpa using h'.2⟩
theorem PtRow.below {w w' : World} {base : Nat} {v : Value} {ps : List Pp} (h : PtRow w base v ps) (hb : Below w.heap.size w w') : PtRow w' base v ps := by
  refine ⟨h.1, ?_⟩
  rcases h.2 with h0 | ⟨g, cap, cur, h1, h2, h3, h4⟩
  · exact .inl h0
  · exact .inr ⟨g, cap, cur, h1, h2, (hb.block g (lt_of_heap h3)).trans h3, h4⟩
theorem PtRow.form {w : World} {base : Nat} {v : Value} {ps : List Pp} (h : PtRow w base v ps) : ∃ ao cap, v = .slice ao ps.length cap := by
  rcases h.2 with ⟨rfl, h0⟩ | ⟨g, cap, cur, rfl, _⟩
  · exact ⟨none, 0, by rw [h0]⟩
  · exact ⟨_, cap, rfl⟩
theorem PtRow.at {w : World} {base : Nat} {ao : Option Addr} {n cap : Nat} {ps : List Pp} (h : PtRow w base (.slice ao n cap) ps) {k : Nat} {p : Pp} (hk : ps[k]? = some p) : ∃ g, ao = some ⟨g, 0, none⟩ ∧ w.cell? ⟨g, k * 2, none⟩ = some (.int .i64 p.1) ∧ w.cell? ⟨g, k * 2 + 1, none⟩ = some (.int .i64 p.2) := by
  have hlt := (List.getElem?_eq_some_iff.1 hk).1
  rcases h.2 with ⟨e, h0⟩ | ⟨g, cap', cur, e, _⟩
  · omega
  · injection e with e1 e2 e3
    subst e1 e2
    have h' : w.ownsRow base 24 2 (.slice (some ⟨g, 0, none⟩) ps.length cap) ps.length (ptCells ps) := h
    obtain ⟨c0, c1⟩ := ptCells_at ps k p hk
    exact ⟨g, rfl, (h'.cellAt (k * 2) (by omega)).trans c0, (h'.cellAt (k * 2 + 1) (by omega)).trans c1⟩
theorem PtRow.snoc {w : World} {base : Nat} {v : Value} {ps : List Pp} (h : PtRow w base v ps) (hb : base ≤ w.heap.size) (hl : ps.length ≤ 1000000) (p : Pp) :
    ∃ ao cap w', (Builtin.append_ #[22, 22] 22 #[v, .slice (some ⟨w.heap.size, 0, none⟩) 1 1]).run Try.prog (w.alloc (.cells #[.int .i64 p.1, .int .i64 p.2] 24)) = .ok (.slice ao (ps.length + 1) cap) w' ∧
      PtRow w' base (.slice ao (ps.length + 1) cap) (ps ++ [p]) ∧ Below base w w' := by
  obtain ⟨i0, hi, hz0, hz1, hz2⟩ := info_parts infoPt
  obtain ⟨wA, hwA⟩ : ∃ wA, wA = w.alloc (.cells #[.int .i64 p.1, .int .i64 p.2] 24) := ⟨_, rfl⟩
  have hbA : Below w.heap.size w wA := by rw [hwA]; exact (Below.refl _ _).alloc (Nat.le_refl _) _
  have hP : Pt wA w.heap.size p.1 p.2 := by rw [hwA]; exact Pt.new w p.1 p.2
  have h2 := h.below hbA
  obtain ⟨v', w', hrun, r1, r2, _⟩ := run_append_own (P := Try.prog) wA base 22 22 24 i0 _ 2 16 Try.underlying22 hi hz0 hz1 hz2 rfl (by decide) v ps.length _ h2 ⟨w.heap.size, 0, none⟩ 1 1 [.int .i64 p.1, .int .i64 p.2] rfl
    (fun j u hj => by
      match j, hj with
      | 0, hj => simp at hj; subst hj; exact hP.c0
      | 1, hj => simp at hj; subst hj; exact hP.c1
      | j + 2, hj => simp at hj) (by intro u hu'; simp at hu'; rcases hu' with rfl | rfl <;> rfl) (by unfold maxLen; omega) (by omega) (by rw [hwA]; simp; omega)
  obtain ⟨ao, cap, rfl⟩ : ∃ ao cap, v' = .slice ao (ps.length + 1) cap := by
    rcases r1.2 with ⟨rfl, h0⟩ | ⟨g, cap, cur, rfl, _, _, hc, _⟩
    · omega
    · exact ⟨_, cap, rfl⟩
  rw [← hwA]
  refine ⟨ao, cap, w', hrun, ?_, ?_⟩
  · unfold PtRow
    rw [ptCells_app, List.length_append]
    exact r1
  · refine (hbA.mono hb).grown r2 (Nat.le_trans hb hbA.size) (fun k e => ?_)
    rcases h.2 with ⟨rfl, _⟩ | ⟨g, cap', cur, rfl, hg, _⟩
    · cases e
    · cases e
      exact hg

theorem wpList_append_run {P : Program} {ops : Array Oper} {rest : List Oper} {o : Oper} {a : Act} {w w' : World} {Q : Exit → Act → World → Prop} (hg : o.guard = none) (s x : Operand) (t : TypeId) (hop : o.op = Op.call { callee := Callee.builtin Builtin.append, args := #[s, x], argTypes := #[t, t] }) {v u v' : Value} (hs : a.eval s = v) (hx : a.eval x = u)
    (hrun : (Builtin.append_ #[t, t] o.type #[v, u]).run P w = .ok v' w') (hK : wpList P ops Q rest (a.put o.dst v') w') : wpList P ops Q (o :: rest) a w :=
  wpList_plain hg fun K hK' => by
    unfold Oper.wp
    rw [show (execOp a.eval o).run P w = .ok (.value v') w' by simp [execOp, hop, resolve, invoke, builtin, hs, hx, hrun, Result.andThen]]
    exact hK' _ _ hK
end Go.Proofs.Ytepnjknblppfcaa
