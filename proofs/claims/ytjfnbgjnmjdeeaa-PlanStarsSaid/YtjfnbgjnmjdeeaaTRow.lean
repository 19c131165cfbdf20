/-
  Directions in blocks of their own; rows of directions and of numbers that the call itself made: append.
-/
import Derived.Test.YtjfnbgjnmjdeeaaQBase
import Derived.OwnWalk
import Derived.Laws.OwnMore
import Derived.Maps.AppendAt
namespace Go.Proofs.Ytjfnbgjnmjdeeaa
open Go.RowKit Go.Sort

/-- Two numbers in a block of their own, of a type. -/
def Dt (t : TypeId) (w : World) (b : Nat) (x y : Int) : Prop := w.heap[b]? = some (.cells #[.int .i64 x, .int .i64 y] t (0, 0))
theorem Dt.lt {t : TypeId} {w : World} {b : Nat} {x y : Int} (h : Dt t w b x y) : b < w.heap.size := lt_of_heap h
theorem Dt.c0 {t : TypeId} {w : World} {b : Nat} {x y : Int} (h : Dt t w b x y) : w.cell? ⟨b, 0, none⟩ = some (.int .i64 x) := by
  unfold Dt at h; simp [World.cell?, h]
theorem Dt.c1 {t : TypeId} {w : World} {b : Nat} {x y : Int} (h : Dt t w b x y) : w.cell? ⟨b, 1, none⟩ = some (.int .i64 y) := by
  unfold Dt at h; simp [World.cell?, h]
theorem Dt.f0 {t : TypeId} {w : World} {b : Nat} {x y : Int} (h : Dt t w b x y) : w.frozen? ⟨b, 0, none⟩ = false := by
  unfold Dt at h; simp [World.frozen?, h]
theorem Dt.f1 {t : TypeId} {w : World} {b : Nat} {x y : Int} (h : Dt t w b x y) : w.frozen? ⟨b, 1, none⟩ = false := by
  unfold Dt at h; simp [World.frozen?, h]
theorem Dt.below {t : TypeId} {w w' : World} {b n : Nat} {x y : Int} (h : Dt t w b x y) (hb : Below n w w') (hl : b < n) : Dt t w' b x y := (hb.block b hl).trans h
theorem Dt.alloc {t : TypeId} {w : World} {b : Nat} {x y : Int} (h : Dt t w b x y) (o : Obj) : Dt t (w.alloc o) b x y := (Below.heap_alloc _ _ _ h.lt).trans h
theorem Dt.new (t : TypeId) (w : World) (x y : Int) : Dt t (w.alloc (.cells #[.int .i64 x, .int .i64 y] t)) w.heap.size x y := by
  unfold Dt World.alloc; simp
theorem Dt.set {t : TypeId} {w : World} {b : Nat} {x y : Int} (h : Dt t w b x y) (x' y' : Int) : Dt t ((w.setCell ⟨b, 0, none⟩ (.int .i64 x')).setCell ⟨b, 1, none⟩ (.int .i64 y')) b x' y' := by
  have h1 := heap_setCell_same w b 0 _ _ (.int .i64 x') h
  have h2 := heap_setCell_same _ b 1 _ _ (.int .i64 y') h1
  exact h2
theorem Dt.far {t : TypeId} {w : World} {b c : Nat} {x y : Int} (h : Dt t w c x y) (hne : c ≠ b) (u v : Value) : Dt t ((w.setCell ⟨b, 0, none⟩ u).setCell ⟨b, 1, none⟩ v) c x y := by
  unfold Dt
  rw [Below.heap_setCell _ _ _ _ (by exact hne), Below.heap_setCell _ _ _ _ (by exact hne)]
  exact h
theorem Dt.pt {w : World} {b : Nat} {x y : Int} : Dt 23 w b x y ↔ Pt w b x y := Iff.rfl
theorem dbox3 {t : TypeId} {w wA wB wC : World} {a0 a1 b0 b1 c0 c1 : Int} (hA : w.alloc (.cells #[.int .i64 a0, .int .i64 a1] t) = wA) (hB : wA.alloc (.cells #[.int .i64 b0, .int .i64 b1] t) = wB)
    (hC : wB.alloc (.cells #[.int .i64 c0, .int .i64 c1] t) = wC) :
    Dt t wC w.heap.size a0 a1 ∧ Dt t wC (w.heap.size + 1) b0 b1 ∧ Dt t wC (w.heap.size + 2) c0 c1 ∧ Below w.heap.size w wC ∧ wC.heap.size = w.heap.size + 3 ∧ wA.heap.size = w.heap.size + 1 ∧ wB.heap.size = w.heap.size + 2 := by
  have hszA : wA.heap.size = w.heap.size + 1 := by rw [← hA]; simp
  have hszB : wB.heap.size = w.heap.size + 2 := by rw [← hB]; simp [hszA]
  have hszC : wC.heap.size = w.heap.size + 3 := by rw [← hC]; simp [hszB]
  refine ⟨?_, ?_, ?_, ?_, hszC, hszA, hszB⟩
  · rw [← hC, ← hB, ← hA]; exact ((Dt.new t w a0 a1).alloc _).alloc _
  · rw [← hC, ← hB, ← hszA]; exact (Dt.new t wA b0 b1).alloc _
  · rw [← hC, ← hszB]; exact Dt.new t wB c0 c1
  · rw [← hC, ← hB, ← hA]; exact (((Below.refl _ w).alloc (Nat.le_refl _) _).alloc (by simp) _).alloc (by simp; omega) _
theorem dbox2 {t : TypeId} {w wA wB : World} {a0 a1 b0 b1 : Int} (hA : w.alloc (.cells #[.int .i64 a0, .int .i64 a1] t) = wA) (hB : wA.alloc (.cells #[.int .i64 b0, .int .i64 b1] t) = wB) :
    Dt t wB w.heap.size a0 a1 ∧ Dt t wB (w.heap.size + 1) b0 b1 ∧ Below w.heap.size w wB ∧ wB.heap.size = w.heap.size + 2 ∧ wA.heap.size = w.heap.size + 1 := by
  have hszA : wA.heap.size = w.heap.size + 1 := by rw [← hA]; simp
  have hszB : wB.heap.size = w.heap.size + 2 := by rw [← hB]; simp [hszA]
  refine ⟨?_, ?_, ?_, hszB, hszA⟩
  · rw [← hB, ← hA]; exact (Dt.new t w a0 a1).alloc _
  · rw [← hB, ← hszA]; exact Dt.new t wA b0 b1
  · rw [← hB, ← hA]; exact ((Below.refl _ w).alloc (Nat.le_refl _) _).alloc (by simp) _
theorem dbox1 {t : TypeId} {w wA : World} {a0 a1 : Int} (hA : w.alloc (.cells #[.int .i64 a0, .int .i64 a1] t) = wA) : Dt t wA w.heap.size a0 a1 ∧ Below w.heap.size w wA ∧ wA.heap.size = w.heap.size + 1 := by
  refine ⟨?_, ?_, ?_⟩
  · rw [← hA]; exact Dt.new t w a0 a1
  · rw [← hA]; exact (Below.refl _ w).alloc (Nat.le_refl _) _
  · rw [← hA]; simp

/-- A slice of numbers. -/
def Nums (w : World) (v : Value) (zs : List Int) : Prop :=
  ∃ a cap, v = .slice a zs.length cap ∧ (1 ≤ zs.length → ∃ b off, a = some ⟨b, off, none⟩ ∧ ∀ k z, zs[k]? = some z → w.cell? ⟨b, off + k, none⟩ = some (.int .i64 z))
theorem lt_of_cell {w : World} {b i : Nat} {v : Value} (h : w.cell? ⟨b, i, none⟩ = some v) : b < w.heap.size := by
  unfold World.cell? at h
  cases hb : w.heap[b]? with
  | none => simp [hb] at h
  | some o => exact lt_of_heap hb
theorem cell_below {w w' : World} {b i n : Nat} {v : Value} (h : w.cell? ⟨b, i, none⟩ = some v) (hb : Below n w w') (hl : b < n) : w'.cell? ⟨b, i, none⟩ = some v := by
  unfold World.cell? at h ⊢
  rw [hb.block b hl]
  exact h
theorem Pts.below {w w' : World} {v : Value} {ps : List Pp} (h : Pts w v ps) (hb : Below w.heap.size w w') : Pts w' v ps := by
  obtain ⟨a, cap, hv, h⟩ := h
  refine ⟨a, cap, hv, fun hl => ?_⟩
  obtain ⟨b, off, ha, hc⟩ := h hl
  refine ⟨b, off, ha, fun k p hk => ?_⟩
  obtain ⟨c0, c1⟩ := hc k p hk
  exact ⟨cell_below c0 hb (lt_of_cell c0), cell_below c1 hb (lt_of_cell c1)⟩
theorem Nums.below {w w' : World} {v : Value} {zs : List Int} (h : Nums w v zs) (hb : Below w.heap.size w w') : Nums w' v zs := by
  obtain ⟨a, cap, hv, h⟩ := h
  refine ⟨a, cap, hv, fun hl => ?_⟩
  obtain ⟨b, off, ha, hc⟩ := h hl
  exact ⟨b, off, ha, fun k z hk => cell_below (hc k z hk) hb (lt_of_cell (hc k z hk))⟩

def dirCells (ps : List Pp) : List Value := ps.flatMap fun p => [Value.int .i64 p.1, .int .i64 p.2]
theorem dirCells_app (a b : List Pp) : dirCells (a ++ b) = dirCells a ++ dirCells b := by simp [dirCells]
theorem dirCells_at : ∀ (ps : List Pp) (k : Nat) (p : Pp), ps[k]? = some p → (dirCells ps)[k * 2]? = some (.int .i64 p.1) ∧ (dirCells ps)[k * 2 + 1]? = some (.int .i64 p.2)
  | [], k, p, h => by simp at h
  | q :: ps, 0, p, h => by
    simp at h
    subst h
    exact ⟨rfl, rfl⟩
  | q :: ps, k + 1, p, h => by
    have h' := dirCells_at ps k p (by simpa using h)
    have e : dirCells (q :: ps) = .int .i64 q.1 :: .int .i64 q.2 :: dirCells ps := rfl
    rw [e, show (k + 1) * 2 = k * 2 + 1 + 1 by omega]
    exact ⟨by simpa using h'.1, by simpa using h'.2⟩
/-- A row of directions that the call itself made. -/
def DRow (t : TypeId) (W : World) (base : Nat) (v : Value) (ps : List Pp) : Prop := W.ownsRow base t 2 v ps.length (dirCells ps)
theorem DRow.below {t : TypeId} {w w' : World} {base : Nat} {v : Value} {ps : List Pp} (h : DRow t w base v ps) (hb : Below w.heap.size w w') : DRow t w' base v ps := by
  refine ⟨h.1, ?_⟩
  rcases h.2 with h0 | ⟨g, cap, cur, h1, h2, h3, h4⟩
  · exact .inl h0
  · exact .inr ⟨g, cap, cur, h1, h2, (hb.block g (lt_of_heap h3)).trans h3, h4⟩
theorem DRow.form {t : TypeId} {w : World} {base : Nat} {v : Value} {ps : List Pp} (h : DRow t w base v ps) : ∃ ao cap, v = .slice ao ps.length cap := by
  rcases h.2 with ⟨rfl, h0⟩ | ⟨g, cap, cur, rfl, _⟩
  · exact ⟨none, 0, by rw [h0]⟩
  · exact ⟨_, cap, rfl⟩
theorem DRow.pts {t : TypeId} {w : World} {base : Nat} {v : Value} {ps : List Pp} (h : DRow t w base v ps) : Pts w v ps := by
  obtain ⟨ao, cap, rfl⟩ := h.form
  refine ⟨ao, cap, rfl, fun hl => ?_⟩
  rcases h.2 with ⟨e, h0⟩ | ⟨g, cap', cur, e, _⟩
  · omega
  · injection e with e1 e2 e3
    subst e1
    have h' : w.ownsRow base t 2 (.slice (some ⟨g, 0, none⟩) ps.length cap) ps.length (dirCells ps) := h
    refine ⟨g, 0, rfl, fun k p hk => ?_⟩
    have hlt := (List.getElem?_eq_some_iff.1 hk).1
    obtain ⟨c0, c1⟩ := dirCells_at ps k p hk
    rw [Nat.zero_add]
    exact ⟨(h'.cellAt (k * 2) (by omega)).trans c0, (h'.cellAt (k * 2 + 1) (by omega)).trans c1⟩
theorem DRow.nil (t : TypeId) (w : World) (base : Nat) : DRow t w base (.slice none 0 0) [] := by
  have h := World.ownsRow_nil w base t 2
  exact h
/-- A row of numbers that the call itself made. -/
def NRow (W : World) (base : Nat) (v : Value) (zs : List Int) : Prop := W.ownsRow base 3 1 v zs.length (zs.map (Value.int .i64))
theorem NRow.below {w w' : World} {base : Nat} {v : Value} {zs : List Int} (h : NRow w base v zs) (hb : Below w.heap.size w w') : NRow w' base v zs := by
  refine ⟨h.1, ?_⟩
  rcases h.2 with h0 | ⟨g, cap, cur, h1, h2, h3, h4⟩
  · exact .inl h0
  · exact .inr ⟨g, cap, cur, h1, h2, (hb.block g (lt_of_heap h3)).trans h3, h4⟩
theorem NRow.form {w : World} {base : Nat} {v : Value} {zs : List Int} (h : NRow w base v zs) : ∃ ao cap, v = .slice ao zs.length cap := by
  rcases h.2 with ⟨rfl, h0⟩ | ⟨g, cap, cur, rfl, _⟩
  · exact ⟨none, 0, by rw [h0]⟩
  · exact ⟨_, cap, rfl⟩
theorem NRow.nums {w : World} {base : Nat} {v : Value} {zs : List Int} (h : NRow w base v zs) : Nums w v zs := by
  obtain ⟨ao, cap, rfl⟩ := h.form
  refine ⟨ao, cap, rfl, fun hl => ?_⟩
  rcases h.2 with ⟨e, h0⟩ | ⟨g, cap', cur, e, _⟩
  · omega
  · injection e with e1 e2 e3
    subst e1
    have h' : w.ownsRow base 3 1 (.slice (some ⟨g, 0, none⟩) zs.length cap) zs.length (zs.map (Value.int .i64)) := h
    refine ⟨g, 0, rfl, fun k z hk => ?_⟩
    have hlt := (List.getElem?_eq_some_iff.1 hk).1
    rw [Nat.zero_add]
    exact (h'.cellAt k (by omega)).trans (by rw [List.getElem?_map, hk]; rfl)
theorem NRow.nil (w : World) (base : Nat) : NRow w base (.slice none 0 0) [] := by
  have h := World.ownsRow_nil w base 3 1
  exact h

/-- An append touches its own row alone, and makes it anew behind all, if at all. -/
structure GrewBy (w w' : World) (v v' : Value) : Prop where
  keep : ∀ b, b < w.heap.size → v.ownBlock ≠ some b → w'.heap[b]? = w.heap[b]?
  own : ∀ k, v'.ownBlock = some k → v.ownBlock = some k ∨ w.heap.size ≤ k
/-- Two rows share nothing. -/
def Apart (u v : Value) : Prop := ∀ k, u.ownBlock = some k → v.ownBlock ≠ some k
theorem Apart.symm {u v : Value} (h : Apart u v) : Apart v u := fun k hk hu => h k hu hk
theorem DRow.lt {t : TypeId} {w : World} {base : Nat} {v : Value} {ps : List Pp} (h : DRow t w base v ps) {k : Nat} (hk : v.ownBlock = some k) : k < w.heap.size ∧ base ≤ k := by
  rcases h.2 with ⟨rfl, h0⟩ | ⟨g, cap, cur, rfl, h1, h2, _⟩
  · cases hk
  · cases hk
    exact ⟨lt_of_heap h2, h1⟩
theorem NRow.lt {w : World} {base : Nat} {v : Value} {zs : List Int} (h : NRow w base v zs) {k : Nat} (hk : v.ownBlock = some k) : k < w.heap.size ∧ base ≤ k := by
  rcases h.2 with ⟨rfl, h0⟩ | ⟨g, cap, cur, rfl, h1, h2, _⟩
  · cases hk
  · cases hk
    exact ⟨lt_of_heap h2, h1⟩
theorem DRow.keep {t : TypeId} {w w' : World} {base : Nat} {v u u' : Value} {ps : List Pp} (h : DRow t w base v ps) (hg : GrewBy w w' u u') (ha : Apart u v) : DRow t w' base v ps ∧ Apart u' v := by
  refine ⟨⟨h.1, ?_⟩, fun k hk hv => ?_⟩
  · rcases h.2 with h0 | ⟨g, cap, cur, rfl, h2, h3, h4⟩
    · exact .inl h0
    · exact .inr ⟨g, cap, cur, rfl, h2, (hg.keep g (lt_of_heap h3) fun e => ha g e rfl).trans h3, h4⟩
  · rcases hg.own k hk with e | e
    · exact ha k e hv
    · have := (h.lt hv).1
      omega
theorem NRow.keep {w w' : World} {base : Nat} {v u u' : Value} {zs : List Int} (h : NRow w base v zs) (hg : GrewBy w w' u u') (ha : Apart u v) : NRow w' base v zs ∧ Apart u' v := by
  refine ⟨⟨h.1, ?_⟩, fun k hk hv => ?_⟩
  · rcases h.2 with h0 | ⟨g, cap, cur, rfl, h2, h3, h4⟩
    · exact .inl h0
    · exact .inr ⟨g, cap, cur, rfl, h2, (hg.keep g (lt_of_heap h3) fun e => ha g e rfl).trans h3, h4⟩
  · rcases hg.own k hk with e | e
    · exact ha k e hv
    · have := (h.lt hv).1
      omega

theorem infoInt : (Try.prog.info? 3).map (fun i => (i.zero, i.size, i.bytes)) = some (some (.int .i64 0), 1, 8) := by kernel_rfl
theorem NRow.snoc {w : World} {base : Nat} {v : Value} {zs : List Int} (h : NRow w base v zs) (hb : base ≤ w.heap.size) (hl : zs.length ≤ 1000000) (z : Int) :
    ∃ ao cap w', (Builtin.append_ #[31, 31] 31 #[v, .slice (some ⟨w.heap.size, 0, none⟩) 1 1]).run Try.prog (w.alloc (.cells #[.int .i64 z] 3)) = .ok (.slice ao (zs.length + 1) cap) w' ∧
      NRow w' base (.slice ao (zs.length + 1) cap) (zs ++ [z]) ∧ Below base w w' ∧ GrewBy w w' v (.slice ao (zs.length + 1) cap) := by
  obtain ⟨i0, hi, hz0, hz1, hz2⟩ := info_parts infoInt
  obtain ⟨wA, hwA⟩ : ∃ wA, wA = w.alloc (.cells #[.int .i64 z] 3) := ⟨_, rfl⟩
  have hbA : Below w.heap.size w wA := by rw [hwA]; exact (Below.refl _ _).alloc (Nat.le_refl _) _
  have hP : wA.cell? ⟨w.heap.size, 0, none⟩ = some (.int .i64 z) := by
    have hh : wA.heap[w.heap.size]? = some (.cells #[.int .i64 z] 3) := by
      rw [hwA]
      unfold World.alloc
      simp
    simp [World.cell?, hh]
  have h2 := h.below hbA
  obtain ⟨v', w', hrun, r1, r2, _, r4⟩ := run_append_own_at (P := Try.prog) wA base 31 31 3 i0 _ 1 8 Try.underlying31 hi hz0 hz1 hz2 rfl (by decide) v zs.length _ h2 ⟨w.heap.size, 0, none⟩ 1 1 [.int .i64 z] rfl
    (fun j u hj => by
      match j, hj with
      | 0, hj => simp at hj; subst hj; exact hP
      | j + 1, hj => simp at hj) (by intro u hu'; simp at hu'; subst hu'; rfl) (by unfold maxLen; omega) (by omega) (by rw [hwA]; simp; omega)
  obtain ⟨ao, cap, rfl⟩ : ∃ ao cap, v' = .slice ao (zs.length + 1) cap := by
    rcases r1.2 with ⟨rfl, h0⟩ | ⟨g, cap, cur, rfl, _, _, hc, _⟩
    · omega
    · exact ⟨_, cap, rfl⟩
  rw [← hwA]
  refine ⟨ao, cap, w', hrun, ?_, ?_, ?_⟩
  · unfold NRow
    rw [List.map_append, List.length_append]
    exact r1
  · refine (hbA.mono hb).grown r2 (Nat.le_trans hb hbA.size) (fun k e => ?_)
    rcases h.2 with ⟨rfl, _⟩ | ⟨g, cap', cur, rfl, hg, _⟩
    · cases e
    · cases e
      exact hg
  · refine ⟨fun b hb' hne => (r2.block b (Nat.lt_of_lt_of_le hb' hbA.size) (fun e => hne e.symm)).trans (hbA.block b hb'), fun k hk => ?_⟩
    rcases r4 with r4 | r4
    · exact .inl (r4.symm.trans hk)
    · rw [r4] at hk
      injection hk with hk
      exact .inr (by rw [← hk]; exact hbA.size)













































































/-- An append whose run is known. -/
theorem wpList_append_done {P : Program} {ops : Array Oper} {rest : List Oper} {o : Oper} {a : Act} {w w' : World} {Q : Exit → Act → World → Prop} (hg : o.guard = none) (s x : Operand) (t : TypeId) (hop : o.op = Op.call { callee := Callee.builtin Builtin.append, args := #[s, x], argTypes := #[t, t] }) {v u v' : Value} (hs : a.eval s = v) (hx : a.eval x = u)
    (hrun : (Builtin.append_ #[t, t] o.type #[v, u]).run P w = .ok v' w') (hK : wpList P ops Q rest (a.put o.dst v') w') : wpList P ops Q (o :: rest) a w :=
  wpList_plain hg fun K hK' => by
    unfold Oper.wp
    rw [show (execOp a.eval o).run P w = .ok (.value v') w' by simp [execOp, hop, resolve, invoke, builtin, hs, hx, hrun, Result.andThen]]
    exact hK' _ _ hK
end Go.Proofs.Ytjfnbgjnmjdeeaa
