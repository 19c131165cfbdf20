/-
  Directions in blocks of their own; rows of directions and of numbers that the call itself made: append.
-/
import Derived.Test.YtkdnkmheidbfdaaGreatM9
import Derived.OwnWalk
import Derived.Laws.OwnMore
import Derived.Maps.AppendAt
namespace Go.Proofs.YtkdnkmheidbfdaaGreat
open Go.RowKit Go.Sort

/-- Two numbers in a block of their own, of a type. -/
def Dt (t : TypeId) (w : World) (b : Nat) (x y : Int) : Prop := w.heap[b]? = some (.cells #[.int .i64 x, .int .i64 y] t (0, 0))
theorem Dt.lt {t : TypeId} {w : World} {b : Nat} {x y : Int} (h : Dt t w b x y) : b < w.heap.size := lt_of_heap h
theorem Dt.c0 {t : TypeId} {w : World} {b : Nat} {x y : Int} (h : Dt t w b x y) : w.cell? ⟨b, 0, none⟩ = some (.int .i64 x) := by
  unfold Dt at h; simp [World.cell?, h]
theorem Dt.c1 {t : TypeId} {w : World} {b : Nat} {x y : Int} (h : Dt t w b x y) : w.cell? ⟨b, 1, none⟩ = some (.int .i64 y) := by
  unfold Dt at h; simp [World.cell?, h]
theorem Dt.f0 {t : TypeId} {w : World} {b : Nat} {x y : Int} (h : Dt t w b x y) : w.frozen? ⟨b, 0, none⟩ = false := by
  unfold Dt at h; simp [World.frozen?, h]
theorem Dt.f1 {t : TypeId} {w : World} {b : Nat} {x y : Int} (h : Dt t w b x y) : w.frozen? ⟨b, 1, none⟩ = false := by
  unfold Dt at h; simp [World.frozen?, h]
theorem Dt.below {t : TypeId} {w w' : World} {b n : Nat} {x y : Int} (h : Dt t w b x y) (hb : Below n w w') (hl : b < n) : Dt t w' b x y := (hb.block b hl).trans h
theorem Dt.alloc {t : TypeId} {w : World} {b : Nat} {x y : Int} (h : Dt t w b x y) (o : Obj) : Dt t (w.alloc o) b x y := (Below.heap_alloc _ _ _ h.lt).trans h
theorem Dt.new (t : TypeId) (w : World) (x y : Int) : Dt t (w.alloc (.cells #[.int .i64 x, .int .i64 y] t)) w.heap.size x y := by
  unfold Dt World.alloc; simp
theorem Dt.set {t : TypeId} {w : World} {b : Nat} {x y : Int} (h : Dt t w b x y) (x' y' : Int) : Dt t ((w.setCell ⟨b, 0, none⟩ (.int .i64 x')).setCell ⟨b, 1, none⟩ (.int .i64 y')) b x' y' := by
  have h1 := heap_setCell_same w b 0 _ _ (.int .i64 x') h
  have h2 := heap_setCell_same _ b 1 _ _ (.int .i64 y') h1
  exact h2
theorem Dt.far {t : TypeId} {w : World} {b c : Nat} {x y : Int} (h : Dt t w c x y) (hne : c ≠ b) (u v : Value) : Dt t ((w.setCell ⟨b, 0, none⟩ u).setCell ⟨b, 1, none⟩ v) c x y := by
  unfold Dt
  rw [Below.heap_setCell _ _ _ _ (by exact hne), Below.heap_setCell _ _ _ _ (by exact hne)]
  exact h
theorem Dt.pt {w : World} {b : Nat} {x y : Int} : Dt 23 w b x y ↔ Pt w b x y := Iff.rfl
theorem dbox3 {t : TypeId} {w wA wB wC : World} {a0 a1 b0 b1 c0 c1 : Int} (hA : w.alloc (.cells #[.int .i64 a0, .int .i64 a1] t) = wA) (hB : wA.alloc (.cells #[.int .i64 b0, .int .i64 b1] t) = wB)
    (hC : wB.alloc (.cells #[.int .i64 c0, .int .i64 c1] t) = wC) :
    Dt t wC w.heap.size a0 a1 ∧ Dt t wC (w.heap.size + 1) b0 b1 ∧ Dt t wC (w.heap.size + 2) c0 c1 ∧ Below w.heap.size w wC ∧ wC.heap.size = w.heap.size + 3 ∧ wA.heap.size = w.heap.size + 1 ∧ wB.heap.size = w.heap.size + 2 := by
  have hszA : wA.heap.size = w.heap.size + 1 := by rw [← hA]; simp
  have hszB : wB.heap.size = w.heap.size + 2 := by rw [← hB]; simp [hszA]
  have hszC : wC.heap.size = w.heap.size + 3 := by rw [← hC]; simp [hszB]
  refine ⟨?_, ?_, ?_, ?_, hszC, hszA, hszB⟩
  · rw [← hC, ← hB, ← hA]; exact ((Dt.new t w a0 a1).alloc _).alloc _
  · rw [← hC, ← hB, ← hszA]; exact (Dt.new t wA b0 b1).alloc _
  · rw [← hC, ← hszB]; exact Dt.new t wB c0 c1
  · rw [← hC, ← hB, ← hA]; exact (((Below.refl _ w).alloc (Nat.le_refl _) _).alloc (by simp) _).alloc (by simp; omega) _
theorem dbox2 {t : TypeId} {w wA wB : World} {a0 a1 b0 b1 : Int} (hA : w.alloc (.cells #[.int .i64 a0, .int .i64 a1] t) = wA) (hB : wA.alloc (.cells #[.int .i64 b0, .int .i64 b1] t) = wB) :
    Dt t wB w.heap.size a0 a1 ∧ Dt t wB (w.heap.size + 1) b0 b1 ∧ Below w.heap.size w wB ∧ wB.heap.size = w.heap.size + 2 ∧ wA.heap.size = w.heap.size + 1 := by
  have hszA : wA.heap.size = w.heap.size + 1 := by rw [← hA]; simp
  have hszB : wB.heap.size = w.heap.size + 2 := by rw [← hB]; simp [hszA]
  refine ⟨?_, ?_, ?_, hszB, hszA⟩
  · rw [← hB, ← hA]; exact (Dt.new t w a0 a1).alloc _
  · rw [← hB, ← hszA]; exact Dt.new t wA b0 b1
  · rw [← hB, ← hA]; exact ((Below.refl _ w).alloc (Nat.le_refl _) _).alloc (by simp) _
theorem dbox1 {t : TypeId} {w wA : World} {a0 a1 : Int} (hA : w.alloc (.cells #[.int .i64 a0, .int .i64 a1] t) = wA) : Dt t wA w.heap.size a0 a1 ∧ Below w.heap.size w wA ∧ wA.heap.size = w.heap.size + 1 := by
  refine ⟨?_, ?_, ?_⟩
  · rw [← hA]; exact Dt.new t w a0 a1
  · rw [← hA]; exact (Below.refl _ w).alloc (Nat.le_refl _) _
  · rw [← hA]; simp

/-- A slice of numbers. -/
def Nums (w : World) (v : Value) (zs : List Int) : Prop :=
  ∃ a cap, v = .slice a zs.length cap ∧ (1 ≤ zs.length → ∃ b off, a = some ⟨b, off, none⟩ ∧ ∀ k z, zs[k]? = some z → w.cell? ⟨b, off + k, none⟩ = some (.int .i64 z))
theorem lt_of_cell {w : World} {b i : Nat} {v : Value} (h : w.cell? ⟨b, i, none⟩ = some v) : b < w.heap.size := by
  unfold World.cell? at h
  cases hb : w.heap[b]? with
  | none => simp [hb] at h
  | some o => exact lt_of_heap hb
theorem cell_below {w w' : World} {b i n : Nat} {v : Value} (h : w.cell? ⟨b, i, none⟩ = some v) (hb : Below n w w') (hl : b < n) : w'.cell? ⟨b, i, none⟩ = some v := by
  unfold World.cell? at h ⊢
  rw [hb.block b hl]
  exact h
theorem Pts.below {w w' : World} {v : Value} {ps : List Pp} (h : Pts w v ps) (hb : Below w.heap.size w w') : Pts w' v ps := by
  obtain ⟨a, cap, hv, h⟩ := h
  refine ⟨a, cap, hv, fun hl => ?_⟩
  obtain ⟨b, off, ha, hc⟩ := h hl
  refine ⟨b, off, ha, fun k p hk => ?_⟩
  obtain ⟨c0, c1⟩ := hc k p hk
  exact ⟨cell_below c0 hb (lt_of_cell c0), cell_below c1 hb (lt_of_cell c1)⟩
theorem Nums.below {w w' : World} {v : Value} {zs : List Int} (h : Nums w v zs) (hb : Below w.heap.size w w') : Nums w' v zs := by
  obtain ⟨a, cap, hv, h⟩ := h
  refine ⟨a, cap, hv, fun hl => ?_⟩
  obtain ⟨b, off, ha, hc⟩ := h hl
  exact ⟨b, off, ha, fun k z hk => cell_below (hc k z hk) hb (lt_of_cell (hc k z hk))⟩

def dirCells (ps : List Pp) : List Value := ps.flatMap fun p => [Value.int .i64 p.1, .int .i64 p.2]
theorem dirCells_app (a b : List Pp) : dirCells (a ++ b) = dirCells a ++ dirCells b := by simp [dirCells]
theorem dirCells_at : ∀ (ps : List Pp) (k : Nat) (p : Pp), ps[k]? = some p → (dirCells ps)[k * 2]? = some (.int .i64 p.1) ∧ (dirCells ps)[k * 2 + 1]? = some (.int .i64 p.2)
  | [], k, p, h => by simp at h
  | q :: ps, 0, p, h => by
    simp at h
    subst h
    exact ⟨rfl, rfl⟩
  | q :: ps, k + 1, p, h => by
    have h' := dirCells_at ps k p (by simpa using h)
    have e : dirCells (q :: ps) = .int .i64 q.1 :: .int .i64 q.2 :: dirCells ps := rfl
    rw [e, show (k + 1) * 2 = k * 2 + 1 + 1 by omega]
    exact ⟨by simpa using h'.1, by simpa using h'.2⟩
/-- A row of directions that the call itself made. -/
def DRow (t : TypeId) (W : World) (base : Nat) (v : Value) (ps : List Pp) : Prop := W.ownsRow base t 2 v ps.length (dirCells ps)
theorem DRow.below {t : TypeId} {w w' : World} {base : Nat} {v : Value} {ps : List Pp} (h : DRow t w base v ps) (hb : Below w.heap.size w w') : DRow t w' base v ps := by
  refine ⟨h.1, ?_⟩
  rcases h.2 with h0 | ⟨g, cap, cur, h1, h2, h3, h4⟩
  · exact .inl h0
  · exact .inr ⟨g, cap, cur, h1, h2, (hb.block g (lt_of_heap h3)).trans h3, h4⟩
theorem DRow.form {t : TypeId} {w : World} {base : Nat} {v : Value} {ps : List Pp} (h : DRow t w base v ps) : ∃ ao cap, v = .slice ao ps.length cap := by
  rcases h.2 with ⟨rfl, h0⟩ | ⟨g, cap, cur, rfl, _⟩
  · exact ⟨none, 0, by rw [h0]⟩
  · exact ⟨_, cap, rfl⟩
theorem DRow.pts {t : TypeId} {w : World} {base : Nat} {v : Value} {ps : List Pp} (h : DRow t w base v ps) : Pts w v ps := by
  obtain ⟨ao, cap, rfl⟩ := h.form
  refine ⟨ao, cap, rfl, fun hl => ?_⟩
  rcases h.2 with ⟨e, h0⟩ | ⟨g, cap', cur, e, _⟩
  · omega
  · injection e with e1 e2 e3
    subst e1
    have h' : w.ownsRow base t 2 (.slice (some ⟨g, 0, none⟩) ps.length cap) ps.length (dirCells ps) := h
    refine ⟨g, 0, rfl, fun k p hk => ?_⟩
    have hlt := (List.getElem?_eq_some_iff.1 hk).1
    obtain ⟨c0, c1⟩ := dirCells_at ps k p hk
    rw [Nat.zero_add]
    exact ⟨(h'.cellAt (k * 2) (by omega)).trans c0, (h'.cellAt (k * 2 + 1) (by omega)).trans c1⟩
theorem DRow.nil (t : TypeId) (w : World) (base : Nat) : DRow t w base (.slice none 0 0) [] := by
  have h := World.ownsRow_nil w base t 2
  exact h
/-- A row of numbers that the call itself made. -/
def NRow (W : World) (base : Nat) (v : Value) (zs : List Int) : Prop := W.ownsRow base 3 1 v zs.length (zs.map (Value.int .i64))
theorem NRow.below {w w' : World} {base : Nat} {v : Value} {zs : List Int} (h : NRow w base v zs) (hb : Below w.heap.size w w') : NRow w' base v zs := by
  refine ⟨h.1, ?_⟩
  rcases h.2 with h0 | ⟨g, cap, cur, h1, h2, h3, h4⟩
  · exact .inl h0
  · exact .inr ⟨g, cap, cur, h1, h2, (hb.block g (lt_of_heap h3)).trans h3, h4⟩
theorem NRow.form {w : World} {base : Nat} {v : Value} {zs : List Int} (h : NRow w base v zs) : ∃ ao cap, v = .slice ao zs.length cap := by
  rcases h.2 with ⟨rfl, h0⟩ | ⟨g, cap, cur, rfl, _⟩
  · exact ⟨none, 0, by rw [h0]⟩
  · exact ⟨_, cap, rfl⟩
theorem NRow.nums {w : World} {base : Nat} {v : Value} {zs : List Int} (h : NRow w base v zs) : Nums w v zs := by
  obtain ⟨ao, cap, rfl⟩ := h.form
  refine ⟨ao, cap, rfl, fun hl => ?_⟩
  rcases h.2 with ⟨e, h0⟩ | ⟨g, cap', cur, e, _⟩
  · omega
  · injection e with e1 e2 e3
    subst e1
    have h' : w.ownsRow base 3 1 (.slice (some ⟨g, 0, none⟩) zs.length cap) zs.length (zs.map (Value.int .i64)) := h
    refine ⟨g, 0, rfl, fun k z hk => ?_⟩
    have hlt := (List.getElem?_eq_some_iff.1 hk).1
    rw [Nat.zero_add]
    exact (h'.cellAt k (by omega)).trans (by rw [List.getElem?_map, hk]; rfl)
theorem NRow.nil (w : World) (base : Nat) : NRow w base (.slice none 0 0) [] := by
  have h := World.ownsRow_nil w base 3 1
  exact h

/-- An append touches its own row alone, and makes it anew behind all, if at all. -/
structure GrewBy (w w' : World) (v v' : Value) : Prop where
  keep : ∀ b, b < w.heap.size → v.ownBlock ≠ some b → w'.heap[b]? = w.heap[b]?
  own : ∀ k, v'.ownBlock = some k → v.ownBlock = some k ∨ w.heap.size ≤ k
/-- Two rows share nothing. -/
def Apart (u v : Value) : Prop := ∀ k, u.ownBlock = some k → v.ownBlock ≠ some k
theorem Apart.symm {u v : Value} (h : Apart u v) : Apart v u := fun k hk hu => h k hu hk
theorem DRow.lt {t : TypeId} {w : World} {base : Nat} {v : Value} {ps : List Pp} (h : DRow t w base v ps) {k : Nat} (hk : v.ownBlock = some k) : k < w.heap.size ∧ base ≤ k := by
  rcases h.2 with ⟨rfl, h0⟩ | ⟨g, cap, cur, rfl, h1, h2, _⟩
  · cases hk
  · cases hk
    exact ⟨lt_of_heap h2, h1⟩
theorem NRow.lt {w : World} {base : Nat} {v : Value} {zs : List Int} (h : NRow w base v zs) {k : Nat} (hk : v.ownBlock = some k) : k < w.heap.size ∧ base ≤ k := by
  rcases h.2 with ⟨rfl, h0⟩ | ⟨g, cap, cur, rfl, h1, h2, _⟩
  · cases hk
  · cases hk
    exact ⟨lt_of_heap h2, h1⟩
theorem DRow.keep {t : TypeId} {w w' : World} {base : Nat} {v u u' : Value} {ps : List Pp} (h : DRow t w base v ps) (hg : GrewBy w w' u u') (ha : Apart u v) : DRow t w' base v ps ∧ Apart u' v := by
  refine ⟨⟨h.1, ?_⟩, fun k hk hv => ?_⟩
  · rcases h.2 with h0 | ⟨g, cap, cur, rfl, h2, h3, h4⟩
    · exact .inl h0
    · exact .inr ⟨g, cap, cur, rfl, h2, (hg.keep g (lt_of_heap h3) fun e => ha g e rfl).trans h3, h4⟩
  · rcases hg.own k hk with e | e
    · exact ha k e hv
    · have := (h.lt hv).1
      omega
theorem NRow.keep {w w' : World} {base : Nat} {v u u' : Value} {zs : List Int} (h : NRow w base v zs) (hg : GrewBy w w' u u') (ha : Apart u v) : NRow w' base v zs ∧ Apart u' v := by
  refine ⟨⟨h.1, ?_⟩, fun k hk hv => ?_⟩
  · rcases h.2 with h0 | ⟨g, cap, cur, rfl, h2, h3, h4⟩
    · exact .inl h0
    · exact .inr ⟨g, cap, cur, rfl, h2, (hg.keep g (lt_of_heap h3) fun e => ha g e rfl).trans h3, h4⟩
  · rcases hg.own k hk with e | e
    · exact ha k e hv
    · have := (h.lt hv).1
      omega

theorem infoInt : (Tryz.prog.info? 3).map (fun i => (i.zero, i.size, i.bytes)) = some (some (.int .i64 0), 1, 8) := by kernel_rfl
theorem NRow.snoc {w : World} {base : Nat} {v : Value} {zs : List Int} (h : NRow w base v zs) (hb : base ≤ w.heap.size) (hl : zs.length ≤ 1000000) (z : Int) :
    ∃ ao cap w', (Builtin.append_ #[47, 47] 47 #[v, .slice (some ⟨w.heap.size, 0, none⟩) 1 1]).run Tryz.prog (w.alloc (.cells #[.int .i64 z] 3)) = .ok (.slice ao (zs.length + 1) cap) w' ∧
      NRow w' base (.slice ao (zs.length + 1) cap) (zs ++ [z]) ∧ Below base w w' ∧ GrewBy w w' v (.slice ao (zs.length + 1) cap) := by
  obtain ⟨i0, hi, hz0, hz1, hz2⟩ := info_parts infoInt
  obtain ⟨wA, hwA⟩ : ∃ wA, wA = w.alloc (.cells #[.int .i64 z] 3) := ⟨_, rfl⟩
  have hbA : Below w.heap.size w wA := by rw [hwA]; exact (Below.refl _ _).alloc (Nat.le_refl _) _
  have hP : wA.cell? ⟨w.heap.size, 0, none⟩ = some (.int .i64 z) := by
    have hh : wA.heap[w.heap.size]? = some (.cells #[.int .i64 z] 3) := by
      rw [hwA]
      unfold World.alloc
      simp
    simp [World.cell?, hh]
  have h2 := h.below hbA
  obtain ⟨v', w', hrun, r1, r2, _, r4⟩ := run_append_own_at (P := Tryz.prog) wA base 47 47 3 i0 _ 1 8 Tryz.underlying47 hi hz0 hz1 hz2 rfl (by decide) v zs.length _ h2 ⟨w.heap.size, 0, none⟩ 1 1 [.int .i64 z] rfl
    (fun j u hj => by
      match j, hj with
      | 0, hj => simp at hj; subst hj; exact hP
      | j + 1, hj => simp at hj) (by intro u hu'; simp at hu'; subst hu'; rfl) (by unfold maxLen; omega) (by omega) (by rw [hwA]; simp; omega)
  obtain ⟨ao, cap, rfl⟩ : ∃ ao cap, v' = .slice ao (zs.length + 1) cap := by
    rcases r1.2 with ⟨rfl, h0⟩ | ⟨g, cap, cur, rfl, _, _, hc, _⟩
    · omega
    · exact ⟨_, cap, rfl⟩
  rw [← hwA]
  refine ⟨ao, cap, w', hrun, ?_, ?_, ?_⟩
  · unfold NRow
    rw [List.map_append, List.length_append]
    exact r1
  · refine (hbA.mono hb).grown r2 (Nat.le_trans hb hbA.size) (fun k e => ?_)
    rcases h.2 with ⟨rfl, _⟩ | ⟨g, cap', cur, rfl, hg, _⟩
    · cases e
    · cases e
      exact hg
  · refine ⟨fun b hb' hne => (r2.block b (Nat.lt_of_lt_of_le hb' hbA.size) (fun e => hne e.symm)).trans (hbA.block b hb'), fun k hk => ?_⟩
    rcases r4 with r4 | r4
    · exact .inl (r4.symm.trans hk)
    · rw [r4] at hk
      injection hk with hk
      exact .inr (by rw [← hk]; exact hbA.size)













































































/-- An append whose run is known. -/
theorem wpList_append_done {P : Program} {ops : Array Oper} {rest : List Oper} {o : Oper} {a : Act} {w w' : World} {Q : Exit → Act → World → Prop} (hg : o.guard = none) (s x : Operand) (t : TypeId) (hop : o.op = Op.call { callee := Callee.builtin Builtin.append, args := #[s, x], argTypes := #[t, t] }) {v u v' : Value} (hs : a.eval s = v) (hx : a.eval x = u)
    (hrun : (Builtin.append_ #[t, t] o.type #[v, u]).run P w = .ok v' w') (hK : wpList P ops Q rest (a.put o.dst v') w') : wpList P ops Q (o :: rest) a w :=
  wpList_plain hg fun K hK' => by
    unfold Oper.wp
    rw [show (execOp a.eval o).run P w = .ok (.value v') w' by simp [execOp, hop, resolve, invoke, builtin, hs, hx, hrun, Result.andThen]]
    exact hK' _ _ hK
end Go.Proofs.YtkdnkmheidbfdaaGreat

namespace Go.Proofs.YtkdnkmheidbfdaaGreat

/-- Is it no direction? -/
def noneD (d : Pp) : Bool := (d.1 == 0 && d.2 == 0) || decide (4194304 < d.1) || decide (d.1 < -4194304) || decide (4194304 < d.2) || decide (d.2 < -4194304)
def halfD (d : Pp) : Int := if noneD d then -1 else if 0 < d.2 ∨ (d.2 = 0 ∧ 0 < d.1) then 0 else 1
def crossD (a b : Pp) : Int := a.1 * b.2 - b.1 * a.2
def cmpD (a b : Pp) : Int :=
  if halfD a < 0 ∧ halfD b < 0 then 0 else if halfD a < 0 then 1 else if halfD b < 0 then -1 else if halfD a ≠ halfD b then sgn (halfD a - halfD b) else -sgn (crossD a b)

theorem halfD_in (d : Pp) : halfD d = -1 ∨ halfD d = 0 ∨ halfD d = 1 := by
  unfold halfD
  split
  · exact .inl rfl
  · split
    · exact .inr (.inl rfl)
    · exact .inr (.inr rfl)
theorem crossD_anti (a b : Pp) : crossD b a = -crossD a b := by unfold crossD; omega
theorem cmpD_anti (a b : Pp) : cmpD b a = -cmpD a b := by
  unfold cmpD
  have ha := halfD_in a
  have hb := halfD_in b
  rw [crossD_anti, sgn_neg, show halfD b - halfD a = -(halfD a - halfD b) by omega, sgn_neg]
  generalize sgn (halfD a - halfD b) = s
  generalize sgn (crossD a b) = t
  generalize halfD a = x at *
  generalize halfD b = y at *
  rcases ha with rfl | rfl | rfl <;> rcases hb with rfl | rfl | rfl <;> simp

/-- In one half: y above 0, or y nought and x above 0; in the other the same of what is against it. -/
def Up (d : Pp) : Prop := 0 < d.2 ∨ (d.2 = 0 ∧ 0 < d.1)
theorem cross_id (a b c : Pp) : crossD a c * b.2 = crossD a b * c.2 + crossD b c * a.2 := by
  unfold crossD
  grind
theorem up_le {a b c : Pp} (ha : Up a) (hb : Up b) (hc : Up c) (h1 : 0 ≤ crossD a b) (h2 : 0 ≤ crossD b c) : 0 ≤ crossD a c := by
  rcases hb with hb | ⟨hb, hb'⟩
  · have h := cross_id a b c
    have ha2 : 0 ≤ a.2 := by unfold Up at ha; omega
    have hc2 : 0 ≤ c.2 := by unfold Up at hc; omega
    have g1 := Int.mul_nonneg h1 hc2
    have g2 := Int.mul_nonneg h2 ha2
    refine Classical.byContradiction fun hx => ?_
    have := Int.mul_neg_of_neg_of_pos (show crossD a c < 0 by omega) hb
    omega
  · unfold crossD at h1 ⊢
    rw [hb, Int.mul_zero] at h1
    have ha2 : a.2 = 0 := by
      unfold Up at ha
      rcases ha with g | g
      · have := Int.mul_pos hb' g
        omega
      · exact g.1
    rw [ha2, Int.mul_zero]
    have ha1 : 0 < a.1 := by unfold Up at ha; omega
    have hc2 : 0 ≤ c.2 := by unfold Up at hc; omega
    have := Int.mul_nonneg (show 0 ≤ a.1 by omega) hc2
    omega
theorem sgn_nonneg {t : Int} : 0 ≤ sgn t ↔ 0 ≤ t := by unfold sgn; split <;> (try split) <;> omega
theorem sgn_nonpos {t : Int} : sgn t ≤ 0 ↔ t ≤ 0 := by unfold sgn; split <;> (try split) <;> omega
theorem sgn_pos' {t : Int} : 0 < sgn t ↔ 0 < t := by unfold sgn; split <;> (try split) <;> omega
theorem sgn_eq {s t : Int} (h1 : 0 < s ↔ 0 < t) (h2 : s < 0 ↔ t < 0) : sgn s = sgn t := by unfold sgn; split <;> split <;> (try split) <;> (try split) <;> omega
theorem up_same {a b c : Pp} (ha : Up a) (hb : Up b) (h : crossD a b = 0) : sgn (crossD b c) = sgn (crossD a c) := by
  have hid := cross_id a b c
  rw [h, Int.zero_mul, Int.zero_add] at hid
  have pos : ∀ {x y u v : Int}, x * u = y * v → 0 < u → 0 < v → (0 < x ↔ 0 < y) ∧ (x < 0 ↔ y < 0) := by
    intro x y u v e hu hv
    have p : ∀ {x u : Int}, 0 < u → (0 < x ↔ 0 < x * u) ∧ (x < 0 ↔ x * u < 0) := by
      intro x u hu
      refine ⟨⟨fun g => Int.mul_pos g hu, fun g => ?_⟩, ⟨fun g => Int.mul_neg_of_neg_of_pos g hu, fun g => ?_⟩⟩
      · refine Classical.byContradiction fun hx => ?_
        have := Int.mul_nonpos_of_nonpos_of_nonneg (show x ≤ 0 by omega) (show 0 ≤ u by omega)
        omega
      · refine Classical.byContradiction fun hx => ?_
        have := Int.mul_nonneg (show 0 ≤ x by omega) (show 0 ≤ u by omega)
        omega
    have p1 := p (x := x) hu
    have p2 := p (x := y) hv
    rw [e] at p1
    omega
  by_cases hb2 : 0 < b.2
  · by_cases ha2 : 0 < a.2
    · have := pos hid hb2 ha2
      exact sgn_eq (by omega) (by omega)
    · exfalso
      unfold Up at ha
      unfold crossD at h
      have a2 : a.2 = 0 := by omega
      rw [a2, Int.mul_zero] at h
      have := Int.mul_pos (show 0 < a.1 by omega) hb2
      omega
  · have b2 : b.2 = 0 := by unfold Up at hb; omega
    have b1 : 0 < b.1 := by unfold Up at hb; omega
    have a2 : a.2 = 0 := by
      unfold Up at ha
      unfold crossD at h
      rw [b2, Int.mul_zero] at h
      rcases ha with g | g
      · have := Int.mul_pos b1 g
        omega
      · exact g.1
    have a1 : 0 < a.1 := by unfold Up at ha; omega
    unfold crossD
    rw [a2, b2, Int.mul_zero]
    have := pos (x := b.1 * c.2 - 0) (y := a.1 * c.2 - 0) (u := a.1) (v := b.1) (by rw [Int.sub_zero, Int.sub_zero]; ac_rfl) a1 b1
    exact sgn_eq this.1 this.2

def negD (d : Pp) : Pp := (-d.1, -d.2)
theorem cross_neg (a b : Pp) : crossD (negD a) (negD b) = crossD a b := by unfold crossD negD; dsimp only; rw [Int.neg_mul_neg, Int.neg_mul_neg]
theorem half_up {d : Pp} (h : halfD d = 0) : Up d := by
  unfold halfD at h
  split at h
  · cases h
  · split at h
    · assumption
    · cases h
theorem half_down {d : Pp} (h : halfD d = 1) : Up (negD d) := by
  unfold halfD at h
  split at h
  · cases h
  · split at h
    · cases h
    · rename_i h1 h2
      unfold noneD at h1
      simp only [Bool.or_eq_true, Bool.and_eq_true, beq_iff_eq, decide_eq_true_eq] at h1
      unfold Up negD
      dsimp only
      omega
theorem same_le {a b c : Pp} {h : Int} (hh : h = 0 ∨ h = 1) (ha : halfD a = h) (hb : halfD b = h) (hc : halfD c = h) (h1 : 0 ≤ crossD a b) (h2 : 0 ≤ crossD b c) : 0 ≤ crossD a c := by
  rcases hh with rfl | rfl
  · exact up_le (half_up ha) (half_up hb) (half_up hc) h1 h2
  · rw [← cross_neg] at h1 h2 ⊢
    exact up_le (half_down ha) (half_down hb) (half_down hc) h1 h2
theorem same_same {a b c : Pp} {h : Int} (hh : h = 0 ∨ h = 1) (ha : halfD a = h) (hb : halfD b = h) (h1 : crossD a b = 0) : sgn (crossD b c) = sgn (crossD a c) := by
  rcases hh with rfl | rfl
  · exact up_same (half_up ha) (half_up hb) h1
  · rw [← cross_neg] at h1
    rw [← cross_neg b c, ← cross_neg a c]
    exact up_same (half_down ha) (half_down hb) h1
theorem sgn_zero_iff {t : Int} : sgn t = 0 ↔ t = 0 := by unfold sgn; split <;> (try split) <;> omega
/-- Angles are an order. -/
theorem cmpD_trans (a b c : Pp) (h1 : cmpD a b ≤ 0) (h2 : cmpD b c ≤ 0) : cmpD a c ≤ 0 := by
  have key := @same_le a b c
  unfold cmpD at *
  have ha := halfD_in a
  have hb := halfD_in b
  have hc := halfD_in c
  have g1 := sgn_nonneg (t := crossD a b)
  have g2 := sgn_nonneg (t := crossD b c)
  have g3 := sgn_nonneg (t := crossD a c)
  generalize sgn (crossD a b) = A' at *
  generalize sgn (crossD b c) = B' at *
  generalize sgn (crossD a c) = G' at *
  generalize crossD a b = A at *
  generalize crossD b c = B at *
  generalize crossD a c = G at *
  generalize halfD a = x at *
  generalize halfD b = y at *
  generalize halfD c = z at *
  rcases ha with rfl | rfl | rfl <;> rcases hb with rfl | rfl | rfl <;> rcases hc with rfl | rfl | rfl <;> simp [sgn] at h1 h2 ⊢ <;> first | (exact g3.2 (key (h := 0) (.inl rfl) rfl rfl rfl (g1.1 h1) (g2.1 h2))) | (exact g3.2 (key (h := 1) (.inr rfl) rfl rfl rfl (g1.1 h1) (g2.1 h2)))
theorem cmpD_same (a b c : Pp) (h1 : cmpD a b = 0) : cmpD b c = cmpD a c := by
  have key := @same_same a b c
  unfold cmpD at *
  have ha := halfD_in a
  have hb := halfD_in b
  have hc := halfD_in c
  have g1 := sgn_zero_iff (t := crossD a b)
  generalize sgn (crossD a b) = A' at *
  generalize sgn (crossD b c) = B' at *
  generalize sgn (crossD a c) = G' at *
  generalize crossD a b = A at *
  generalize halfD a = x at *
  generalize halfD b = y at *
  generalize halfD c = z at *
  rcases ha with rfl | rfl | rfl <;> rcases hb with rfl | rfl | rfl <;> rcases hc with rfl | rfl | rfl <;> simp [sgn] at h1 ⊢ <;> first | (exact key (h := 0) (.inl rfl) rfl rfl (g1.1 h1)) | (exact key (h := 1) (.inr rfl) rfl rfl (g1.1 h1))
end Go.Proofs.YtkdnkmheidbfdaaGreat
