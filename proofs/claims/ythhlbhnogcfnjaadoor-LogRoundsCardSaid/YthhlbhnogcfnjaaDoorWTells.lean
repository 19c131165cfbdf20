/-
  Layer 4: what a Log tells, as the law asks it (told): the records as strings.
-/
import Derived.Test.YthhlbhnogcfnjaaDoorWAwake
namespace Go.Proofs.YthhlbhnogcfnjaaDoor
open Go.RowKit Go.Shelf

attribute [local go_sem] Oper.semAt_some

theorem infoStr : (Tryd.prog.info? 9).map (fun i => (i.zero, i.size, i.bytes)) = some (some (.string ⟨#[]⟩), 1, 16) := by kernel_rfl

/-- A row of strings of the call's own: the records. -/
def StrRow (W : World) (base : Nat) (v : Value) (rs : List (List Int)) : Prop := W.ownsRow base 9 1 v rs.length (rs.map fun r => Value.string (strOfNums r))
theorem StrRow.below {w w' : World} {base : Nat} {v : Value} {rs : List (List Int)} (h : StrRow w base v rs) (hb : Below w.heap.size w w') : StrRow w' base v rs := own_below h hb
theorem StrRow.same {w w' : World} {base : Nat} {v : Value} {rs : List (List Int)} (h : StrRow w base v rs) (hk : ∀ (k : Nat) c, w.heap[k]? = some (Obj.cells c 9 (0, 0)) → w'.heap[k]? = w.heap[k]?) : StrRow w' base v rs :=
  own_same h fun k e => by
    obtain ⟨c, hc⟩ := own_heap h e
    exact hk k c hc

/-- 'append(out, s)', s laid as a slice of one. -/
theorem StrRow.snoc {w : World} {base : Nat} {v : Value} {rs : List (List Int)} (h : StrRow w base v rs) (hb : base ≤ w.heap.size) (hl : rs.length ≤ 1000000) (r : List Int) :
    ∃ ao cap w', (Builtin.append_ #[38, 38] 38 #[v, .slice (some ⟨w.heap.size, 0, none⟩) 1 1]).run Tryd.prog (w.alloc (.cells #[.string (strOfNums r)] 9)) = .ok (.slice ao (rs.length + 1) cap) w' ∧
      StrRow w' base (.slice ao (rs.length + 1) cap) (rs ++ [r]) ∧ (∃ row, (w.alloc (.cells #[.string (strOfNums r)] 9)).grownBy w' row ∧ ∀ k, row = some k → base ≤ k ∧ k < w.heap.size ∧ ∃ c f, w.heap[k]? = some (.cells c 9 f)) := by
  obtain ⟨i0, hi, hz0, hz1, hz2⟩ := info_parts infoStr
  obtain ⟨wA, hwA⟩ : ∃ wA, wA = w.alloc (.cells #[.string (strOfNums r)] 9) := ⟨_, rfl⟩
  have hbA : Below w.heap.size w wA := by rw [hwA]; exact (Below.refl _ _).alloc (Nat.le_refl _) _
  have hnew : wA.heap[w.heap.size]? = some (.cells #[.string (strOfNums r)] 9 (0, 0)) := by rw [hwA]; exact heap_new w _
  have hrow : ∀ k, v.ownBlock = some k → base ≤ k ∧ k < w.heap.size ∧ ∃ c f, w.heap[k]? = some (.cells c 9 f) := fun k hk => by
    obtain ⟨c, hc⟩ := own_heap h hk
    exact ⟨own_base h k hk, lt_of_heap hc, c, _, hc⟩
  have h2 := h.below hbA
  obtain ⟨v', w', hrun, r1, r2, _⟩ := run_append_own (P := Tryd.prog) wA base 38 38 9 i0 _ 1 16 Tryd.underlying38 hi hz0 hz1 hz2 rfl (by decide) v rs.length _ h2 ⟨w.heap.size, 0, none⟩ 1 1 [.string (strOfNums r)] rfl
    (fun j u hj => by rw [Addr.add_lit, Nat.zero_add, cell_of_row _ _ _ _ _ _ hnew, ← hj]; simp) (by intro u hu'; simp at hu'; subst hu'; rfl) (by unfold maxLen; omega) (by omega) (by rw [hwA]; simp; omega)
  obtain ⟨ao, cap, rfl⟩ : ∃ ao cap, v' = .slice ao (rs.length + 1) cap := by
    rcases r1.2 with ⟨rfl, h0⟩ | ⟨g, cap, cur, rfl, _, _, hc, _⟩
    · omega
    · exact ⟨_, cap, rfl⟩
  rw [← hwA]
  refine ⟨ao, cap, w', hrun, ?_, _, r2, hrow⟩
  unfold StrRow
  rw [List.map_append, List.length_append]
  exact r1

theorem nl_u64 : ¬ logT 29 := by unfold logT diskT; decide
theorem nl_strs : ¬ logT 38 := by unfold logT diskT; decide
theorem nl_str : ¬ logT 9 := by unfold logT diskT; decide

/-- What a round of told may turn. -/
def tellT (Bn : Nat) (k : Nat) (t : TypeId) : Prop := (k = Bn ∧ t = 29) ∨ t = 38 ∨ t = 9

/-- Between two rounds of told's loop. -/
structure TsI (w : World) (base L B n at' sc : Nat) (d : Dk) (g : Lg) (Bo Bn : Nat) (rs : List (List Int)) (W : World) : Prop where
  r0 : W.heap[w.heap.size]? = some (.cells #[.slice none 0 0] 38 (0, 0))
  r1 : W.heap[w.heap.size + 1]? = some (.cells #[.bool false] 4 (0, 0))
  out : ∃ ao cap, W.heap[Bo]? = some (.cells #[.slice ao rs.length cap] 38 (0, 0)) ∧ StrRow W w.heap.size (.slice ao rs.length cap) rs
  cnt : W.heap[Bn]? = some (.cells #[.int .u64 ((g.first + rs.length : Nat) : Int)] 29 (0, 0))
  log : LogIs W base L B n at' sc d g
  below : Below w.heap.size w W
theorem TsI.turn {w W W' : World} {base L B n at' sc : Nat} {d : Dk} {g : Lg} {Bo Bn : Nat} {rs : List (List Int)} {row : Option Nat} (h : TsI w base L B n at' sc d g Bo Bn rs W) (hg : W.grownBy W' row) (hr : ∀ r, row = some r → w.heap.size ≤ r ∧ ∃ o : Obj, W.heap[r]? = some o ∧ o.isCells = false) : TsI w base L B n at' sc d g Bo Bn rs W' := by
  have key := turn_cells hg (fun r e => (hr r e).2)
  obtain ⟨ao, cap, h1, h2⟩ := h.out
  exact ⟨(key _ _ _ _ h.r0).trans h.r0, (key _ _ _ _ h.r1).trans h.r1, ⟨ao, cap, (key _ _ _ _ h1).trans h1, h2.same fun k c hc => key _ _ _ _ hc⟩, (key _ _ _ _ h.cnt).trans h.cnt, h.log.cells key, h.below.grown hg h.below.size (fun k e => (hr k e).1)⟩

theorem ty_ne {w : World} {a b : Nat} {c c' : Array Value} {t t' : TypeId} {f f' : Nat × Nat} (h : w.heap[a]? = some (.cells c t f)) (h' : w.heap[b]? = some (.cells c' t' f')) (hne : t ≠ t') : a ≠ b := fun e => by
  subst e
  rw [h] at h'
  injection h' with e1
  injection e1 with _ e2 _
  exact hne e2

set_option maxRecDepth 8000 in
theorem TsI.step {w V : World} {base L B n at' sc : Nat} {d : Dk} {g : Lg} {Bn : Nat} {rs : List (List Int)} (h : TsI w base L B n at' sc d g (w.heap.size + 2) Bn rs V) (hBn : w.heap.size ≤ Bn) (hl : rs.length ≤ 1000000) (r : List Int) :
    ∃ ao0 cap0 ao cap w', V.cell? ⟨w.heap.size + 2, 0, none⟩ = some (.slice ao0 rs.length cap0) ∧ V.cell? ⟨Bn, 0, none⟩ = some (.int .u64 ((g.first + rs.length : Nat) : Int)) ∧
      (Builtin.append_ #[38, 38] 38 #[.slice ao0 rs.length cap0, .slice (some ⟨V.heap.size, 0, none⟩) 1 1]).run Tryd.prog (V.alloc (.cells #[.string (strOfNums r)] 9)) = .ok (.slice ao (rs.length + 1) cap) w' ∧
      w'.cell? ⟨w.heap.size + 2, 0, none⟩ = some (.slice ao0 rs.length cap0) ∧ w'.frozen? ⟨w.heap.size + 2, 0, none⟩ = false ∧
      (w'.setCell ⟨w.heap.size + 2, 0, none⟩ (.slice ao (rs.length + 1) cap)).cell? ⟨Bn, 0, none⟩ = some (.int .u64 ((g.first + rs.length : Nat) : Int)) ∧ (w'.setCell ⟨w.heap.size + 2, 0, none⟩ (.slice ao (rs.length + 1) cap)).frozen? ⟨Bn, 0, none⟩ = false ∧
      TsI w base L B n at' sc d g (w.heap.size + 2) Bn (rs ++ [r]) ((w'.setCell ⟨w.heap.size + 2, 0, none⟩ (.slice ao (rs.length + 1) cap)).setCell ⟨Bn, 0, none⟩ (.int .u64 ((g.first + rs.length : Nat) + 1))) ∧
      Kt (tellT Bn) V ((w'.setCell ⟨w.heap.size + 2, 0, none⟩ (.slice ao (rs.length + 1) cap)).setCell ⟨Bn, 0, none⟩ (.int .u64 ((g.first + rs.length : Nat) + 1))) ∧ KeepsOthers V ((w'.setCell ⟨w.heap.size + 2, 0, none⟩ (.slice ao (rs.length + 1) cap)).setCell ⟨Bn, 0, none⟩ (.int .u64 ((g.first + rs.length : Nat) + 1))) := by
  obtain ⟨ao0, cap0, hO, hS⟩ := h.out
  obtain ⟨ao, cap, w', hrun, hS', row, hg, hrow⟩ := hS.snoc h.below.size hl r
  obtain ⟨wA, hwA⟩ : ∃ wA, wA = V.alloc (.cells #[.string (strOfNums r)] 9) := ⟨_, rfl⟩
  rw [← hwA] at hrun hg
  have hbA : Below V.heap.size V wA := by rw [hwA]; exact (Below.refl _ _).alloc (Nat.le_refl _) _
  have keep : ∀ (k : Nat) c t f, V.heap[k]? = some (Obj.cells c t f) → t ≠ 9 → w'.heap[k]? = V.heap[k]? := fun k c t f hk ht => by
    have hk' := (hbA.block k (lt_of_heap hk)).trans hk
    refine (hg.block k (lt_of_heap hk') (fun e => ?_)).trans (hbA.block k (lt_of_heap hk))
    obtain ⟨_, _, c', f', hc'⟩ := hrow k e.symm
    rw [hk] at hc'
    injection hc' with e1
    injection e1 with _ e2 _
    exact ht e2
  have oO := (keep _ _ _ _ hO (by decide)).trans hO
  have oN := (keep _ _ _ _ h.cnt (by decide)).trans h.cnt
  have o0 := (keep _ _ _ _ h.r0 (by decide)).trans h.r0
  have o1 := (keep _ _ _ _ h.r1 (by decide)).trans h.r1
  have hON : w.heap.size + 2 ≠ Bn := ty_ne hO h.cnt (by decide)
  have h0N : w.heap.size ≠ Bn := ty_ne h.r0 h.cnt (by decide)
  have h1N : w.heap.size + 1 ≠ Bn := ty_ne h.r1 h.cnt (by decide)
  obtain ⟨wB, hwB⟩ : ∃ wB, wB = w'.setCell ⟨w.heap.size + 2, 0, none⟩ (.slice ao (rs.length + 1) cap) := ⟨_, rfl⟩
  have fB : ∀ k, k ≠ w.heap.size + 2 → wB.heap[k]? = w'.heap[k]? := fun k hk => by rw [hwB]; exact Below.heap_setCell w' ⟨w.heap.size + 2, 0, none⟩ _ k hk
  have pO : wB.heap[w.heap.size + 2]? = some (.cells #[.slice ao (rs.length + 1) cap] 38 (0, 0)) := by rw [hwB]; exact box_set oO
  have pN := (fB _ (fun e => hON e.symm)).trans oN
  obtain ⟨wC, hwC⟩ : ∃ wC, wC = wB.setCell ⟨Bn, 0, none⟩ (.int .u64 ((g.first + rs.length : Nat) + 1)) := ⟨_, rfl⟩
  have fC : ∀ k, k ≠ Bn → wC.heap[k]? = wB.heap[k]? := fun k hk => by rw [hwC]; exact Below.heap_setCell wB ⟨Bn, 0, none⟩ _ k hk
  have hbw : Below w.heap.size w w' := (h.below.trans (hbA.mono h.below.size)).grown hg (Nat.le_trans h.below.size hbA.size) (fun k e => (hrow k e).1)
  have hlog : LogIs w' base L B n at' sc d g := h.log.ofT fun k c t f hk ht => keep k c t f hk (fun e => nl_str (e ▸ ht))
  refine ⟨ao0, cap0, ao, cap, w', ?_⟩
  rw [← hwB, ← hwC, ← hwA]
  have hKO : KeepsOthers V wC := by
    refine ((KeepsOthers.alloc V _).trans (KeepsOthers.of_grownBy (by rw [← hwA]; exact hg) (fun j o hj ho => ?_))).trans ((by rw [hwB]; exact KeepsOthers.setCell w' _ _ : KeepsOthers w' wB).trans (by rw [hwC]; exact KeepsOthers.setCell wB _ _))
    obtain ⟨_, hlt, c', f', hc'⟩ := hrow j hj
    have := (hbA.block j hlt).trans hc'
    rw [hwA] at this
    rw [this] at ho
    injection ho with e
    subst e
    rfl
  refine ⟨by simpa using cell_of_row V _ 0 _ _ _ hO, by simpa using cell_of_row V _ 0 _ _ _ h.cnt, hrun, by simpa using cell_of_row w' _ 0 _ _ _ oO, frozen_of_row w' _ 0 _ _ oO, by simpa using cell_of_row wB _ 0 _ _ _ pN, frozen_of_row wB _ 0 _ _ pN, ⟨?_, ?_, ⟨ao, cap, ?_, ?_⟩, ?_, ?_, ?_⟩, ⟨hKO.size, ?_⟩, hKO⟩
  · exact (fC _ h0N).trans ((fB _ (by omega)).trans o0)
  · exact (fC _ h1N).trans ((fB _ (by omega)).trans o1)
  · rw [List.length_append]; exact (fC _ hON).trans pO
  · rw [List.length_append]
    refine hS'.same fun k c hc => ?_
    exact (fC k (ty_ne hc oN (by decide))).trans (fB k (ty_ne hc oO (by decide)))
  · have := box_set (v := .int .u64 ((g.first + rs.length : Nat) + 1)) pN
    rw [← hwC] at this
    rw [this, List.length_append]
    congr 4
  · rw [hwC]
    refine LogIs.box ?_ pN nl_u64 _
    rw [hwB]
    exact hlog.box oO nl_strs _
  · rw [hwC, hwB]
    exact (hbw.setCell (p := ⟨w.heap.size + 2, 0, none⟩) (by show w.heap.size ≤ w.heap.size + 2; omega) _).setCell (p := ⟨Bn, 0, none⟩) hBn _
  · intro k c t f hn hk
    have ht1 : t ≠ 9 := fun e => hn (.inr (.inr e))
    have ht2 : t ≠ 38 := fun e => hn (.inr (.inl e))
    refine (fC k (fun e => hn (.inl ⟨e, ?_⟩))).trans ((fB k (ty_ne hk hO ht2)).trans (keep k c t f hk ht1))
    subst e
    rw [h.cnt] at hk
    injection hk with e1
    injection e1 with _ e2 _
    exact e2.symm
end Go.Proofs.YthhlbhnogcfnjaaDoor
