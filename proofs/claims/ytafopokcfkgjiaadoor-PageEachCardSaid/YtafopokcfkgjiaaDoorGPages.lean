/-
  Layer 3: a row of pages that grows; what page.pageOf gives of what is no frame; what page.pagesOf gives.
-/
import Derived.Test.YtafopokcfkgjiaaDoorGAccept
namespace Go.Proofs.YtafopokcfkgjiaaDoor
open Go.RowKit Go.Shelf

attribute [local go_sem] Oper.semAt_some

def pgCells (p : Pg) (s : Value) : List Value := [.int .i64 p.no, .int .u64 p.lsn, s]
/-- A row of the call's own that holds pages. -/
def PgRow (W : World) (base : Nat) (v : Value) (ps : List Pg) : Prop :=
  ∃ ss : List Value, ss.length = ps.length ∧ W.ownsRow base 33 3 v ps.length ((ps.zip ss).map fun x => pgCells x.1 x.2).flatten ∧ ∀ (k : Nat) (p : Pg) (s : Value), ps[k]? = some p → ss[k]? = some s → W.ownsRow 0 5 1 s p.data.length (secV p.data)
theorem PgRow.same {w w' : World} {base : Nat} {v : Value} {ps : List Pg} (h : PgRow w base v ps) (hk : ∀ (k : Nat) c t f, w.heap[k]? = some (Obj.cells c t f) → t = 33 ∨ t = 5 → w'.heap[k]? = w.heap[k]?) : PgRow w' base v ps := by
  obtain ⟨ss, h1, h2, h3⟩ := h
  refine ⟨ss, h1, own_same h2 fun k hk' => ?_, fun k p s hp hs => own_same (h3 k p s hp hs) fun k' hk' => ?_⟩
  · obtain ⟨c, hc⟩ := own_heap h2 hk'
    exact hk k _ _ _ hc (.inl rfl)
  · obtain ⟨c, hc⟩ := own_heap (h3 k p s hp hs) hk'
    exact hk k' _ _ _ hc (.inr rfl)
theorem PgRow.below {w w' : World} {base : Nat} {v : Value} {ps : List Pg} (h : PgRow w base v ps) (hb : Below w.heap.size w w') : PgRow w' base v ps := h.same fun k _ _ _ hk _ => hb.block k (lt_of_heap hk)
theorem PgRow.kd {w w' : World} {base b2 : Nat} {v : Value} {ps : List Pg} (h : PgRow w base v ps) (hk : Kd b2 w w') : PgRow w' base v ps := h.same fun k c t f h1 ht => by
  rcases ht with rfl | rfl
  · exact hk.keep k _ _ _ h1 (by decide) (by decide) (by decide)
  · exact hk.keep k _ _ _ h1 (by decide) (by decide) (by decide)
theorem PgRow.nil (w : World) (base : Nat) : PgRow w base (.slice none 0 0) [] := ⟨[], rfl, World.ownsRow_nil _ _ _ _, fun k p s hp _ => by simp at hp⟩
theorem PgRow.form {w : World} {base : Nat} {v : Value} {ps : List Pg} (h : PgRow w base v ps) : ∃ ao cap, v = .slice ao ps.length cap ∧ ps.length ≤ cap ∧ (1 ≤ ps.length → ∃ g, ao = some ⟨g, 0, none⟩) := by
  obtain ⟨ss, _, h2, _⟩ := h
  rcases h2.2 with ⟨rfl, h0⟩ | ⟨g, cap, cur, rfl, _, _, hc, _⟩
  · exact ⟨none, 0, by rw [h0], by omega, fun h => by omega⟩
  · exact ⟨_, cap, rfl, hc, fun _ => ⟨g, rfl⟩⟩
theorem PgRow.pgs {w : World} {base : Nat} {v : Value} {ps : List Pg} (h : PgRow w base v ps) : Pgs w v ps := by
  obtain ⟨ao, cap, rfl, hc, hg⟩ := h.form
  obtain ⟨ss, h1, h2, h3⟩ := h
  refine ⟨ao, cap, rfl, hc, fun hl => ?_⟩
  obtain ⟨g, rfl⟩ := hg hl
  obtain ⟨c, hh⟩ := own_heap h2 (k := g) rfl
  refine ⟨g, 0, c, (0, 0), rfl, hh, fun k p hp => ?_⟩
  have hk := (List.getElem?_eq_some_iff.1 hp).1
  have hks : k < ss.length := by omega
  have hz : ((ps.zip ss).map fun x => pgCells x.1 x.2).getD k [] = pgCells p ss[k] := by
    have e : ps[k] = p := by
      have := (List.getElem?_eq_some_iff.1 hp).2
      exact this
    have hzk : (ps.zip ss)[k]? = some (p, ss[k]) := by
      rw [List.getElem?_eq_getElem (by simp; omega)]
      simp [e]
    simp [List.getD, hzk]
  have cellAt : ∀ j, j < 3 → w.cell? ⟨g, 0 + k * 3 + j, none⟩ = (pgCells p ss[k])[j]? := fun j hj => by
    rw [Nat.zero_add, h2.cellAt (k * 3 + j) (by omega), flatten_at _ k j (by simp; omega) (by intro b hb; obtain ⟨x, _, rfl⟩ := List.mem_map.1 hb; rfl) hj, hz]
  exact ⟨ss[k], cellAt 0 (by omega), cellAt 1 (by omega), cellAt 2 (by omega), h3 k p _ hp (by simp [hks])⟩

theorem infoPg : (Tryd.prog.info? 33).map (fun i => (i.zero, i.size, i.bytes)) = some (some (.agg #[.int .i64 0, .int .u64 0, .slice none 0 0]), 3, 40) := by kernel_rfl
theorem pgCells_one (p : Pg) (s : Value) (hs : s.oneCell' = true) : ∀ u ∈ pgCells p s, u.oneCell' = true := by
  intro u hu
  simp [pgCells] at hu
  rcases hu with rfl | rfl | rfl
  · rfl
  · rfl
  · exact hs
/-- 'append(l, p)', p laid as a slice of one. -/
theorem PgRow.snoc {w : World} {base : Nat} {v : Value} {ps : List Pg} (h : PgRow w base v ps) (hb : base ≤ w.heap.size) (hl : ps.length ≤ 1000) {p : Pg} {aS : Option Addr} {ns cs : Nat} (hs : w.ownsRow 0 5 1 (.slice aS ns cs) p.data.length (secV p.data)) (ty : TypeId) :
    ∃ ao cap w', (Builtin.append_ #[37, 37] ty #[v, .slice (some ⟨w.heap.size, 0, none⟩) 1 1]).run Tryd.prog (w.alloc (.cells #[.int .i64 p.no, .int .u64 p.lsn, .slice aS ns cs] 33)) = .ok (.slice ao (ps.length + 1) cap) w' ∧
      PgRow w' base (.slice ao (ps.length + 1) cap) (ps ++ [p]) ∧ (∃ row, (w.alloc (.cells #[.int .i64 p.no, .int .u64 p.lsn, .slice aS ns cs] 33)).grownBy w' row ∧ ∀ r, row = some r → base ≤ r ∧ r < w.heap.size ∧ ∃ c f, w.heap[r]? = some (.cells c 33 f)) := by
  obtain ⟨i0, hi, hz0, hz1, hz2⟩ := info_parts infoPg
  obtain ⟨wA, hwA⟩ : ∃ wA, wA = w.alloc (.cells #[.int .i64 p.no, .int .u64 p.lsn, .slice aS ns cs] 33) := ⟨_, rfl⟩
  have hbA : Below w.heap.size w wA := by rw [hwA]; exact (Below.refl _ _).alloc (Nat.le_refl _) _
  have hnew : wA.heap[w.heap.size]? = some (.cells #[.int .i64 p.no, .int .u64 p.lsn, .slice aS ns cs] 33 (0, 0)) := by rw [hwA]; exact heap_new w _
  have hA := h.below hbA
  obtain ⟨ss, h1, h2, h3⟩ := hA
  obtain ⟨v', w', hrun, r1, r2, _⟩ := run_append_own (P := Tryd.prog) wA base 37 ty 33 i0 _ 3 40 Tryd.underlying37 hi hz0 hz1 hz2 rfl (by decide) v ps.length _ h2 ⟨w.heap.size, 0, none⟩ 1 1 (pgCells p (.slice aS ns cs)) rfl
    (fun j u hj => by rw [Addr.add_lit, Nat.zero_add, cell_of_row _ _ _ _ _ _ hnew, ← hj]; simp [pgCells]) (pgCells_one _ _ rfl) (by unfold maxLen; omega) (by omega) (by rw [hwA]; simp; omega)
  obtain ⟨ao, cap, rfl, hc, hg⟩ : ∃ ao cap, v' = .slice ao (ps.length + 1) cap ∧ ps.length + 1 ≤ cap ∧ True := by
    rcases r1.2 with ⟨rfl, h0⟩ | ⟨g, cap, cur, rfl, _, _, hc, _⟩
    · omega
    · exact ⟨_, cap, rfl, hc, trivial⟩
  have hrow : ∀ r, v.ownBlock = some r → base ≤ r ∧ r < w.heap.size ∧ ∃ c f, w.heap[r]? = some (.cells c 33 f) := fun r hr => by
    obtain ⟨ss', _, h2', _⟩ := h
    obtain ⟨c, hc⟩ := own_heap h2' hr
    exact ⟨own_base h2' r hr, lt_of_heap hc, c, _, hc⟩
  rw [← hwA]
  refine ⟨ao, cap, w', hrun, ⟨ss ++ [.slice aS ns cs], by simp [h1], ?_, ?_⟩, _, r2, hrow⟩
  · have e : ((ps ++ [p]).zip (ss ++ [.slice aS ns cs])).map (fun x => pgCells x.1 x.2) = (ps.zip ss).map (fun x => pgCells x.1 x.2) ++ [pgCells p (.slice aS ns cs)] := by
      rw [List.zip_append (by omega)]; simp
    rw [e, List.flatten_append, List.length_append]
    simpa using r1
  · intro k q s hq hs'
    have keep : ∀ (u : Value) (n : Nat) (xs : List Value), wA.ownsRow 0 5 1 u n xs → w'.ownsRow 0 5 1 u n xs := fun u n xs ho => own_same ho fun k' hk' => by
      obtain ⟨c, hc⟩ := own_heap ho hk'
      refine r2.block k' (lt_of_heap hc) (fun e => ?_)
      obtain ⟨c2, hc2⟩ := own_heap h2 e.symm
      rw [hc] at hc2
      injection hc2 with e1
      injection e1 with _ e2 _
      exact absurd e2 (by decide)
    rcases Nat.lt_or_ge k ps.length with hk | hk
    · rw [List.getElem?_append_left (by omega)] at hq hs'
      exact keep _ _ _ (h3 k q s hq hs')
    · rw [List.getElem?_append_right (by omega)] at hq hs'
      rw [h1] at hs'
      have hk0 : k - ps.length = 0 := by
        have := (List.getElem?_eq_some_iff.1 hq).1
        simp at this; omega
      rw [hk0] at hq hs'
      simp at hq hs'
      subst hq hs'
      exact keep _ _ _ (own_below hs hbA)

set_option maxRecDepth 8000 in
theorem page_bad {w : World} {v : Value} {f : List Int} (h : Bs w v f) (ht : TabOk w) (he : openE f ≠ 0) :
    Calls Tryd.prog 51 #[v] w fun e w' => e = .returned (.tuple #[.agg #[.int .i64 0, .int .u64 0, .slice none 0 0], .int .i64 (openE f)]) ∧ Below w.heap.size w w' := by
  have hbx : Below w.heap.size w (w.alloc (.cells #[.int .i64 0, .int .u64 0, .slice none 0 0] 33)) := (Below.refl _ _).alloc (Nat.le_refl _) _
  have HOP := hid (open_any (h.below hbx) (ht.below hbx (Nat.le_refl _)))
  generalize openE f = E at *
  have hne : (E != 0) = true := by simpa using he
  clear h ht he
  go_enter Tryd.func51, Tryd.ntmps51
  go_wp2_with (go_at_call 57; refine HOP.out.mono ?_; rintro e w1 ⟨v1, rfl, hbs1, hb1⟩; clear HOP; have HB1 := hid (hbx.trans (hb1.mono hbx.size)); have hr1 := (hb1.block w.heap.size (by simp)).trans (heap_new w _); have c0 := cell_of_row w1 w.heap.size 0 _ _ _ hr1; have c1 := cell_of_row w1 w.heap.size 1 _ _ _ hr1; have c2 := cell_of_row w1 w.heap.size 2 _ _ _ hr1; have f0 := frozen_of_row w1 w.heap.size 0 _ _ hr1; have f1 := frozen_of_row w1 w.heap.size 1 _ _ hr1; have f2 := frozen_of_row w1 w.heap.size 2 _ _ hr1; simp only [List.getElem?_toArray, List.getElem?_cons_succ, List.getElem?_cons_zero] at c0 c1 c2; obtain ⟨a1, k1, rfl, _⟩ := hbs1.open; clear hbs1 hb1 hbx hr1)
  refine bodyPost_ret (v := .tuple #[.agg #[.int .i64 0, .int .u64 0, .slice none 0 0], .int .i64 E]) (by simp [results, Tryd.results51, go_sem, c0, c1, c2]) rfl ⟨rfl, ?_⟩
  exact ((HB1.out.setCell (p := ⟨w.heap.size, 0, none⟩) (Nat.le_refl _) _).setCell (p := ⟨w.heap.size, 1, none⟩) (Nat.le_refl _) _).setCell (p := ⟨w.heap.size, 2, none⟩) (Nat.le_refl _) _
end Go.Proofs.YtafopokcfkgjiaaDoor
