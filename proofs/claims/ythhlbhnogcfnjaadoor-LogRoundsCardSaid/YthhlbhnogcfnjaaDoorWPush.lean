/-
  Layer 4: a further record is appended to a Log's row of records.
-/
import Derived.Test.YthhlbhnogcfnjaaDoorWPiece
namespace Go.Proofs.YthhlbhnogcfnjaaDoor
open Go.RowKit Go.Shelf

theorem infoBy : (Tryd.prog.info? 32).map (fun i => (i.zero, i.size, i.bytes)) = some (some (.slice none 0 0), 1, 24) := by kernel_rfl

/-- 'append(l, r)', r laid as a slice of one. -/
theorem RecRow.snoc {w : World} {base : Nat} {v : Value} {rs : List (List Int)} {tb : Option Nat} (h : RecRow w base v rs tb) (hb : base ≤ w.heap.size) (hl : rs.length ≤ 1000000) {r : List Int} {au : Option Addr} {nu cu : Nat} (hu : NewBs base w (.slice au nu cu) r) (htb : ∀ b, tb = some b → Value.ownBlock (.slice au nu cu) ≠ some b) (ty : TypeId) :
    ∃ ao cap w', (Builtin.append_ #[48, 48] ty #[v, .slice (some ⟨w.heap.size, 0, none⟩) 1 1]).run Tryd.prog (w.alloc (.cells #[.slice au nu cu] 32)) = .ok (.slice ao (rs.length + 1) cap) w' ∧
      RecRow w' base (.slice ao (rs.length + 1) cap) (rs ++ [r]) tb ∧ (∃ row, (w.alloc (.cells #[.slice au nu cu] 32)).grownBy w' row ∧ ∀ k, row = some k → base ≤ k ∧ k < w.heap.size ∧ ∃ c f, w.heap[k]? = some (.cells c 32 f)) := by
  obtain ⟨i0, hi, hz0, hz1, hz2⟩ := info_parts infoBy
  obtain ⟨wA, hwA⟩ : ∃ wA, wA = w.alloc (.cells #[.slice au nu cu] 32) := ⟨_, rfl⟩
  have hbA : Below w.heap.size w wA := by rw [hwA]; exact (Below.refl _ _).alloc (Nat.le_refl _) _
  have hnew : wA.heap[w.heap.size]? = some (.cells #[.slice au nu cu] 32 (0, 0)) := by rw [hwA]; exact heap_new w _
  have hrow : ∀ k, v.ownBlock = some k → base ≤ k ∧ k < w.heap.size ∧ ∃ c f, w.heap[k]? = some (.cells c 32 f) := fun k hk => by
    obtain ⟨us', _, h2', _⟩ := h
    obtain ⟨c, hc⟩ := own_heap h2' hk
    exact ⟨own_base h2' k hk, lt_of_heap hc, c, _, hc⟩
  have hA := h.below hbA
  obtain ⟨us, h1, h2, h3⟩ := hA
  obtain ⟨v', w', hrun, r1, r2, _⟩ := run_append_own (P := Tryd.prog) wA base 48 ty 32 i0 _ 1 24 Tryd.underlying48 hi hz0 hz1 hz2 rfl (by decide) v rs.length _ h2 ⟨w.heap.size, 0, none⟩ 1 1 [.slice au nu cu] rfl
    (fun j u hj => by rw [Addr.add_lit, Nat.zero_add, cell_of_row _ _ _ _ _ _ hnew, ← hj]; simp) (by intro u hu'; simp at hu'; subst hu'; rfl) (by unfold maxLen; omega) (by omega) (by rw [hwA]; simp; omega)
  obtain ⟨ao, cap, rfl⟩ : ∃ ao cap, v' = .slice ao (rs.length + 1) cap := by
    rcases r1.2 with ⟨rfl, h0⟩ | ⟨g, cap, cur, rfl, _, _, hc, _⟩
    · omega
    · exact ⟨_, cap, rfl⟩
  rw [← hwA]
  refine ⟨ao, cap, w', hrun, ⟨us ++ [.slice au nu cu], by simp [h1], ?_, ?_⟩, _, r2, hrow⟩
  · simpa using r1
  · have keep : ∀ (u : Value) (q : List Int), (Bs wA u q ∧ ∀ b, u.ownBlock = some b → base ≤ b ∧ tb ≠ some b ∧ ∃ c, wA.heap[b]? = some (.cells c 5 (0, 0))) → (Bs w' u q ∧ ∀ b, u.ownBlock = some b → base ≤ b ∧ tb ≠ some b ∧ ∃ c, w'.heap[b]? = some (.cells c 5 (0, 0))) := fun u q hq => by
      have same : ∀ (b : Nat) (c : Array Value), wA.heap[b]? = some (Obj.cells c 5 (0, 0)) → w'.heap[b]? = wA.heap[b]? := fun b c hc => r2.block b (lt_of_heap hc) (fun e => by
        obtain ⟨c2, hc2⟩ := own_heap h2 e.symm
        rw [hc] at hc2
        injection hc2 with e1
        injection e1 with _ e2 _
        exact absurd e2 (by decide))
      refine ⟨hq.1.same fun b e => ?_, fun b e => ?_⟩
      · obtain ⟨_, _, c, hc⟩ := hq.2 b e
        exact same b c hc
      · obtain ⟨q1, q2, c, hc⟩ := hq.2 b e
        exact ⟨q1, q2, c, (same b c hc).trans hc⟩
    intro k q s hq hs'
    rcases Nat.lt_or_ge k rs.length with hk | hk
    · rw [List.getElem?_append_left (by omega)] at hq hs'
      exact keep _ _ (h3 k q s hq hs')
    · rw [List.getElem?_append_right (by omega)] at hq hs'
      rw [h1] at hs'
      have hk0 : k - rs.length = 0 := by
        have := (List.getElem?_eq_some_iff.1 hq).1
        simp at this; omega
      rw [hk0] at hq hs'
      simp at hq hs'
      subst hq hs'
      have hu' := hu.below hbA
      exact keep _ _ ⟨hu'.1, fun b e => ⟨(hu'.2 b e).1, fun ht => htb b ht e, (hu'.2 b e).2⟩⟩

/-- The Log has a further record. -/
theorem LogIs.push {w : World} {base L B n at' sc : Nat} {d : Dk} {g : Lg} (h : LogIs w base L B n at' sc d g) {ra : Option Addr} {rc : Nat} {ta : Option Addr} {tc : Nat} (hf : w.heap[L]? = some (.cells #[.pointer (some ⟨B, 0, none⟩), .int .i64 at', .int .i64 sc, .int .u64 g.first, .slice ra g.recs.length rc, .int .u64 g.start, .int .u64 g.stop, .int .u64 g.flushed, .slice ta g.tail.length tc] 50 (0, 0)))
    (hl : g.recs.length + 1 ≤ 1000000) (hl2 : g.first + g.recs.length + 1 ≤ 5000000000000000000) {r : List Int} {au : Option Addr} {nu cu : Nat} (hu : NewBs base w (.slice au nu cu) r) (htb : ∀ b, Value.ownBlock (.slice ta g.tail.length tc) = some b → Value.ownBlock (.slice au nu cu) ≠ some b) :
    ∃ ao cap w', (Builtin.append_ #[48, 48] 48 #[.slice ra g.recs.length rc, .slice (some ⟨w.heap.size, 0, none⟩) 1 1]).run Tryd.prog (w.alloc (.cells #[.slice au nu cu] 32)) = .ok (.slice ao (g.recs.length + 1) cap) w' ∧ w'.heap[L]? = w.heap[L]? ∧
      LogIs (w'.setCell ⟨L, 4, none⟩ (.slice ao (g.recs.length + 1) cap)) base L B n at' sc d { g with recs := g.recs ++ [r] } ∧ Kl base w (w'.setCell ⟨L, 4, none⟩ (.slice ao (g.recs.length + 1) cap)) ∧ KeepsOthers w (w'.setCell ⟨L, 4, none⟩ (.slice ao (g.recs.length + 1) cap)) ∧
      (∀ (k : Nat) (c : Array Value) (t : TypeId) (f : Nat × Nat), w.heap[k]? = some (Obj.cells c t f) → t ≠ 32 → w'.heap[k]? = w.heap[k]?) ∧ (∀ (k : Nat) (c : Array Value) (t : TypeId) (f : Nat × Nat), w.heap[k]? = some (Obj.cells c t f) → t ≠ 32 → t ≠ 50 → (w'.setCell ⟨L, 4, none⟩ (.slice ao (g.recs.length + 1) cap)).heap[k]? = w.heap[k]?) := by
  have hbase : base ≤ w.heap.size := by have := h.lt; have := h.2.1; omega
  obtain ⟨hd, hL, hs, hn, hby, rv, tv, hh, ht, hr⟩ := h
  obtain ⟨e4, e8⟩ : rv = .slice ra g.recs.length rc ∧ tv = .slice ta g.tail.length tc := by
    rw [hf] at hh
    injection hh with e
    injection e with e _ _
    simp at e
    exact ⟨e.1.symm, e.2.symm⟩
  subst e4 e8
  obtain ⟨ao, cap, w', hrun, hrow, row, hg, hk⟩ := hr.snoc hbase (by omega) hu htb 48
  have hbA : Below w.heap.size w (w.alloc (.cells #[.slice au nu cu] 32)) := (Below.refl _ _).alloc (Nat.le_refl _) _
  have key : ∀ (k : Nat) (c : Array Value) (t : TypeId) (f : Nat × Nat), w.heap[k]? = some (Obj.cells c t f) → t ≠ 32 → w'.heap[k]? = w.heap[k]? := fun k c t f hk' ht' => by
    refine (hg.block k (Nat.lt_of_lt_of_le (lt_of_heap hk') hbA.size) (fun e => ?_)).trans (hbA.block k (lt_of_heap hk'))
    obtain ⟨_, _, c2, f2, h2⟩ := hk k e.symm
    rw [hk'] at h2
    injection h2 with e1
    injection e1 with _ e2 _
    exact ht' e2
  have hL' := key L _ _ _ hh (by decide)
  have farL : ∀ k : Nat, k ≠ L → (w'.setCell ⟨L, 4, none⟩ (.slice ao (g.recs.length + 1) cap)).heap[k]? = w'.heap[k]? := fun k hk' => Below.heap_setCell w' _ _ k (fun e => hk' (by rw [e]))
  have neL : ∀ (k : Nat) (c : Array Value) (t : TypeId) (f : Nat × Nat), w.heap[k]? = some (Obj.cells c t f) → t ≠ 50 → k ≠ L := fun k c t f hk' ht' e => by
    subst e
    rw [hh] at hk'
    injection hk' with e1
    injection e1 with _ e2 _
    exact ht' e2.symm
  have neL' : ∀ (k : Nat) (c : Array Value) (t : TypeId) (f : Nat × Nat), w'.heap[k]? = some (Obj.cells c t f) → t ≠ 50 → k ≠ L := fun k c t f hk' ht' e => by
    subst e
    rw [hL', hh] at hk'
    injection hk' with e1
    injection e1 with _ e2 _
    exact ht' e2.symm
  have all : ∀ (k : Nat) (c : Array Value) (t : TypeId) (f : Nat × Nat), w.heap[k]? = some (Obj.cells c t f) → t ≠ 32 → t ≠ 50 → (w'.setCell ⟨L, 4, none⟩ (.slice ao (g.recs.length + 1) cap)).heap[k]? = w.heap[k]? := fun k c t f hk' h1 h2 => (farL k (neL k c t f hk' h2)).trans (key k c t f hk' h1)
  have hgA : w.grownBy (w.alloc (.cells #[.slice au nu cu] 32)) none := World.grownBy_alloc _ _ none
  have ko : KeepsOthers w w' := by
    refine (KeepsOthers.alloc w (.cells #[.slice au nu cu] 32)).trans ?_
    cases row with
    | none => exact ⟨hg.size, fun k o hk' _ => (hg.block k (lt_of_heap hk') (fun e => by cases e)).trans hk'⟩
    | some q =>
      obtain ⟨_, hlt, c, f, hc⟩ := hk q rfl
      refine ⟨hg.size, fun k o hk' ho => (hg.block k (lt_of_heap hk') (fun e => ?_)).trans hk'⟩
      injection e with e
      subst e
      rw [hbA.block k hlt, hc] at hk'
      injection hk' with e
      subst e
      cases ho
  have kl1 : Kl base w w' := by
    refine (Kl.fresh hbA hbase).trans (Kl.row hg (Nat.le_trans hbase hbA.size) fun k e => ?_)
    obtain ⟨h1, hlt, c, f, hc⟩ := hk k e
    exact ⟨h1, c, _, f, (hbA.block k hlt).trans hc, .inr (.inr (.inr rfl))⟩
  have kl2 : Kl base w' (w'.setCell ⟨L, 4, none⟩ (.slice ao (g.recs.length + 1) cap)) := Kl.row (grown_setCell w' L 4 _) (Nat.le_trans hbase kl1.size) (fun k e => by
    injection e with e
    subst e
    exact ⟨hL, _, _, _, hL'.trans hh, .inr (.inl rfl)⟩)
  refine ⟨ao, cap, w', hrun, hL', ⟨hd.same fun k c t f hk' hd' => all k c t f hk' (fun e => ?_) (fun e => nd_log (e ▸ hd')), hL, hs, ⟨?_, hn.2.1, hn.2.2.1, hn.2.2.2.1, ?_, hn.2.2.2.2.2⟩, hby, .slice ao (g.recs.length + 1) cap, .slice ta g.tail.length tc, ?_, ?_, ?_⟩, kl1.trans kl2, ko.trans (KeepsOthers.setCell w' _ _), key, all⟩
  · exact nd_bytes (e ▸ hd')
  · simp; omega
  · simp; omega
  · rw [heap_setCell_same w' L 4 _ _ _ (hL'.trans hh)]
    rfl
  · refine own_same ht fun k e => ?_
    obtain ⟨c, hc⟩ := own_heap ht e
    exact all k _ _ _ hc (by decide) (by decide)
  · have := hrow.all (w' := w'.setCell ⟨L, 4, none⟩ (.slice ao (g.recs.length + 1) cap)) fun k c t hc h2 => farL k (neL' k _ _ _ hc (by rcases h2 with rfl | rfl <;> decide))
    exact this
/-- The Log has another tail, in new memory. -/
theorem LogIs.retail {w w2 : World} {base L B n at' sc : Nat} {d : Dk} {g : Lg} (h : LogIs w base L B n at' sc d g) (hb : Below w.heap.size w w2) {tv : Value} {tl : List Int} (hown : w2.ownsRow w.heap.size 5 1 tv tl.length (secV tl)) (hby : By tl) (hl : tl.length ≤ 2000000) :
    LogIs (w2.setCell ⟨L, 8, none⟩ tv) base L B n at' sc d { g with tail := tl } ∧ Kl base w (w2.setCell ⟨L, 8, none⟩ tv) := by
  have hbase : base ≤ w.heap.size := by have := h.lt; have := h.2.1; omega
  have hlt0 := h.lt
  obtain ⟨hd, hL, hs, hn, _, rv, tv0, hh, ht, hr⟩ := h
  have hh2 := (hb.block L (lt_of_heap hh)).trans hh
  have hg := grown_setCell w2 L 8 tv
  have far : ∀ (k : Nat) (c : Array Value) (t : TypeId) (f : Nat × Nat), w.heap[k]? = some (Obj.cells c t f) → t ≠ 50 → (w2.setCell ⟨L, 8, none⟩ tv).heap[k]? = w.heap[k]? := fun k c t f hk hne => by
    have h2 := (hb.block k (lt_of_heap hk)).trans hk
    refine (hg.block k (lt_of_heap h2) (fun e => ?_)).trans (hb.block k (lt_of_heap hk))
    injection e with e
    subst e
    rw [hh] at hk
    injection hk with e
    injection e with _ e _
    exact hne e.symm
  have kl : Kl base w (w2.setCell ⟨L, 8, none⟩ tv) := (Kl.fresh hb hbase).trans (Kl.row hg (Nat.le_trans hbase hb.size) (fun k e => by
    injection e with e
    subst e
    exact ⟨hL, _, _, _, hh2, .inr (.inl rfl)⟩))
  refine ⟨⟨hd.same fun k c t f hk hd' => far k c t f hk (fun e => nd_log (e ▸ hd')), hL, hs, ⟨hn.1, hn.2.1, hn.2.2.1, hn.2.2.2.1, hn.2.2.2.2.1, hl⟩, hby, rv, tv, ?_, ?_, ?_⟩, kl⟩
  · rw [heap_setCell_same w2 L 8 _ _ _ hh2]
    rfl
  · refine own_same (own_mono hown hbase) fun k e => ?_
    have h1 := own_base hown k e
    exact Below.heap_setCell _ _ _ _ (by show k ≠ L; omega)
  · obtain ⟨us, h1, h2, h3⟩ := hr
    refine ⟨us, h1, own_same h2 fun k e => ?_, fun k r u hr hu => ?_⟩
    · obtain ⟨c, hc⟩ := own_heap h2 e
      exact far k _ _ _ hc (by decide)
    · obtain ⟨hb', hx⟩ := h3 k r u hr hu
      refine ⟨hb'.same fun b e => ?_, fun b e => ?_⟩
      · obtain ⟨_, _, c, hc⟩ := hx b e
        exact far b _ _ _ hc (by decide)
      · obtain ⟨q1, _, c, hc⟩ := hx b e
        refine ⟨q1, fun e' => ?_, c, (far b _ _ _ hc (by decide)).trans hc⟩
        have := own_base hown b e'
        have := lt_of_heap hc
        omega
end Go.Proofs.YthhlbhnogcfnjaaDoor
