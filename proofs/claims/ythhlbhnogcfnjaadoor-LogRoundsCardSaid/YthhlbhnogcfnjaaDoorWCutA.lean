/-
  Layer 4: the records of a Log, copied from one on into a new row.
-/
import Derived.Test.YthhlbhnogcfnjaaDoorWPush
import Derived.Test.YthhlbhnogcfnjaaDoorME
namespace Go.Proofs.YthhlbhnogcfnjaaDoor
open Go.RowKit Go.Shelf

set_option maxHeartbeats 1600000 in
theorem cloneR_any {w : World} {g off m cap : Nat} {us : List Value} (hlen : us.length = m) (h1 : 1 ≤ m) (hl : m ≤ 1000000) (hc : ∀ j u, us[j]? = some u → w.cell? ((⟨g, off, none⟩ : Addr).add j) = some u) (hone : ∀ u ∈ us, u.oneCell' = true) :
    Calls Tryd.prog 28 #[.slice (some ⟨g, off, none⟩) m cap] w fun e w' => ∃ g' c', e = .returned (.slice (some ⟨g', 0, none⟩) m c') ∧ w'.ownsRow w.heap.size 32 1 (.slice (some ⟨g', 0, none⟩) m c') m us ∧ Below w.heap.size w w' := by
  obtain ⟨i0, hi, hz0, hz1, hz2⟩ := info_parts infoBy
  have hb0 : Below w.heap.size w (w.alloc (.cells #[] 32)) := (Below.refl _ _).alloc (Nat.le_refl _) _
  have hcells : ∀ j u, us[j]? = some u → (w.alloc (.cells #[] 32)).cell? ((⟨g, off, none⟩ : Addr).add j) = some u := fun j u hu => by
    have h := hc j u hu
    exact (hb0.cell (World.block_lt_of_cell? w _ h)).trans h
  have hnil : ∀ (wx : World) (a : Option Addr) (n c : Nat), (binOp .eql 48 (.slice a n c) (.slice none 0 0)).run Tryd.prog wx = .ok (.bool a.isNone) wx := fun wx a n c => Lib.run_eql_slice_nil wx _ _ a n c 0 0 Tryd.underlying48
  have hown : (w.alloc (.cells #[] 32)).ownsRow w.heap.size 32 1 (.slice (some ⟨w.heap.size, 0, none⟩) 0 0) 0 [] := World.ownsRow_lit w #[] 0 (Nat.le_refl _) (by unfold maxLen; omega) (by simp)
  have hlen' : us.length = m * 1 := by omega
  have HOW := hid hown
  have HCE := hid hcells
  clear hown hcells hc
  go_enter Tryd.func28, Tryd.ntmps28
  go_wp2_with (at_builtin; refine wpList_append_own _ rfl (.tmp 5) (.tmp 6) 48 rfl w.heap.size 32 i0 _ 1 24 Tryd.underlying48 hi hz0 hz1 hz2 rfl (by decide) (.slice (some ⟨w.heap.size, 0, none⟩) 0 0) 0 [] rfl HOW.out ⟨g, off, none⟩ m cap us rfl hlen' HCE.out hone (by unfold maxLen; omega) (by omega) (by simp) ?_; intro v2 w2 hown2 hgrow2 _; have hB2 : Below w.heap.size w w2 := hb0.grown hgrow2 (by simp) (own_base HOW.out); have HO2 := hid hown2; clear hown2 hgrow2)
  go_ret
  have ho := HO2.out
  rw [Nat.zero_add, List.nil_append] at ho
  obtain ⟨g', c', rfl⟩ : ∃ g' c', v2 = .slice (some ⟨g', 0, none⟩) m c' := by
    rcases ho.2 with ⟨_, h0⟩ | ⟨g', c', _, rfl, _⟩
    · omega
    · exact ⟨g', c', rfl⟩
  exact ⟨g', c', rfl, ho, hB2⟩

/-- The records that slices hold. -/
def RecU (W : World) (base : Nat) (us : List Value) (rs : List (List Int)) (tb : Option Nat) : Prop :=
  us.length = rs.length ∧ ∀ (k : Nat) (r : List Int) (u : Value), rs[k]? = some r → us[k]? = some u → Bs W u r ∧ ∀ b, u.ownBlock = some b → base ≤ b ∧ tb ≠ some b ∧ ∃ c, W.heap[b]? = some (.cells c 5 (0, 0))
/-- A Log of one record at least, its row laid open. -/
theorem LogIs.rows {w : World} {base L B n at' sc : Nat} {d : Dk} {g : Lg} (h : LogIs w base L B n at' sc d g) (h1 : 1 ≤ g.recs.length) : ∃ gr rc ta tc us cr, w.heap[L]? = some (.cells #[.pointer (some ⟨B, 0, none⟩), .int .i64 at', .int .i64 sc, .int .u64 g.first, .slice (some ⟨gr, 0, none⟩) g.recs.length rc, .int .u64 g.start, .int .u64 g.stop, .int .u64 g.flushed, .slice ta g.tail.length tc] 50 (0, 0)) ∧
    RecU w base us g.recs (Value.ownBlock (.slice ta g.tail.length tc)) ∧ w.heap[gr]? = some (.cells cr 32 (0, 0)) ∧ (∀ k, k < us.length → cr[k]? = us[k]?) ∧ g.recs.length ≤ rc ∧ (∀ u ∈ us, u.oneCell' = true) := by
  obtain ⟨ra, rc, ta, tc, hh, ht, us, hl, hrow, heach⟩ := h.form
  rcases hrow.2 with ⟨_, h0⟩ | ⟨gr, cap, cur, e, hg0, hgh, hc1, hc2, hc3, hc4⟩
  · omega
  · injection e with e1 _ e3
    subst e1 e3
    refine ⟨gr, rc, ta, tc, us, cur, hh, ⟨hl, heach⟩, hgh, fun k hk => ?_, by omega, fun u hu => ?_⟩
    · rw [← hc4, List.getElem?_take, if_pos (by omega)]
      simp
    · obtain ⟨k, hk, rfl⟩ := List.mem_iff_getElem.1 hu
      obtain ⟨r, hr⟩ : ∃ r, g.recs[k]? = some r := ⟨g.recs[k]'(by rw [← hl]; exact hk), by rw [List.getElem?_eq_getElem (by rw [← hl]; exact hk)]⟩
      obtain ⟨a, c, e, _⟩ := (heach k r us[k] hr (by simp [hk])).1.open
      rw [e]; rfl
/-- The Log has other records, in a new row. -/
theorem LogIs.rerecs {w w2 : World} {base L B n at' sc : Nat} {d : Dk} {g : Lg} (h : LogIs w base L B n at' sc d g) {ra : Option Addr} {rc : Nat} {ta : Option Addr} {tc : Nat} (hf : w.heap[L]? = some (.cells #[.pointer (some ⟨B, 0, none⟩), .int .i64 at', .int .i64 sc, .int .u64 g.first, .slice ra g.recs.length rc, .int .u64 g.start, .int .u64 g.stop, .int .u64 g.flushed, .slice ta g.tail.length tc] 50 (0, 0)))
    {us : List Value} (hu : RecU w base us g.recs (Value.ownBlock (.slice ta g.tail.length tc))) (hb : Below w.heap.size w w2) {rv : Value} {k : Nat} (hk : k ≤ g.recs.length) (hown : w2.ownsRow w.heap.size 32 1 rv (g.recs.length - k) (us.drop k)) :
    LogIs (w2.setCell ⟨L, 4, none⟩ rv) base L B n at' sc d { g with recs := g.recs.drop k } ∧ Kl base w (w2.setCell ⟨L, 4, none⟩ rv) := by
  have hbase : base ≤ w.heap.size := by have := h.lt; have := h.2.1; omega
  obtain ⟨hd, hL, hs, hn, hby, rv0, tv, hh, ht, hr⟩ := h
  obtain rfl : tv = .slice ta g.tail.length tc := by
    rw [hf] at hh
    injection hh with e
    injection e with e _ _
    simp at e
    exact e.2.symm
  have hh2 := (hb.block L (lt_of_heap hh)).trans hh
  have hg := grown_setCell w2 L 4 rv
  have far : ∀ (k : Nat) (c : Array Value) (t : TypeId) (f : Nat × Nat), w.heap[k]? = some (Obj.cells c t f) → t ≠ 50 → (w2.setCell ⟨L, 4, none⟩ rv).heap[k]? = w.heap[k]? := fun k c t f hk hne => by
    have h2 := (hb.block k (lt_of_heap hk)).trans hk
    refine (hg.block k (lt_of_heap h2) (fun e => ?_)).trans (hb.block k (lt_of_heap hk))
    injection e with e
    subst e
    rw [hh] at hk
    injection hk with e
    injection e with _ e _
    exact hne e.symm
  have kl : Kl base w (w2.setCell ⟨L, 4, none⟩ rv) := (Kl.fresh hb hbase).trans (Kl.row hg (Nat.le_trans hbase hb.size) (fun k e => by
    injection e with e
    subst e
    exact ⟨hL, _, _, _, hh2, .inr (.inl rfl)⟩))
  have hdl : (g.recs.drop k).length = g.recs.length - k := List.length_drop
  refine ⟨⟨hd.same fun k c t f hk hd' => far k c t f hk (fun e => nd_log (e ▸ hd')), hL, hs, ⟨?_, hn.2.1, hn.2.2.1, hn.2.2.2.1, ?_, hn.2.2.2.2.2⟩, hby, rv, .slice ta g.tail.length tc, ?_, ?_, ?_⟩, kl⟩
  · show g.first + (g.recs.drop k).length ≤ _
    rw [hdl]; omega
  · show (g.recs.drop k).length ≤ _
    rw [hdl]; omega
  · rw [heap_setCell_same w2 L 4 _ _ _ hh2]
    rfl
  · refine own_same ht fun k e => ?_
    obtain ⟨c, hc⟩ := own_heap ht e
    exact far k _ _ _ hc (by decide)
  · refine ⟨us.drop k, by rw [List.length_drop, hu.1, hdl], ?_, fun j r u hr hu' => ?_⟩
    · show (w2.setCell ⟨L, 4, none⟩ rv).ownsRow base _ 1 rv (g.recs.drop k).length _
      rw [hdl]
      refine own_same (own_mono hown hbase) fun b e => ?_
      have h1 := own_base hown b e
      have h2 := lt_of_heap hh
      exact Below.heap_setCell _ _ _ _ (by show b ≠ L; omega)
    · rw [List.getElem?_drop] at hr hu'
      obtain ⟨hb', hx⟩ := hu.2 (k + j) r u hr hu'
      refine ⟨hb'.same fun b e => ?_, fun b e => ?_⟩
      · obtain ⟨_, _, c, hc⟩ := hx b e
        exact far b _ _ _ hc (by decide)
      · obtain ⟨q1, q2, c, hc⟩ := hx b e
        exact ⟨q1, q2, c, (far b _ _ _ hc (by decide)).trans hc⟩
end Go.Proofs.YthhlbhnogcfnjaaDoor
