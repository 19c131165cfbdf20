/-
  Layer 4: bytes are appended to a Log's tail.
-/
import Derived.Test.YthhlbhnogcfnjaaDoorWPush
import Derived.Maps.AppendAt
namespace Go.Proofs.YthhlbhnogcfnjaaDoor
open Go.RowKit Go.Shelf

theorem LogIs.grow {w : World} {base L B n at' sc : Nat} {d : Dk} {g : Lg} (h : LogIs w base L B n at' sc d g) {ra : Option Addr} {rc : Nat} {ta : Option Addr} {tc : Nat} (hf : w.heap[L]? = some (.cells #[.pointer (some ⟨B, 0, none⟩), .int .i64 at', .int .i64 sc, .int .u64 g.first, .slice ra g.recs.length rc, .int .u64 g.start, .int .u64 g.stop, .int .u64 g.flushed, .slice ta g.tail.length tc] 50 (0, 0)))
    {zs : List Int} {N gz m cz : Nat} (hz : w.ownsRow N 5 1 (.slice (some ⟨gz, 0, none⟩) m cz) m (zs.map (Value.int .u8))) (hzb : By zs) (hl : g.tail.length + m ≤ 2000000) :
    ∃ ao cap w', (Builtin.append_ #[32, 32] 32 #[.slice ta g.tail.length tc, .slice (some ⟨gz, 0, none⟩) m cz]).run Tryd.prog w = .ok (.slice ao (g.tail.length + m) cap) w' ∧ w'.heap[L]? = w.heap[L]? ∧
      LogIs (w'.setCell ⟨L, 8, none⟩ (.slice ao (g.tail.length + m) cap)) base L B n at' sc d { g with tail := g.tail ++ zs } ∧ Kl base w (w'.setCell ⟨L, 8, none⟩ (.slice ao (g.tail.length + m) cap)) ∧
      (∀ (k : Nat) (o : Obj), w.heap[k]? = some o → Value.ownBlock (.slice ta g.tail.length tc) ≠ some k → k ≠ L → (w'.setCell ⟨L, 8, none⟩ (.slice ao (g.tail.length + m) cap)).heap[k]? = w.heap[k]?) := by
  obtain ⟨i0, hi, hz0, hz1, hz2⟩ := info_parts info5
  have hbase : base ≤ w.heap.size := by have := h.lt; have := h.2.1; omega
  obtain ⟨hd, hL, hs, hn, hby, rv, tv, hh, ht, hr⟩ := h
  obtain ⟨e4, e8⟩ : rv = .slice ra g.recs.length rc ∧ tv = .slice ta g.tail.length tc := by
    rw [hf] at hh
    injection hh with e
    injection e with e _ _
    simp at e
    exact ⟨e.1.symm, e.2.symm⟩
  subst e4 e8
  have hzl : zs.length = m := by have := hz.1; simpa using this
  obtain ⟨v', w', hrun, r1, r2, _, r4⟩ := run_append_own_at (P := Tryd.prog) w base 32 32 5 i0 _ 1 1 Tryd.underlying32 hi hz0 hz1 hz2 rfl (by decide) (.slice ta g.tail.length tc) g.tail.length _ ht ⟨gz, 0, none⟩ m cz (zs.map (Value.int .u8)) (by rw [List.length_map, hzl, Nat.mul_one])
    (fun j u hj => by
      have hlt := (List.getElem?_eq_some_iff.1 hj).1
      rw [List.length_map] at hlt
      rw [Addr.add_lit, Nat.zero_add, hz.cellAt j (by omega)]
      exact hj) (ints_oneCell _ _) (by unfold maxLen; omega) (by omega) hbase
  obtain ⟨ao, cap, rfl⟩ : ∃ ao cap, v' = .slice ao (g.tail.length + m) cap := by
    rcases r1.2 with ⟨rfl, h0⟩ | ⟨q, cap, cur, rfl, _⟩
    · exact ⟨none, 0, by rw [h0]⟩
    · exact ⟨_, cap, rfl⟩
  have key : ∀ (k : Nat) (o : Obj), w.heap[k]? = some o → Value.ownBlock (.slice ta g.tail.length tc) ≠ some k → w'.heap[k]? = w.heap[k]? := fun k o hk hne => r2.block k (lt_of_heap hk) (fun e => hne e.symm)
  have tneL : Value.ownBlock (.slice ta g.tail.length tc) ≠ some L := fun e => by
    obtain ⟨c, hc⟩ := own_heap ht e
    rw [hh] at hc
    injection hc with e1
    injection e1 with _ e2 _
    exact absurd e2 (by decide)
  have hL' := key L _ hh tneL
  have farL : ∀ k : Nat, k ≠ L → (w'.setCell ⟨L, 8, none⟩ (.slice ao (g.tail.length + m) cap)).heap[k]? = w'.heap[k]? := fun k hk' => Below.heap_setCell w' _ _ k (fun e => hk' (by rw [e]))
  have tty : ∀ (k : Nat) (c : Array Value) (t : TypeId) (f : Nat × Nat), w.heap[k]? = some (Obj.cells c t f) → t ≠ 5 → Value.ownBlock (.slice ta g.tail.length tc) ≠ some k := fun k c t f hk hne e => by
    obtain ⟨c', hc⟩ := own_heap ht e
    rw [hk] at hc
    injection hc with e1
    injection e1 with _ e2 _
    exact hne e2
  have neL : ∀ (k : Nat) (c : Array Value) (t : TypeId) (f : Nat × Nat), w.heap[k]? = some (Obj.cells c t f) → t ≠ 50 → k ≠ L := fun k c t f hk' ht' e => by
    subst e
    rw [hh] at hk'
    injection hk' with e1
    injection e1 with _ e2 _
    exact ht' e2.symm
  have kl1 : Kl base w w' := Kl.row r2 hbase fun k e => by
    obtain ⟨c, hc⟩ := own_heap ht e
    exact ⟨own_base ht k e, c, _, _, hc, .inr (.inr (.inl rfl))⟩
  have kl2 : Kl base w' (w'.setCell ⟨L, 8, none⟩ (.slice ao (g.tail.length + m) cap)) := Kl.row (grown_setCell w' L 8 _) (Nat.le_trans hbase kl1.size) (fun k e => by
    injection e with e
    subst e
    exact ⟨hL, _, _, _, hL'.trans hh, .inr (.inl rfl)⟩)
  refine ⟨ao, cap, w', hrun, hL', ⟨hd.same fun k c t f hk' hd' => ?_, hL, hs, ⟨hn.1, hn.2.1, hn.2.2.1, hn.2.2.2.1, hn.2.2.2.2.1, ?_⟩, hby.app hzb, .slice ra g.recs.length rc, .slice ao (g.tail.length + m) cap, ?_, ?_, ?_⟩, kl1.trans kl2, fun k o hk h1 h2 => (farL k h2).trans (key k o hk h1)⟩
  · rw [farL k (neL k c t f hk' (fun e => nd_log (e ▸ hd')))]
    exact key k _ hk' (tty k c t f hk' (fun e => by
      have : ¬ diskT 5 := by unfold diskT; decide
      exact this (e ▸ hd')))
  · simp [hzl]; omega
  · rw [heap_setCell_same w' L 8 _ _ _ (hL'.trans hh)]
    rfl
  · have e1 : secV (g.tail ++ zs) = secV g.tail ++ zs.map (Value.int .u8) := by simp [secV]
    rw [e1, List.length_append, hzl]
    refine own_same r1 fun k e => farL k (fun e' => ?_)
    subst e'
    rcases r4 with r4 | r4
    · rw [r4] at e; exact tneL e
    · rw [r4] at e
      injection e with e
      have := lt_of_heap hh
      omega
  · obtain ⟨us, h1, h2, h3⟩ := hr
    refine ⟨us, h1, own_same h2 fun k e => ?_, fun k r u hr hu => ?_⟩
    · obtain ⟨c, hc⟩ := own_heap h2 e
      rw [farL k (neL k _ _ _ hc (by decide))]
      exact key k _ hc (tty k _ _ _ hc (by decide))
    · obtain ⟨hb', hx⟩ := h3 k r u hr hu
      refine ⟨hb'.same fun b e => ?_, fun b e => ?_⟩
      · obtain ⟨_, q2, c, hc⟩ := hx b e
        rw [farL b (neL b _ _ _ hc (by decide))]
        exact key b _ hc q2
      · obtain ⟨q1, q2, c, hc⟩ := hx b e
        have hs' : (w'.setCell ⟨L, 8, none⟩ (.slice ao (g.tail.length + m) cap)).heap[b]? = w.heap[b]? := (farL b (neL b _ _ _ hc (by decide))).trans (key b _ hc q2)
        refine ⟨q1, fun e' => ?_, c, hs'.trans hc⟩
        rcases r4 with r4 | r4
        · rw [r4] at e'; exact q2 e'
        · rw [r4] at e'
          injection e' with e'
          have := lt_of_heap hc
          omega
end Go.Proofs.YthhlbhnogcfnjaaDoor
