/-
  Layer 12: a row of slices that the call itself made.
-/
import Derived.Test.YtlnjjkgjknheiaaLCutsP
namespace Go.Proofs.Ytlnjjkgjknheiaa
open Go.RowKit Go.Sort


theorem infoSl : (Try.prog.info? 25).map (fun i => (i.zero, i.size, i.bytes)) = some (some (.slice none 0 0), 1, 24) := by kernel_rfl
def SvRow (W : World) (base : Nat) (v : Value) (vs : List Value) : Prop := W.ownsRow base 25 1 v vs.length vs
theorem SvRow.nil (w : World) (base : Nat) : SvRow w base (.slice none 0 0) [] := ⟨rfl, .inl ⟨rfl, rfl⟩⟩
theorem SvRow.below {w w' : World} {base : Nat} {v : Value} {vs : List Value} (h : SvRow w base v vs) (hb : Below w.heap.size w w') : SvRow w' base v vs := by
  refine ⟨h.1, ?_⟩
  rcases h.2 with h0 | ⟨g, cap, cur, h1, h2, h3, h4⟩
  · exact .inl h0
  · exact .inr ⟨g, cap, cur, h1, h2, (hb.block g (lt_of_heap h3)).trans h3, h4⟩
theorem SvRow.form {w : World} {base : Nat} {v : Value} {vs : List Value} (h : SvRow w base v vs) : ∃ ao cap, v = .slice ao vs.length cap := by
  rcases h.2 with ⟨rfl, h0⟩ | ⟨g, cap, cur, rfl, _⟩
  · exact ⟨none, 0, by rw [h0]⟩
  · exact ⟨_, cap, rfl⟩
theorem SvRow.lt {w : World} {base : Nat} {v : Value} {vs : List Value} (h : SvRow w base v vs) {k : Nat} (hk : v.ownBlock = some k) : k < w.heap.size ∧ base ≤ k := by
  rcases h.2 with ⟨rfl, h0⟩ | ⟨g, cap, cur, rfl, h1, h2, _⟩
  · cases hk
  · cases hk
    exact ⟨lt_of_heap h2, h1⟩
theorem SvRow.at {w : World} {base : Nat} {ao : Option Addr} {n cap : Nat} {vs : List Value} (h : SvRow w base (.slice ao n cap) vs) {k : Nat} {v : Value} (hk : vs[k]? = some v) : ∃ g, ao = some ⟨g, 0, none⟩ ∧ w.cell? ⟨g, k, none⟩ = some v := by
  have hlt := (List.getElem?_eq_some_iff.1 hk).1
  rcases h.2 with ⟨e, h0⟩ | ⟨g, cap', cur, e, _⟩
  · omega
  · injection e with e1 e2 e3
    subst e1 e2
    have h' : w.ownsRow base 25 1 (.slice (some ⟨g, 0, none⟩) vs.length cap) vs.length vs := h
    exact ⟨g, rfl, (h'.cellAt k (by omega)).trans hk⟩
theorem SvRow.snoc {w : World} {base : Nat} {v : Value} {vs : List Value} (h : SvRow w base v vs) (hb : base ≤ w.heap.size) (hl : vs.length ≤ 1000000) (u : Value) (hu : ∃ a n c, u = .slice a n c) :
    ∃ ao cap w', (Builtin.append_ #[22, 22] 22 #[v, .slice (some ⟨w.heap.size, 0, none⟩) 1 1]).run Try.prog (w.alloc (.cells #[u] 25)) = .ok (.slice ao (vs.length + 1) cap) w' ∧
      SvRow w' base (.slice ao (vs.length + 1) cap) (vs ++ [u]) ∧ Below base w w' ∧ RowBy w w' v (.slice ao (vs.length + 1) cap) := by
  obtain ⟨i0, hi, hz0, hz1, hz2⟩ := info_parts infoSl
  obtain ⟨wA, hwA⟩ : ∃ wA, wA = w.alloc (.cells #[u] 25) := ⟨_, rfl⟩
  have hbA : Below w.heap.size w wA := by rw [hwA]; exact (Below.refl _ _).alloc (Nat.le_refl _) _
  have hP : wA.cell? ⟨w.heap.size, 0, none⟩ = some u := by
    have hh : wA.heap[w.heap.size]? = some (.cells #[u] 25) := by
      rw [hwA]
      unfold World.alloc
      simp
    simp [World.cell?, hh]
  have h2 := h.below hbA
  obtain ⟨v', w', hrun, r1, r2, _, r4⟩ := run_append_own_at (P := Try.prog) wA base 22 22 25 i0 _ 1 24 Try.underlying22 hi hz0 hz1 hz2 rfl (by decide) v vs.length _ h2 ⟨w.heap.size, 0, none⟩ 1 1 [u] rfl
    (fun j x hj => by
      match j, hj with
      | 0, hj => simp at hj; subst hj; exact hP
      | j + 1, hj => simp at hj) (by intro x hx; simp at hx; subst hx; obtain ⟨a, n, c, rfl⟩ := hu; rfl) (by unfold maxLen; omega) (by omega) (by rw [hwA]; simp; omega)
  obtain ⟨ao, cap, rfl⟩ : ∃ ao cap, v' = .slice ao (vs.length + 1) cap := by
    rcases r1.2 with ⟨rfl, h0⟩ | ⟨g, cap, cur, rfl, _, _, hc, _⟩
    · omega
    · exact ⟨_, cap, rfl⟩
  rw [← hwA]
  refine ⟨ao, cap, w', hrun, ?_, ?_, ?_⟩
  · unfold SvRow
    rw [List.length_append]
    exact r1
  · exact (hbA.mono hb).grown r2 (Nat.le_trans hb hbA.size) (fun k e => (h.lt e).2)
  · refine ⟨fun b hb' hne => (r2.block b (Nat.lt_of_lt_of_le hb' hbA.size) (fun e => hne e.symm)).trans (hbA.block b hb'), fun k hk => ?_⟩
    rcases r4 with r4 | r4
    · exact .inl (r4.symm.trans hk)
    · rw [r4] at hk
      injection hk with hk
      exact .inr (by rw [← hk]; exact hbA.size)
/-- A slice that lies in no row of the call's. -/
def Off (P v : Value) : Prop := ∀ a n c, v = .slice (some a) n c → P.ownBlock ≠ some a.block
theorem Src.keepBy {w w' : World} {P P' v : Value} {ps : List Pp} (h : Src w v ps) (hn : 1 ≤ ps.length) (hg : RowBy w w' P P') (ho : Off P v) : Src w' v ps ∧ Off P' v := by
  rcases h with ⟨_, rfl⟩ | ⟨b, off, cap, rfl, h1, hc⟩
  · simp at hn
  · have hbb : b < w.heap.size := World.block_lt_of_cell? w _ (hc 0 ps[0] (by simp)).1
    have hk : w'.heap[b]? = w.heap[b]? := hg.keep b hbb (ho ⟨b, off, none⟩ _ _ rfl)
    refine ⟨.inr ⟨b, off, cap, rfl, h1, fun k p hk' => ?_⟩, ?_⟩
    · obtain ⟨c0, c1⟩ := hc k p hk'
      unfold World.cell? at c0 c1 ⊢
      rw [hk]
      exact ⟨c0, c1⟩
    · intro a n c e hown
      injection e with e1 _ _
      injection e1 with e1
      subst e1
      rcases hg.own b hown with e | e
      · exact ho ⟨b, off, none⟩ _ _ rfl e
      · omega
theorem Off.of {w : World} {base : Nat} {P v : Value} {vs : List Value} (h : SvRow w base P vs) (hn : Newer w.heap.size v) : Off P v := fun a n c e hown => by
  have h1 := (h.lt hown).1
  have h2 := hn a n c e
  omega

end Go.Proofs.Ytlnjjkgjknheiaa
