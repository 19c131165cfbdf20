/-
  Layer 12: what the laws ask of line, and awake with it.
-/
import Derived.Test.YtlnjjkgjknheiaaLSplit
namespace Go.Proofs.Ytlnjjkgjknheiaa
open Go.RowKit Go.Sort

/-- line answers as exact numbers say. -/
structure LineC : Prop where
  ok : ∀ (v : Value) (ps : List Pp) (w : World), Src w v ps → (∀ p ∈ ps, P64 p) → ps.length ≤ 200 → Calls Try.prog 15 #[v] w fun e w' => e = .returned (.bool (okL ps)) ∧ Below w.heap.size w w'
  closed : ∀ (v : Value) (ps : List Pp) (w : World), Src w v ps → Gl ps → ps.length ≤ 200 → Calls Try.prog 16 #[v] w fun e w' => e = .returned (.bool (closedL ps)) ∧ Below w.heap.size w w'
  split : ∀ (v : Value) (ps : List Pp) (px py : Int) (w : World), Src w v ps → Gl ps → clP (px, py) = (px, py) → ps.length ≤ 200 → Calls Try.prog 14 #[v, pv px py] w fun e w' => (∃ x y, e = .returned (.tuple #[x, y, .bool (splitL ps (px, py)).2]) ∧ Src w' x (splitL ps (px, py)).1.1 ∧ Src w' y (splitL ps (px, py)).1.2 ∧ Newer w.heap.size x ∧ Newer w.heap.size y) ∧ Below w.heap.size w w'
  apart : ∀ (u v : Value) (ps qs : List Pp) (w : World), Src w u ps → Src w v qs → okL ps = true → okL qs = true → Calls Try.prog 5 #[u, v] w fun e w' => e = .returned (.bool (apartL ps qs)) ∧ Below w.heap.size w w'








theorem src2 {W : World} {b : Nat} {x0 y0 x1 y1 : Int} (hh : W.heap[b]? = some (.cells #[.int .i64 x0, .int .i64 y0, .int .i64 x1, .int .i64 y1] 24)) : Src W (.slice (some ⟨b, 0, none⟩) 2 2) [(x0, y0), (x1, y1)] := by
  refine .inr ⟨b, 0, 2, rfl, Nat.le_refl _, fun k p hk => ?_⟩
  match k, hk with
  | 0, hk => simp at hk; subst hk; simp [World.cell?, hh]
  | 1, hk => simp at hk; subst hk; simp [World.cell?, hh]
  | k + 2, hk => simp at hk

theorem src_two {W : World} {v : Value} {x0 y0 x1 y1 : Int} (h : Src W v [(x0, y0), (x1, y1)]) : ∃ b o c, v = .slice (some ⟨b, o, none⟩) 2 c ∧ W.cell? ⟨b, o, none⟩ = some (.int .i64 x0) ∧ W.cell? ⟨b, o + 2, none⟩ = some (.int .i64 x1) := by
  rcases h with ⟨_, h⟩ | ⟨b, o, c, rfl, _, hc⟩
  · cases h
  · exact ⟨b, o, c, rfl, (hc 0 _ rfl).1, (hc 1 _ rfl).1⟩

set_option maxRecDepth 100000 in
set_option maxHeartbeats 3200000 in
theorem lineAwake_any (H : LineC) (w : World) :
    Calls Try.prog 6 #[] w fun e w' => e = .returned (.bool true) ∧ Below w.heap.size w w' := by
  have e1 : splitL [(0, 0), (4, 0)] (1, 0) = (([(0, 0), (1, 0)], [(1, 0), (4, 0)]), true) := by decide +kernel
  have e2 : okL [(0, 0), (1, 0)] = true := by decide +kernel
  have e3 : closedL [(0, 0), (1, 0)] = false := by decide +kernel
  have g1 : Gl [(0, 0), (4, 0)] := by
    intro p hp
    simp only [List.mem_cons, List.not_mem_nil, or_false] at hp
    rcases hp with rfl | rfl <;> decide +kernel
  have g2 : Gl [(0, 0), (1, 0)] := by
    intro p hp
    simp only [List.mem_cons, List.not_mem_nil, or_false] at hp
    rcases hp with rfl | rfl <;> decide +kernel
  have g3 : clP (1, 0) = (1, 0) := by decide +kernel
  have H1 := hid (show ∀ v W, Src W v [(0, 0), (4, 0)] → Calls Try.prog 14 #[v, pv 1 0] W fun e w' => (∃ x y, e = .returned (.tuple #[x, y, .bool true]) ∧ Src w' x [(0, 0), (1, 0)] ∧ Src w' y [(1, 0), (4, 0)]) ∧ Below W.heap.size W w' from fun v W hW => by
    have h := H.split v [(0, 0), (4, 0)] 1 0 W hW g1 g3 (by decide)
    rw [e1] at h
    exact h.mono fun e w' ⟨⟨x, y, he, hx, hy, _, _⟩, hb⟩ => ⟨⟨x, y, he, hx, hy⟩, hb⟩)
  have H2 := hid (fun v W hW => H.ok v [(0, 0), (1, 0)] W hW g2.p64 (by decide))
  rw [e2] at H2
  have H3 := hid (fun v W hW => H.closed v [(0, 0), (1, 0)] W hW g2 (by decide))
  rw [e3] at H3
  obtain ⟨wA, hwA⟩ : ∃ wA, w.alloc (.cells #[.int .i64 0, .int .i64 0, .int .i64 4, .int .i64 0] 24) = wA := ⟨_, rfl⟩
  have HB := hid (show Below w.heap.size w wA by rw [← hwA]; exact (Below.refl _ _).alloc (Nat.le_refl _) _)
  have HS := hid (show Src wA (.slice (some ⟨w.heap.size, 0, none⟩) 2 2) [(0, 0), (4, 0)] from src2 (by rw [← hwA]; unfold World.alloc; simp))
  clear e1 e2 e3 g1 g2 g3
  go_enter Try.func6, Try.ntmps6
  go_wp2_with (first
    | (go_at_call 14; refine (H1.out _ _ HS.out).mono ?_; rintro e w1 ⟨⟨x, y, rfl, hx, hy⟩, hb1⟩; replace HB := hid (HB.out.trans (hb1.mono HB.out.size)); obtain ⟨bx, ox, cx, rfl, p0, p1⟩ := src_two hx; obtain ⟨by', oy, cy, rfl, q0, q1⟩ := src_two hy; have HX := hid hx; clear hb1 hx hy)
    | (go_at_call 15; refine (H2.out _ _ HX.out).mono ?_; rintro e w2 ⟨rfl, hb2⟩; replace HX := hid (HX.out.below hb2); replace HB := hid (HB.out.trans (hb2.mono HB.out.size)); clear hb2)
    | (go_at_call 16; refine (H3.out _ _ HX.out).mono ?_; rintro e w3 ⟨rfl, hb3⟩; replace HB := hid (HB.out.trans (hb3.mono HB.out.size)); clear hb3))
  go_ret
  exact ⟨rfl, HB.out⟩
end Go.Proofs.Ytlnjjkgjknheiaa
