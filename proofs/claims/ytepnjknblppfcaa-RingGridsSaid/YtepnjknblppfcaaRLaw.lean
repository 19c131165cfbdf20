/-
  Layer 13: what the laws ask of ring, and awake with it.
-/
import Derived.Test.YtepnjknblppfcaaRRefC
import Derived.Deep.RegionHeld
namespace Go.Proofs.Ytepnjknblppfcaa
open Go.RowKit Go.Sort

/-- Of a point of the grid what lies where; what is beyond the grid is outside. -/
def insideG (ps : List Pp) (p : Pp) : Int := if clP p = p then insideL ps p else -1
theorem insideG_in {ps : List Pp} {p : Pp} (h : clP p = p) : insideG ps p = insideL ps p := if_pos h
/-- ring answers as exact numbers say. -/
structure RingC : Prop where
  area : ∀ (v : Value) (ps : List Pp) (w : World), Src w v ps → Gl ps → ps.length ≤ 200 → Calls Try.prog 10 #[v] w fun e w' => e = .returned (.int .i64 (areaL ps)) ∧ Below w.heap.size w w'
  inside : ∀ (v : Value) (ps : List Pp) (px py : Int) (w : World), Src w v ps → Gl ps → ps.length ≤ 200 → Calls Try.prog 9 #[v, pv px py] w fun e w' => e = .returned (.int .i64 (insideG ps (px, py))) ∧ Below w.heap.size w w'

  holds : ∀ (u v : Value) (ps ms : List Pp) (w : World), Src w u ps → Src w v ms → Gl ps → Gl ms → ps.length ≤ 200 → ms.length ≤ 200 → Calls Try.prog 16 #[u, v] w fun e w' => e = .returned (.bool (holdsL ps ms)) ∧ Below w.heap.size w w'


  turned : ∀ (v : Value) (ps : List Pp) (w : World), Src w v ps → Gl ps → ps.length ≤ 200 → Calls Try.prog 12 #[v] w fun e w' => (∃ u, e = .returned u ∧ Src w' u (turnedL ps)) ∧ Below w.heap.size w w'


theorem RingC.inG (H : RingC) (v : Value) (ps : List Pp) (px py : Int) (w : World) (hs : Src w v ps) (hg : Gl ps) (hp : clP (px, py) = (px, py)) (hl : ps.length ≤ 200) : Calls Try.prog 9 #[v, pv px py] w fun e w' => e = .returned (.int .i64 (insideL ps (px, py))) ∧ Below w.heap.size w w' := by
  have h := H.inside v ps px py w hs hg hl
  rwa [insideG_in hp] at h

theorem src4 {W : World} {b : Nat} {x0 y0 x1 y1 x2 y2 x3 y3 : Int} (hh : W.heap[b]? = some (.cells #[.int .i64 x0, .int .i64 y0, .int .i64 x1, .int .i64 y1, .int .i64 x2, .int .i64 y2, .int .i64 x3, .int .i64 y3] 24)) : Src W (.slice (some ⟨b, 0, none⟩) 4 4) [(x0, y0), (x1, y1), (x2, y2), (x3, y3)] := by
  refine .inr ⟨b, 0, 4, rfl, Nat.le_refl _, fun k p hk => ?_⟩
  match k, hk with
  | 0, hk => simp at hk; subst hk; simp [World.cell?, hh]
  | 1, hk => simp at hk; subst hk; simp [World.cell?, hh]
  | 2, hk => simp at hk; subst hk; simp [World.cell?, hh]
  | 3, hk => simp at hk; subst hk; simp [World.cell?, hh]
  | k + 4, hk => simp at hk
theorem Src.new4 (w : World) (x0 y0 x1 y1 x2 y2 x3 y3 : Int) : Src (w.alloc (.cells #[.int .i64 x0, .int .i64 y0, .int .i64 x1, .int .i64 y1, .int .i64 x2, .int .i64 y2, .int .i64 x3, .int .i64 y3] 24)) (.slice (some ⟨w.heap.size, 0, none⟩) 4 4) [(x0, y0), (x1, y1), (x2, y2), (x3, y3)] :=
  src4 (by unfold World.alloc; simp)

set_option maxRecDepth 100000 in
set_option maxHeartbeats 3200000 in
theorem ringAwake_any (H : RingC) (w : World) :
    Calls Try.prog 8 #[] w fun e w' => e = .returned (.bool true) ∧ Below w.heap.size w w' := by
  have e1 : areaL [(0, 0), (4, 0), (4, 4), (0, 4)] = 32 := by decide +kernel
  have e2 : insideL [(0, 0), (4, 0), (4, 4), (0, 4)] (1, 1) = 1 := by decide +kernel
  have e3 : insideL [(0, 0), (4, 0), (4, 4), (0, 4)] (4, 1) = 0 := by decide +kernel
  have e4 : insideL [(0, 0), (4, 0), (4, 4), (0, 4)] (5, 1) = -1 := by decide +kernel
  have g1 : Gl [(0, 0), (4, 0), (4, 4), (0, 4)] := by
    intro p hp
    simp only [List.mem_cons, List.not_mem_nil, or_false] at hp
    rcases hp with rfl | rfl | rfl | rfl <;> decide +kernel
  have H1 := hid (fun v W hW => H.area v [(0, 0), (4, 0), (4, 4), (0, 4)] W hW g1 (by decide))
  rw [e1] at H1
  have H2 := hid (fun v W hW => H.inG v [(0, 0), (4, 0), (4, 4), (0, 4)] 1 1 W hW g1 (by decide +kernel) (by decide))
  rw [e2] at H2
  have H3 := hid (fun v W hW => H.inG v [(0, 0), (4, 0), (4, 4), (0, 4)] 4 1 W hW g1 (by decide +kernel) (by decide))
  rw [e3] at H3
  have H4 := hid (fun v W hW => H.inG v [(0, 0), (4, 0), (4, 4), (0, 4)] 5 1 W hW g1 (by decide +kernel) (by decide))
  rw [e4] at H4
  obtain ⟨wA, hwA⟩ : ∃ wA, w.alloc (.cells #[.int .i64 0, .int .i64 0, .int .i64 4, .int .i64 0, .int .i64 4, .int .i64 4, .int .i64 0, .int .i64 4] 24) = wA := ⟨_, rfl⟩
  have HB := hid (show Below w.heap.size w wA by rw [← hwA]; exact (Below.refl _ _).alloc (Nat.le_refl _) _)
  have HS := hid (show Src wA (.slice (some ⟨w.heap.size, 0, none⟩) 4 4) [(0, 0), (4, 0), (4, 4), (0, 4)] by rw [← hwA]; exact Src.new4 w 0 0 4 0 4 4 0 4)
  clear e1 e2 e3 e4 g1
  go_enter Try.func8, Try.ntmps8
  go_wp2_with (first
    | (go_at_call 10; refine (H1.out _ _ HS.out).mono ?_; rintro e w1 ⟨rfl, hb1⟩; replace HS := hid (HS.out.below hb1); replace HB := hid (HB.out.trans (hb1.mono HB.out.size)); clear hb1 H1)
    | (go_at_call 9; refine (H2.out _ _ HS.out).mono ?_; rintro e w2 ⟨rfl, hb2⟩; replace HS := hid (HS.out.below hb2); replace HB := hid (HB.out.trans (hb2.mono HB.out.size)); clear hb2 H2)
    | (go_at_call 9; refine (H3.out _ _ HS.out).mono ?_; rintro e w3 ⟨rfl, hb3⟩; replace HS := hid (HS.out.below hb3); replace HB := hid (HB.out.trans (hb3.mono HB.out.size)); clear hb3 H3)
    | (go_at_call 9; refine (H4.out _ _ HS.out).mono ?_; rintro e w4 ⟨rfl, hb4⟩; replace HB := hid (HB.out.trans (hb4.mono HB.out.size)); clear hb4 H4))
  go_ret
  exact ⟨rfl, HB.out⟩
end Go.Proofs.Ytepnjknblppfcaa
