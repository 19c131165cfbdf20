/-
  Layer 15: the laws' awake, the walk.
-/
import Derived.Test.YtdjbjadaldndcaaGreatMW
namespace Go.Proofs.YtdjbjadaldndcaaGreat
open Go.RowKit Go.Shelf Go.Sort Go.Maps

theorem aw_all : ((allLd awX awL).map (·.1)).Nodup ∧ (∀ r ∈ ringsC awX awL, (ringPtsF awX awL r).length ≤ 4096) ∧ ((bordersC awX awL).filter BP.out).length = 1 ∧ (∃ b, (rgsF id (outersC awX awL) (bordersC awX awL)).1 1 = some b ∧ b.ways = [1]) ∧ takenF awN 1 awL (1, 1) = false ∧ leastP (fun _ => true) (1, 1) (outersC awX awL) = 1 ∧ ([(1 : Int)].filter fun k => partsF 1 awX k == some k).length = 1 ∧ ofL (-1) (outersC awX awL) (bordersC awX awL) = 0 ∧ (∀ b ∈ bordersC awX awL, b.ways.length ≤ 100000) ∧ (bordersC awX awL).length ≤ 1000 := by
  have h := chk_aw
  unfold chkAw at h
  simp only [Bool.and_eq_true, decide_eq_true_eq, List.all_eq_true, beq_iff_eq, Bool.not_eq_true'] at h
  obtain ⟨⟨⟨⟨⟨⟨⟨⟨⟨h1, h2⟩, h3⟩, h4⟩, h5⟩, h6⟩, h7⟩, h8⟩, h9⟩, h10⟩ := h
  refine ⟨h1, h2, h3, ?_, h5, h6, h7, h8, h9, h10⟩
  cases hb : (rgsF id (outersC awX awL) (bordersC awX awL)).1 1 with
  | none => rw [hb] at h4; cases h4
  | some b => rw [hb] at h4; exact ⟨b, rfl, by simpa using h4⟩
/-- A plan of boxes is as face's calls want it, whatever its lines' places are. -/
structure Same0 (xs : List ER) (ls : List (List Pp)) (cx : List ER) : Prop where
  bare : xs.map bare = cx
  nodup : ((allLd cx ls).map (·.1)).Nodup
theorem Same0.rings {xs cx : List ER} {ls : List (List Pp)} (h : Same0 xs ls cx) : ringsL xs ls = ringsC cx ls := by rw [← ringsL_bare, h.bare, ringsC_eq h.nodup]
theorem Same0.borders {xs cx : List ER} {ls : List (List Pp)} (h : Same0 xs ls cx) : bordersL xs ls = bordersC cx ls := by rw [← bordersL_bare, h.bare, bordersC_eq h.nodup]
theorem Same0.outers {xs cx : List ER} {ls : List (List Pp)} (h : Same0 xs ls cx) : outersL xs ls = outersC cx ls := by rw [← outersL_bare, h.bare, outersC_eq h.nodup]
theorem Same0.pts {xs cx : List ER} {ls : List (List Pp)} (h : Same0 xs ls cx) (r : List Int) : ringPtsF xs ls r = ringPtsF cx ls r := by rw [← ringPtsF_bare, h.bare]
theorem Same0.parts {xs cx : List ER} {ls : List (List Pp)} (h : Same0 xs ls cx) (m : Nat) : partsF m xs = partsF m cx := by rw [← partsF_bare, h.bare]

/-- The points of awake's triangle. -/
def awP : List Pp := [(0, 0), (4, 0), (0, 4), (0, 0)]
def awE (g : Nat) : ER := ⟨1, 1, 1, some ⟨g, 0, none⟩, 4, 4, 1, 0⟩
theorem aw_ple {W : World} {b g : Nat} (hb : W.heap[b]? = some (.cells #[.int .i64 1, .int .i64 1, .int .i64 1, .slice (some ⟨g, 0, none⟩) 4 4, .int .i64 1, .int .i64 0] 32 (0, 0))) (hg : W.heap[g]? = some (.cells (ptCells awP).toArray 27 (0, 0))) : PlE W b 0 1 (some ⟨b, 0, none⟩) [awE g] awL := by
  refine ⟨rfl, by decide, deg_few (by simp), fun k x hx => ?_, fun i j x y hij hx hy => ?_, fun _ => rfl, fun h => absurd h (by decide), fun x hx => ?_, fun x hx => ?_, fun k => ?_, fun k x hx => ?_⟩
  · match k, hx with
    | 0, hx =>
      simp at hx
      subst hx
      refine ⟨?_, ?_, ?_, ?_, ?_, ?_⟩ <;> simp [World.cell?, hb, awE]
    | k + 1, hx => simp at hx
  · have h1 := (List.getElem?_eq_some_iff.1 hx).1
    have h2 := (List.getElem?_eq_some_iff.1 hy).1
    simp at h1 h2
    omega
  · rw [List.mem_singleton] at hx
    subst hx
    exact ⟨by simp [awE], by simp [awE]⟩
  · rw [List.mem_singleton] at hx
    subst hx
    exact ⟨by simp [awE], by simp [awE], by simp [awE], by simp [awE]⟩
  · cases k with
    | zero => decide
    | succ k => simp [awL]
  · match k, hx with
    | 0, hx =>
      simp at hx
      subst hx
      exact ⟨src_new (ps := awP) hg, fun a ha => by
        injection ha with ha
        subst ha
        exact ⟨_, _, hg⟩⟩
    | k + 1, hx => simp at hx
theorem aw_nde {W : World} {b : Nat} (hb : W.heap[b]? = some (.cells #[.int .i64 1, .int .i64 0, .int .i64 0, .int .i64 (-1)] 29 (0, 0))) : NdE W b 0 1 (some ⟨b, 0, none⟩) awN := by
  refine ⟨rfl, by decide, fun k x hx => ?_, fun _ => rfl⟩
  match k, hx with
  | 0, hx =>
    simp [awN] at hx
    subst hx
    exact nr_cells (n := ⟨1, 0, 0, -1⟩) hb
  | k + 1, hx => simp [awN] at hx
theorem awN_rise : RiseN awN := fun i j x y hij hx hy => by
  have h1 := (List.getElem?_eq_some_iff.1 hx).1
  have h2 := (List.getElem?_eq_some_iff.1 hy).1
  simp [awN] at h1 h2
  omega

set_option maxRecDepth 100000 in
set_option maxHeartbeats 6400000 in
theorem faceAwake_any (w : World) :
    Calls Tryz.prog 11 #[] w fun e w' => e = .returned (.bool true) ∧ Below w.heap.size w w' := by
  obtain ⟨wN, hwN⟩ : ∃ wN, w.alloc (.cells #[.int .i64 1, .int .i64 0, .int .i64 0, .int .i64 (-1)] 29) = wN := ⟨_, rfl⟩
  have hbN : Below w.heap.size w wN := by rw [← hwN]; exact (Below.refl _ w).alloc (Nat.le_refl _) _
  have hhN : wN.heap[w.heap.size]? = some (.cells #[.int .i64 1, .int .i64 0, .int .i64 0, .int .i64 (-1)] 29 (0, 0)) := by rw [← hwN]; exact World.alloc_heap_new w _
  obtain ⟨wL, hwL⟩ : ∃ wL, wN.alloc (.cells #[.int .i64 0, .int .i64 0, .int .i64 4, .int .i64 0, .int .i64 0, .int .i64 4, .int .i64 0, .int .i64 0] 27) = wL := ⟨_, rfl⟩
  have hbL : Below wN.heap.size wN wL := by rw [← hwL]; exact (Below.refl _ wN).alloc (Nat.le_refl _) _
  have hhL : wL.heap[wN.heap.size]? = some (.cells (ptCells awP).toArray 27 (0, 0)) := by rw [← hwL]; exact World.alloc_heap_new wN _
  obtain ⟨wE, hwE⟩ : ∃ wE, wL.alloc (.cells #[.int .i64 1, .int .i64 1, .int .i64 1, .slice (some ⟨wN.heap.size, 0, none⟩) 4 4, .int .i64 1, .int .i64 0] 32) = wE := ⟨_, rfl⟩
  have hbE : Below wL.heap.size wL wE := by rw [← hwE]; exact (Below.refl _ wL).alloc (Nat.le_refl _) _
  have hhE : wE.heap[wL.heap.size]? = some (.cells #[.int .i64 1, .int .i64 1, .int .i64 1, .slice (some ⟨wN.heap.size, 0, none⟩) 4 4, .int .i64 1, .int .i64 0] 32 (0, 0)) := by rw [← hwE]; exact World.alloc_heap_new wL _
  obtain ⟨wQ, hwQ⟩ : ∃ wQ, wE.alloc (.cells #[.slice (some ⟨w.heap.size, 0, none⟩) 1 1, .slice (some ⟨wL.heap.size, 0, none⟩) 1 1] 25) = wQ := ⟨_, rfl⟩
  have hbQ : Below wE.heap.size wE wQ := by rw [← hwQ]; exact (Below.refl _ wE).alloc (Nat.le_refl _) _
  have hhQ : wQ.heap[wE.heap.size]? = some (.cells #[.slice (some ⟨w.heap.size, 0, none⟩) 1 1, .slice (some ⟨wL.heap.size, 0, none⟩) 1 1] 25 (0, 0)) := by rw [← hwQ]; exact World.alloc_heap_new wE _
  have hbEQ : Below wL.heap.size wL wQ := hbE.trans (hbQ.mono hbE.size)
  have hbLQ : Below wN.heap.size wN wQ := hbL.trans (hbEQ.mono hbL.size)
  have hb : Below w.heap.size w wQ := hbN.trans (hbLQ.mono hbN.size)
  have hN := aw_nde ((hbLQ.block _ (lt_of_heap hhN)).trans hhN)
  have hE := aw_ple ((hbQ.block _ (lt_of_heap hhE)).trans hhE) ((hbEQ.block _ (lt_of_heap hhL)).trans hhL)
  obtain ⟨k1, k2, k3, ⟨bp, k4, k4'⟩, k5, k6, k7, k8, k9, k10⟩ := aw_all
  have hS : Same0 [awE wN.heap.size] awL awX := ⟨rfl, k1⟩
  have hP : ∀ r ∈ ringsL [awE wN.heap.size] awL, (ringPtsF [awE wN.heap.size] awL r).length ≤ 4096 := fun r hr => by rw [hS.rings] at hr; rw [hS.pts]; exact k2 r hr
  have HRG := hid (regions_any (cap := 1) (nc := 1) hE hN (fun h => absurd h (by decide)) (fun x hx => by rw [awN, List.mem_singleton] at hx; subst hx; exact ⟨by decide, by decide⟩) awN_rise hP (M := 1) (by rw [hS.borders]; exact k3) (by decide))
  have HAT := hid (fun W (hW : Below wQ.heap.size wQ W) => faceAt_any (cap := 1) (nc := 1) (hE.below hW) (hN.below hW) hP (by rw [hS.borders, k3]; decide) 1 1)
  have HPA := hid (fun W (hW : Below wQ.heap.size wQ W) => parts_any (cap := 1) (hE.below hW) (some ⟨w.heap.size, 0, none⟩) 1 1 (Ks := [1]) (by decide) (fun x hx => by rw [List.mem_singleton] at hx; subst hx; exact ⟨List.mem_singleton.2 rfl, List.mem_singleton.2 rfl⟩) (by decide) (fun k hk => by rw [List.mem_singleton] at hk; subst hk; exact ⟨by decide, by decide⟩))
  have HOF := hid (fun W (hW : Below wQ.heap.size wQ W) => faceOf_any (cap := 1) (hE.below hW) (some ⟨w.heap.size, 0, none⟩) 1 1 hP (by rw [hS.borders, k3]; decide) (by rw [hS.borders]; exact k9) (by rw [hS.borders]; exact k10) (-1))
  rw [hS.outers] at HAT
  rw [k5, k6] at HAT
  rw [hS.parts, k7] at HPA
  rw [hS.outers, hS.borders, k8] at HOF
  rw [hS.outers, hS.borders] at HRG
  have HK := hid (And.intro k4 k4')
  have HB := hid hb
  have c0 : wQ.cell? ⟨wE.heap.size, 0, none⟩ = some (.slice (some ⟨w.heap.size, 0, none⟩) 1 1) := by simp [World.cell?, hhQ]
  have c1 : wQ.cell? ⟨wE.heap.size, 1, none⟩ = some (.slice (some ⟨wL.heap.size, 0, none⟩) 1 1) := by simp [World.cell?, hhQ]
  clear hbN hhN hbL hhL hbE hhE hbQ hhQ hbEQ hbLQ hb hN hE k1 k2 k3 k4 k4' k5 k6 k7 k8 k9 k10 hS hP
  go_enter Tryz.func11, Tryz.ntmps11
  go_wp2_with (first
    | (go_at_call 7; go_loud (refine HRG.out.mono ?_; rintro e w1 ⟨⟨v, rfl, G, wS, zs, IV, NV, rfl, hzs, hI, hbd⟩, hb1⟩; obtain ⟨g, cp, r0, r1⟩ := rg_outer hzs hI hbd (k := 1) (by decide) HK.out.1 HK.out.2; simp only [Nat.one_mul] at r0; have d0 := cell_below c0 hb1 (lt_of_cell c0); have d1 := cell_below c1 hb1 (lt_of_cell c1); have H1 := hid hb1; clear HRG hzs hI hbd hb1 c0 c1))
    | (go_at_call 9; refine (HAT.out _ H1.out).mono ?_; rintro e w2 ⟨rfl, hb2⟩; have q0 := cell_below r0 hb2 (lt_of_cell r0); have q1 := cell_below r1 hb2 (lt_of_cell r1); have e0 := cell_below d0 hb2 (lt_of_cell d0); have e1 := cell_below d1 hb2 (lt_of_cell d1); have H2 := hid (H1.out.trans (hb2.mono H1.out.size)); clear HAT hb2 r0 r1 d0 d1)
    | (go_at_call 8; refine (HPA.out _ H2.out).mono ?_; rintro e w3 ⟨rfl, hb3⟩; have f0 := cell_below e0 hb3 (lt_of_cell e0); have f1 := cell_below e1 hb3 (lt_of_cell e1); have H3 := hid (H2.out.trans (hb3.mono H2.out.size)); clear HPA hb3 q0 q1 e0 e1)
    | (go_at_call 28; refine (HOF.out _ H3.out).mono ?_; rintro e w4 ⟨rfl, hb4⟩; have H4 := hid (H3.out.trans (hb4.mono H3.out.size)); clear HOF hb4))
  go_ret
  exact ⟨rfl, HB.out.trans (H4.out.mono HB.out.size)⟩
end Go.Proofs.YtdjbjadaldndcaaGreat
