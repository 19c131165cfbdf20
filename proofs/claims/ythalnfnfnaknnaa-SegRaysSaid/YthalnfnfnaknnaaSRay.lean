/-
  The document's Ray.
-/
import Derived.Test.YthalnfnfnaknnaaSPlain
import Derived.Test.YthalnfnfnaknnaaQRefA
namespace Go.Proofs.Ythalnfnfnaknnaa
open Go.RowKit Go.Sort

/-- Does the segment lie across p's height, at the right of p? -/
def rayP (a b p : Pp) : Bool := if decide (p.2 < a.2) == decide (p.2 < b.2) then false else if b.2 < a.2 then decide (0 < tr2 b a p) else decide (0 < tr2 a b p)
theorem rayP_ab (a b p : Pp) : rayP b a p = rayP a b p := by
  by_cases h1 : p.2 < a.2 <;> by_cases h2 : p.2 < b.2
  · simp [rayP, h1, h2]
  · simp [rayP, h1, h2, show b.2 < a.2 by omega, show ¬ a.2 < b.2 by omega]
  · simp [rayP, h1, h2, show a.2 < b.2 by omega, show ¬ b.2 < a.2 by omega]
  · simp [rayP, h1, h2]

set_option maxHeartbeats 1600000 in
theorem refRay_any (ax ay bx by' px py : Int) (w : World) :
    Calls Try.prog 15 #[pv ax ay, pv bx by', pv px py] w fun e w' => e = .returned (.bool (rayP (near ax, near ay) (near bx, near by') (near px, near py))) ∧ Below w.heap.size w w' := by
  obtain ⟨wA, hwA⟩ : ∃ wA, w.alloc (.cells #[.int .i64 ax, .int .i64 ay] 23) = wA := ⟨_, rfl⟩
  obtain ⟨wB, hwB⟩ : ∃ wB, wA.alloc (.cells #[.int .i64 bx, .int .i64 by'] 23) = wB := ⟨_, rfl⟩
  obtain ⟨wC, hwC⟩ : ∃ wC, wB.alloc (.cells #[.int .i64 px, .int .i64 py] 23) = wC := ⟨_, rfl⟩
  obtain ⟨hA, hB, hC, hBL, hszC, hszA, hszB⟩ := box3 hwA hwB hwC
  have HBL := hid hBL
  have ka0 := cell_regrown hA.c0
  have ka1 := cell_regrown hA.c1
  have kb0 := cell_regrown hB.c0
  have kb1 := cell_regrown hB.c1
  have kc0 := cell_regrown hC.c0
  have kc1 := cell_regrown hC.c1
  have ca := fun d os => refClean_any ax ay (grow (redrawn wC d) os)
  have cb := fun d os => refClean_any bx by' (grow (redrawn wC d) os)
  have cc := fun d os => refClean_any px py (grow (redrawn wC d) os)
  have HT1 := hid (fun W => refTurn_any (near bx) (near by') (near ax) (near ay) (near px) (near py) W)
  have HT2 := hid (fun W => refTurn_any (near ax) (near ay) (near bx) (near by') (near px) (near py) W)
  simp only [near_near] at HT1 HT2
  obtain ⟨T1, hT1⟩ : ∃ T, tr2 (near bx, near by') (near ax, near ay) (near px, near py) = T := ⟨_, rfl⟩
  obtain ⟨T2, hT2⟩ : ∃ T, tr2 (near ax, near ay) (near bx, near by') (near px, near py) = T := ⟨_, rfl⟩
  have hr : rayP (near ax, near ay) (near bx, near by') (near px, near py) = if decide (near py < near ay) == decide (near py < near by') then false else if near by' < near ay then decide (0 < T1) else decide (0 < T2) := by
    unfold rayP
    rw [hT1, hT2]
  unfold tr2 at hT1 hT2
  dsimp only at hT1 hT2
  rw [hT1] at HT1
  rw [hT2] at HT2
  clear hT1 hT2
  generalize rayP (near ax, near ay) (near bx, near by') (near px, near py) = Rr at *
  generalize near ax = AX at *
  generalize near ay = AY at *
  generalize near bx = BX at *
  generalize near by' = BY at *
  generalize near px = PX at *
  generalize near py = PY at *
  have HR := hid hr
  have HA := hid hA
  have HB := hid hB
  have HC := hid hC
  clear hA hB hC hBL hr
  go_enter Try.func15, Try.ntmps15
  go_wp2
  refine wp_region_tail (C := fun w' => ∃ p : Regrown, w' = grow (redrawn wC p.d) p.os) 6 (by kernel_rfl) (by kernel_rfl) ⟨⟨wC.drawn + 1, #[]⟩, by rw [grow_empty]; rfl⟩ ?_
  simp only [List.take, List.drop]
  go_big_quiet_step (fail)
  go_big_quiet_step (exact Calls.regrown_of (ca _ _))
  go_big_quiet_step (fail)
  go_big_quiet_step (exact Calls.regrown_of (cb _ _))
  go_big_quiet_step (fail)
  go_big_quiet_step (exact Calls.regrown_of (cc _ _))
  refine wpQuiet_nil ?_
  intro W hW'
  obtain ⟨⟨dq, osq⟩, hW⟩ := hW'
  have hb : Below wC.heap.size wC W := by rw [hW]; exact below_regrown _ _ _
  clear hW ka0 ka1 kb0 kb1 kc0 kc1 ca cb cc
  have hA := HA.out.below hb (by omega)
  have hB := HB.out.below hb (by omega)
  have hC := HC.out.below hb (by omega)
  have a0 := hA.c0; have a1 := hA.c1; have a2 := hA.f0; have a3 := hA.f1
  obtain ⟨V1, hV1⟩ : ∃ V, (W.setCell ⟨w.heap.size, 0, none⟩ (.int .i64 AX)).setCell ⟨w.heap.size, 1, none⟩ (.int .i64 AY) = V := ⟨_, rfl⟩
  replace hB : Pt V1 (w.heap.size + 1) bx by' := by rw [← hV1]; exact hB.far (by omega) _ _
  replace hC : Pt V1 (w.heap.size + 2) px py := by rw [← hV1]; exact hC.far (by omega) _ _
  replace hA : Pt V1 w.heap.size AX AY := by rw [← hV1]; exact hA.set _ _
  have p0 := hB.c0; have p1 := hB.c1; have p2 := hB.f0; have p3 := hB.f1
  obtain ⟨V2, hV2⟩ : ∃ V, (V1.setCell ⟨w.heap.size + 1, 0, none⟩ (.int .i64 BX)).setCell ⟨w.heap.size + 1, 1, none⟩ (.int .i64 BY) = V := ⟨_, rfl⟩
  replace hA : Pt V2 (w.heap.size) AX AY := by rw [← hV2]; exact hA.far (by omega) _ _
  replace hC : Pt V2 (w.heap.size + 2) px py := by rw [← hV2]; exact hC.far (by omega) _ _
  replace hB : Pt V2 (w.heap.size + 1) BX BY := by rw [← hV2]; exact hB.set _ _
  have q0 := hC.c0; have q1 := hC.c1; have q2 := hC.f0; have q3 := hC.f1
  obtain ⟨V3, hV3⟩ : ∃ V, (V2.setCell ⟨w.heap.size + 2, 0, none⟩ (.int .i64 PX)).setCell ⟨w.heap.size + 2, 1, none⟩ (.int .i64 PY) = V := ⟨_, rfl⟩
  replace hA : Pt V3 (w.heap.size) AX AY := by rw [← hV3]; exact hA.far (by omega) _ _
  replace hB : Pt V3 (w.heap.size + 1) BX BY := by rw [← hV3]; exact hB.far (by omega) _ _
  replace hC : Pt V3 (w.heap.size + 2) PX PY := by rw [← hV3]; exact hC.set _ _
  have r0 := hA.c0; have r1 := hA.c1; have s0 := hB.c0; have s1 := hB.c1; have t0 := hC.c0; have t1 := hC.c1
  have HW := hid (show Below w.heap.size w V3 by rw [← hV3, ← hV2, ← hV1]; exact below_set2 (below_set2 (below_set2 (HBL.out.trans (hb.mono HBL.out.size)) (Nat.le_refl _)) (Nat.le_add_right _ _)) (Nat.le_add_right _ _))
  clear hb hA hB hC
  by_cases ha : PY < AY
  · by_cases hb : PY < BY
    · have HV : Hid (Rr = false) := by
        refine hid ?_
        rw [HR.out]
        first
          | (rw [decide_eq_true ha, decide_eq_true hb]; rfl)
          | (rw [decide_eq_false ha, decide_eq_false hb]; rfl)
      go_wp2
      go_ret
      exact ⟨by rw [HV.out]; rfl, HW.out⟩
    · have hab : BY < AY := by omega
      by_cases ht : 0 < T1
      · have HV : Hid (Rr = decide (0 < T1)) := by
          refine hid ?_
          rw [HR.out]
          first
            | rw [decide_eq_true ha, decide_eq_false hb, if_neg (by decide), if_pos hab]
            | rw [decide_eq_false ha, decide_eq_true hb, if_neg (by decide), if_neg hab]
        go_wp2_with (go_at_call 21; refine (HT1.out _).mono ?_; rintro e w1 ⟨rfl, hb1⟩; have HW1 := hid (HW.out.trans (hb1.mono HW.out.size)); clear hb1)
        go_ret
        refine ⟨?_, HW1.out⟩
        rw [HV.out]
        first
          | rfl
          | (rw [decide_eq_true ht]; rfl)
          | (rw [decide_eq_false ht]; rfl)
      · have HV : Hid (Rr = decide (0 < T1)) := by
          refine hid ?_
          rw [HR.out]
          first
            | rw [decide_eq_true ha, decide_eq_false hb, if_neg (by decide), if_pos hab]
            | rw [decide_eq_false ha, decide_eq_true hb, if_neg (by decide), if_neg hab]
        go_wp2_with (go_at_call 21; refine (HT1.out _).mono ?_; rintro e w1 ⟨rfl, hb1⟩; have HW1 := hid (HW.out.trans (hb1.mono HW.out.size)); clear hb1)
        go_ret
        refine ⟨?_, HW1.out⟩
        rw [HV.out]
        first
          | rfl
          | (rw [decide_eq_true ht]; rfl)
          | (rw [decide_eq_false ht]; rfl)
  · by_cases hb : PY < BY
    · have hab : ¬ BY < AY := by omega
      by_cases ht : 0 < T2
      · have HV : Hid (Rr = decide (0 < T2)) := by
          refine hid ?_
          rw [HR.out]
          first
            | rw [decide_eq_true ha, decide_eq_false hb, if_neg (by decide), if_pos hab]
            | rw [decide_eq_false ha, decide_eq_true hb, if_neg (by decide), if_neg hab]
        go_wp2_with (go_at_call 21; refine (HT2.out _).mono ?_; rintro e w1 ⟨rfl, hb1⟩; have HW1 := hid (HW.out.trans (hb1.mono HW.out.size)); clear hb1)
        go_ret
        refine ⟨?_, HW1.out⟩
        rw [HV.out]
        first
          | rfl
          | (rw [decide_eq_true ht]; rfl)
          | (rw [decide_eq_false ht]; rfl)
      · have HV : Hid (Rr = decide (0 < T2)) := by
          refine hid ?_
          rw [HR.out]
          first
            | rw [decide_eq_true ha, decide_eq_false hb, if_neg (by decide), if_pos hab]
            | rw [decide_eq_false ha, decide_eq_true hb, if_neg (by decide), if_neg hab]
        go_wp2_with (go_at_call 21; refine (HT2.out _).mono ?_; rintro e w1 ⟨rfl, hb1⟩; have HW1 := hid (HW.out.trans (hb1.mono HW.out.size)); clear hb1)
        go_ret
        refine ⟨?_, HW1.out⟩
        rw [HV.out]
        first
          | rfl
          | (rw [decide_eq_true ht]; rfl)
          | (rw [decide_eq_false ht]; rfl)
    · have HV : Hid (Rr = false) := by
        refine hid ?_
        rw [HR.out]
        first
          | (rw [decide_eq_true ha, decide_eq_true hb]; rfl)
          | (rw [decide_eq_false ha, decide_eq_false hb]; rfl)
      go_wp2
      go_ret
      exact ⟨by rw [HV.out]; rfl, HW.out⟩
end Go.Proofs.Ythalnfnfnaknnaa
