/-
  pt.Meet.
-/
import Derived.Test.YtepnjknblppfcaaQArea
namespace Go.Proofs.Ytepnjknblppfcaa
open Go.RowKit Go.Sort

/-- Have two stretches a number in common, both of them not empty? -/
def ovl (al ah bl bh : Int) : Bool := decide (al ≤ ah) && decide (al ≤ bh) && decide (bl ≤ ah) && decide (bl ≤ bh)
theorem ovl_true {al ah bl bh : Int} (h : al ≤ ah ∧ al ≤ bh ∧ bl ≤ ah ∧ bl ≤ bh) : ovl al ah bl bh = true := by simp [ovl, h]
theorem ovl_false {al ah bl bh : Int} (h : ¬ (al ≤ ah ∧ al ≤ bh ∧ bl ≤ ah ∧ bl ≤ bh)) : ovl al ah bl bh = false := by
  cases hx : ovl al ah bl bh with
  | false => rfl
  | true => exact absurd (by simpa [ovl, and_assoc] using hx) h

set_option maxHeartbeats 1600000 in
theorem meet_any (ax ay bx by' cx cy dx dy : Int) (w : World) :
    Calls Try.prog 57 #[pv ax ay, pv bx by', pv cx cy, pv dx dy] w fun e w' => e = .returned (.bool (ovl (near ax) (near bx) (near cx) (near dx) && ovl (near ay) (near by') (near cy) (near dy))) ∧ Below w.heap.size w w' := by
  obtain ⟨wA, hwA⟩ : ∃ wA, w.alloc (.cells #[.int .i64 ax, .int .i64 ay] 24) = wA := ⟨_, rfl⟩
  obtain ⟨wB, hwB⟩ : ∃ wB, wA.alloc (.cells #[.int .i64 bx, .int .i64 by'] 24) = wB := ⟨_, rfl⟩
  obtain ⟨wC, hwC⟩ : ∃ wC, wB.alloc (.cells #[.int .i64 cx, .int .i64 cy] 24) = wC := ⟨_, rfl⟩
  obtain ⟨wD, hwD⟩ : ∃ wD, wC.alloc (.cells #[.int .i64 dx, .int .i64 dy] 24) = wD := ⟨_, rfl⟩
  obtain ⟨hA, hB, hC, hD, hBL, hszD, hszA, hszB, hszC⟩ := box4 hwA hwB hwC hwD
  have HBL := hid hBL
  have ka0 := cell_regrown hA.c0
  have ka1 := cell_regrown hA.c1
  have kb0 := cell_regrown hB.c0
  have kb1 := cell_regrown hB.c1
  have kc0 := cell_regrown hC.c0
  have kc1 := cell_regrown hC.c1
  have kd0 := cell_regrown hD.c0
  have kd1 := cell_regrown hD.c1
  have ca := fun d os => held_any ax ay (grow (redrawn wD d) os)
  have cb := fun d os => held_any bx by' (grow (redrawn wD d) os)
  have cc := fun d os => held_any cx cy (grow (redrawn wD d) os)
  have cd := fun d os => held_any dx dy (grow (redrawn wD d) os)
  generalize near ax = AX at *
  generalize near ay = AY at *
  generalize near bx = BX at *
  generalize near by' = BY at *
  generalize near cx = CX at *
  generalize near cy = CY at *
  generalize near dx = DX at *
  generalize near dy = DY at *
  obtain ⟨R, hR⟩ : ∃ R, (ovl AX BX CX DX && ovl AY BY CY DY) = R := ⟨_, rfl⟩
  rw [hR]
  have HR := hid hR
  clear hR
  have HA := hid hA
  have HB := hid hB
  have HC := hid hC
  have HD := hid hD
  clear hA hB hC hD hBL
  go_enter Try.func57, Try.ntmps57
  go_wp2
  refine wp_region_tail (C := fun w' => ∃ p : Regrown, w' = grow (redrawn wD p.d) p.os) 8 (by kernel_rfl) (by kernel_rfl) ⟨⟨wD.drawn + 1, #[]⟩, by rw [grow_empty]; rfl⟩ ?_
  simp only [List.take, List.drop]
  go_big_quiet_step (fail)
  go_big_quiet_step (exact Calls.regrown_of (ca _ _))
  go_big_quiet_step (fail)
  go_big_quiet_step (exact Calls.regrown_of (cb _ _))
  go_big_quiet_step (fail)
  go_big_quiet_step (exact Calls.regrown_of (cc _ _))
  go_big_quiet_step (fail)
  go_big_quiet_step (exact Calls.regrown_of (cd _ _))
  refine wpQuiet_nil ?_
  intro W hW'
  obtain ⟨⟨dq, osq⟩, hW⟩ := hW'
  have hb : Below wD.heap.size wD W := by rw [hW]; exact below_regrown _ _ _
  clear hW ka0 ka1 kb0 kb1 kc0 kc1 kd0 kd1 ca cb cc cd
  have hA := HA.out.below hb (by omega)
  have hB := HB.out.below hb (by omega)
  have hC := HC.out.below hb (by omega)
  have hD := HD.out.below hb (by omega)
  have a0 := hA.c0; have a1 := hA.c1; have a2 := hA.f0; have a3 := hA.f1
  have p0 := hB.c0; have p1 := hB.c1; have p2 := hB.f0; have p3 := hB.f1
  have q0 := hC.c0; have q1 := hC.c1; have q2 := hC.f0; have q3 := hC.f1
  have r0 := hD.c0; have r1 := hD.c1; have r2 := hD.f0; have r3 := hD.f1
  have HW := hid (HBL.out.trans (hb.mono HBL.out.size))
  clear hb hA hB hC hD
  by_cases hx : AX ≤ BX ∧ AX ≤ DX ∧ CX ≤ BX ∧ CX ≤ DX
  · by_cases hy : AY ≤ BY ∧ AY ≤ DY ∧ CY ≤ BY ∧ CY ≤ DY
    · have HE := hid (show R = true by rw [← HR.out, ovl_true hx, ovl_true hy]; rfl)
      obtain ⟨x1, x2, x3, x4⟩ := hx
      obtain ⟨y1, y2, y3, y4⟩ := hy
      go_wp2
      all_goals (go_ret; refine ⟨by rw [HE.out]; first | rfl | (show Ending.returned (Value.bool (decide _)) = _; rw [decide_eq_false (by omega)]), ?_⟩; exact below_set2 (below_set2 (below_set2 (below_set2 HW.out (Nat.le_refl _)) (Nat.le_add_right _ _)) (Nat.le_add_right _ _)) (Nat.le_add_right _ _))
    · have HE := hid (show R = false by rw [← HR.out, ovl_true hx, ovl_false hy]; rfl)
      obtain ⟨x1, x2, x3, x4⟩ := hx
      go_wp2
      all_goals (go_ret; refine ⟨by rw [HE.out]; first | rfl | (show Ending.returned (Value.bool (decide _)) = _; rw [decide_eq_false (by omega)]), ?_⟩; exact below_set2 (below_set2 (below_set2 (below_set2 HW.out (Nat.le_refl _)) (Nat.le_add_right _ _)) (Nat.le_add_right _ _)) (Nat.le_add_right _ _))
  · have HE := hid (show R = false by rw [← HR.out, ovl_false hx]; rfl)
    go_wp2
    all_goals (go_ret; refine ⟨by rw [HE.out]; first | rfl | (show Ending.returned (Value.bool (decide _)) = _; rw [decide_eq_false (by omega)]), ?_⟩; exact below_set2 (below_set2 (below_set2 (below_set2 HW.out (Nat.le_refl _)) (Nat.le_add_right _ _)) (Nat.le_add_right _ _)) (Nat.le_add_right _ _))
end Go.Proofs.Ytepnjknblppfcaa
