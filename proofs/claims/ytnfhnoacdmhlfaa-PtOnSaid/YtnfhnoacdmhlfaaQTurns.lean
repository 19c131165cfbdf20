/-
  PtTurns: the walk.
-/
import Derived.Test.YtnfhnoacdmhlfaaQRefA
import Derived.Test.YtnfhnoacdmhlfaaQSums
namespace Go.Proofs.Ytnfhnoacdmhlfaa
open Go.RowKit Go.Sort

theorem area_round (ax ay bx by' cx cy : Int) : area bx by' cx cy ax ay = area ax ay bx by' cx cy := by
  unfold area
  simp only [Int.mul_sub, Int.mul_comm]
  omega
theorem area_swap (ax ay bx by' cx cy : Int) : area bx by' ax ay cx cy = -area ax ay bx by' cx cy := by
  unfold area
  simp only [Int.mul_sub, Int.mul_comm]
  omega

theorem ptTurns_walk (w : World) (ax ay : Int) (_ : -9223372036854775808 ≤ ax ∧ ax ≤ 9223372036854775807) (_ : -9223372036854775808 ≤ ay ∧ ay ≤ 9223372036854775807) (bx by' : Int) (_ : -9223372036854775808 ≤ bx ∧ bx ≤ 9223372036854775807) (_ : -9223372036854775808 ≤ by' ∧ by' ≤ 9223372036854775807) (cx cy : Int) (_ : -9223372036854775808 ≤ cx ∧ cx ≤ 9223372036854775807) (_ : -9223372036854775808 ≤ cy ∧ cy ≤ 9223372036854775807) :
    Calls Try.prog 7 #[pv ax ay, pv bx by', pv cx cy] w fun e w' => e = .returned (.bool true) ∧ Below w.heap.size w w' := by
  obtain ⟨wA, hwA⟩ : ∃ wA, w.alloc (.cells #[.int .i64 ax, .int .i64 ay] 23) = wA := ⟨_, rfl⟩
  obtain ⟨wB, hwB⟩ : ∃ wB, wA.alloc (.cells #[.int .i64 bx, .int .i64 by'] 23) = wB := ⟨_, rfl⟩
  obtain ⟨wC, hwC⟩ : ∃ wC, wB.alloc (.cells #[.int .i64 cx, .int .i64 cy] 23) = wC := ⟨_, rfl⟩
  obtain ⟨hA, hB, hC, hBL, hszC, hszA, hszB⟩ := box3 hwA hwB hwC
  have HBC := hid hBL
  have HPA := hid hA
  have HPB := hid hB
  have HPC := hid hC
  have a0 := hA.c0; have a1 := hA.c1; have b0 := hB.c0; have b1 := hB.c1; have c0 := hC.c0; have c1 := hC.c1
  have H1 := hid (area2_any ax ay bx by' cx cy wC)
  have H2 := hid (fun W => refArea2_any ax ay bx by' cx cy W)
  have H3 := hid (fun W => turn_any ax ay bx by' cx cy W)
  have H4 := hid (fun W => refTurn_any ax ay bx by' cx cy W)
  have H5 := hid (fun W => area2_any bx by' cx cy ax ay W)
  have H6 := hid (fun W => area2_any bx by' ax ay cx cy W)
  rw [area_round (near ax) (near ay) (near bx) (near by') (near cx) (near cy)] at H5
  rw [area_swap (near ax) (near ay) (near bx) (near by') (near cx) (near cy)] at H6
  have bd := near_area ax ay bx by' cx cy
  generalize sgn (area (near ax) (near ay) (near bx) (near by') (near cx) (near cy)) = G at *
  generalize area (near ax) (near ay) (near bx) (near by') (near cx) (near cy) = S at *
  clear hA hB hC hBL
  go_enter Try.func7, Try.ntmps7
  go_wp2_with (go_at_call 10; refine H1.out.mono ?_; rintro e w1 ⟨rfl, hb1⟩; have hA := HPA.out.below hb1 HPA.out.lt; have hB := HPB.out.below hb1 HPB.out.lt; have hC := HPC.out.below hb1 HPC.out.lt; have HBL := hid (HBC.out.trans (hb1.mono HBC.out.size)); clear hb1)
  have ka0 := cell_regrown hA.c0
  have ka1 := cell_regrown hA.c1
  have kb0 := cell_regrown hB.c0
  have kb1 := cell_regrown hB.c1
  have kc0 := cell_regrown hC.c0
  have kc1 := cell_regrown hC.c1
  have cr := fun d os => H2.out  (grow (redrawn w1 d) os)
  have ct := fun d os => H3.out  (grow (redrawn w1 d) os)
  have cu := fun d os => H4.out  (grow (redrawn w1 d) os)
  have c2 := fun d os => H5.out  (grow (redrawn w1 d) os)
  have c3 := fun d os => H6.out  (grow (redrawn w1 d) os)
  have aw := fun d os => awake_any  (grow (redrawn w1 d) os)
  clear hA hB hC
  refine wp_region_quiet_below (by kernel_rfl) (by kernel_rfl) ?_
  go_big_quiet_step (fail)
  go_big_quiet_step (fail)
  go_big_quiet_step (fail)
  go_big_quiet_step (fail)
  go_big_quiet_step (exact Calls.regrown_of (cr _ _))
  go_big_quiet_step (fail)
  go_big_quiet_step (fail)
  go_big_quiet_step (fail)
  go_big_quiet_step (fail)
  go_big_quiet_step (fail)
  go_big_quiet_step (exact Calls.regrown_of (ct _ _))
  go_big_quiet_step (fail)
  go_big_quiet_step (fail)
  go_big_quiet_step (fail)
  go_big_quiet_step (exact Calls.regrown_of (cu _ _))
  go_big_quiet_step (fail)
  go_big_quiet_step (fail)
  go_big_quiet_step (fail)
  go_big_quiet_step (fail)
  go_big_quiet_step (fail)
  go_big_quiet_step (fail)
  go_big_quiet_step (exact Calls.regrown_of (c2 _ _))
  go_big_quiet_step (fail)
  go_big_quiet_step (fail)
  go_big_quiet_step (fail)
  go_big_quiet_step (fail)
  go_big_quiet_step (fail)
  go_big_quiet_step (fail)
  go_big_quiet_step (fail)
  go_big_quiet_step (exact Calls.regrown_of (c3 _ _))
  go_big_quiet_step (fail)
  go_big_quiet_step (fail)
  go_big_quiet_step (fail)
  go_big_quiet_step (fail)
  go_big_quiet_step (fail)
  go_big_quiet_step (exact Calls.regrown_of (aw _ _))
  go_big_quiet_step (fail)
  go_big_quiet_step (fail)
  refine wpQuiet_nil ?_
  intro W hW'
  obtain ⟨⟨dq, osq⟩, hW⟩ := hW'
  have HB1 := hid (show Below w1.heap.size w1 W by rw [hW]; exact below_regrown _ _ _)
  clear hW
  go_wp2
  go_ret
  exact ⟨rfl, HBL.out.trans (HB1.out.mono HBL.out.size)⟩
end Go.Proofs.Ytnfhnoacdmhlfaa
