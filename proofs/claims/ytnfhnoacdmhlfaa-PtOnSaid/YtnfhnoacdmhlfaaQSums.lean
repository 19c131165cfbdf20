/-
  PtSums: the walk.
-/
import Derived.Test.YtnfhnoacdmhlfaaQAwake
namespace Go.Proofs.Ytnfhnoacdmhlfaa
open Go.RowKit Go.Sort

theorem area_sum (ax ay bx by' cx cy qx qy : Int) : area ax ay bx by' cx cy = area qx qy ax ay bx by' + area qx qy bx by' cx cy + area qx qy cx cy ax ay := by
  unfold area
  simp only [Int.mul_sub, Int.mul_comm]
  omega
theorem near_area (ax ay bx by' cx cy : Int) : -8796093022208 ≤ area (near ax) (near ay) (near bx) (near by') (near cx) (near cy) ∧ area (near ax) (near ay) (near bx) (near by') (near cx) (near cy) ≤ 8796093022208 :=
  area_bound (near_lo _) (near_hi _) (near_lo _) (near_hi _) (near_lo _) (near_hi _) (near_lo _) (near_hi _) (near_lo _) (near_hi _) (near_lo _) (near_hi _)

theorem ptSums_walk (w : World) (ax ay : Int) (_ : -9223372036854775808 ≤ ax ∧ ax ≤ 9223372036854775807) (_ : -9223372036854775808 ≤ ay ∧ ay ≤ 9223372036854775807) (bx by' : Int) (_ : -9223372036854775808 ≤ bx ∧ bx ≤ 9223372036854775807) (_ : -9223372036854775808 ≤ by' ∧ by' ≤ 9223372036854775807) (cx cy : Int) (_ : -9223372036854775808 ≤ cx ∧ cx ≤ 9223372036854775807) (_ : -9223372036854775808 ≤ cy ∧ cy ≤ 9223372036854775807) (qx qy : Int) (_ : -9223372036854775808 ≤ qx ∧ qx ≤ 9223372036854775807) (_ : -9223372036854775808 ≤ qy ∧ qy ≤ 9223372036854775807) :
    Calls Try.prog 4 #[pv ax ay, pv bx by', pv cx cy, pv qx qy] w fun e w' => e = .returned (.bool true) ∧ Below w.heap.size w w' := by
  obtain ⟨wA, hwA⟩ : ∃ wA, w.alloc (.cells #[.int .i64 ax, .int .i64 ay] 23) = wA := ⟨_, rfl⟩
  obtain ⟨wB, hwB⟩ : ∃ wB, wA.alloc (.cells #[.int .i64 bx, .int .i64 by'] 23) = wB := ⟨_, rfl⟩
  obtain ⟨wC, hwC⟩ : ∃ wC, wB.alloc (.cells #[.int .i64 cx, .int .i64 cy] 23) = wC := ⟨_, rfl⟩
  obtain ⟨wD, hwD⟩ : ∃ wD, wC.alloc (.cells #[.int .i64 qx, .int .i64 qy] 23) = wD := ⟨_, rfl⟩
  obtain ⟨hA, hB, hC, hD, hBL, hszD, hszA, hszB, hszC⟩ := box4 hwA hwB hwC hwD
  have HBL := hid hBL
  have ka0 := cell_regrown hA.c0
  have ka1 := cell_regrown hA.c1
  have kb0 := cell_regrown hB.c0
  have kb1 := cell_regrown hB.c1
  have kc0 := cell_regrown hC.c0
  have kc1 := cell_regrown hC.c1
  have kd0 := cell_regrown hD.c0
  have kd1 := cell_regrown hD.c1
  have c1 := fun d os => area2_any ax ay bx by' cx cy (grow (redrawn wD d) os)
  have c2 := fun d os => area2_any qx qy ax ay bx by' (grow (redrawn wD d) os)
  have c3 := fun d os => area2_any qx qy bx by' cx cy (grow (redrawn wD d) os)
  have c4 := fun d os => area2_any qx qy cx cy ax ay (grow (redrawn wD d) os)
  have aw := fun d os => awake_any (grow (redrawn wD d) os)
  have hs := area_sum (near ax) (near ay) (near bx) (near by') (near cx) (near cy) (near qx) (near qy)
  have b2 := near_area qx qy ax ay bx by'
  have b3 := near_area qx qy bx by' cx cy
  have b4 := near_area qx qy cx cy ax ay
  generalize area (near ax) (near ay) (near bx) (near by') (near cx) (near cy) = S1 at *
  generalize area (near qx) (near qy) (near ax) (near ay) (near bx) (near by') = S2 at *
  generalize area (near qx) (near qy) (near bx) (near by') (near cx) (near cy) = S3 at *
  generalize area (near qx) (near qy) (near cx) (near cy) (near ax) (near ay) = S4 at *
  have heq : (S1 == S2 + S3 + S4) = true := by simpa using hs
  clear hA hB hC hD hBL hs
  go_enter Try.func4, Try.ntmps4
  go_wp2
  refine wp_region_quiet_below (by kernel_rfl) (by kernel_rfl) ?_
  go_big_quiet_step (fail)
  go_big_quiet_step (fail)
  go_big_quiet_step (fail)
  go_big_quiet_step (exact Calls.regrown_of (c1 _ _))
  go_big_quiet_step (fail)
  go_big_quiet_step (fail)
  go_big_quiet_step (fail)
  go_big_quiet_step (exact Calls.regrown_of (c2 _ _))
  go_big_quiet_step (fail)
  go_big_quiet_step (fail)
  go_big_quiet_step (fail)
  go_big_quiet_step (exact Calls.regrown_of (c3 _ _))
  go_big_quiet_step (fail)
  go_big_quiet_step (fail)
  go_big_quiet_step (fail)
  go_big_quiet_step (fail)
  go_big_quiet_step (exact Calls.regrown_of (c4 _ _))
  go_big_quiet_step (fail)
  go_big_quiet_step (fail)
  go_big_quiet_step (fail)
  go_big_quiet_step (exact Calls.regrown_of (aw _ _))
  go_big_quiet_step (fail)
  go_big_quiet_step (fail)
  refine wpQuiet_nil ?_
  intro W hW'
  obtain ⟨⟨dq, osq⟩, hW⟩ := hW'
  have HB1 := hid (show Below wD.heap.size wD W by rw [hW]; exact below_regrown _ _ _)
  clear hW ka0 ka1 kb0 kb1 kc0 kc1 kd0 kd1 c1 c2 c3 c4 aw
  go_wp2
  go_ret
  exact ⟨rfl, HBL.out.trans (HB1.out.mono HBL.out.size)⟩
end Go.Proofs.Ytnfhnoacdmhlfaa
