/-
  PtOn: the walk.
-/
import Derived.Test.YtnfhnoacdmhlfaaQRefA
import Derived.Test.YtnfhnoacdmhlfaaQTurns
namespace Go.Proofs.Ytnfhnoacdmhlfaa
open Go.RowKit Go.Sort

theorem onP_swap (ax ay bx by' cx cy : Int) : onP bx by' ax ay cx cy = onP ax ay bx by' cx cy := by
  unfold onP inBox
  rw [area_swap, Int.min_comm bx, Int.max_comm bx, Int.min_comm by', Int.max_comm by']
  congr 1
  rw [Bool.eq_iff_iff, beq_iff_eq, beq_iff_eq]
  omega

theorem ptOn_walk (w : World) (ax ay : Int) (_ : -9223372036854775808 ≤ ax ∧ ax ≤ 9223372036854775807) (_ : -9223372036854775808 ≤ ay ∧ ay ≤ 9223372036854775807) (bx by' : Int) (_ : -9223372036854775808 ≤ bx ∧ bx ≤ 9223372036854775807) (_ : -9223372036854775808 ≤ by' ∧ by' ≤ 9223372036854775807) (cx cy : Int) (_ : -9223372036854775808 ≤ cx ∧ cx ≤ 9223372036854775807) (_ : -9223372036854775808 ≤ cy ∧ cy ≤ 9223372036854775807) :
    Calls Try.prog 8 #[pv ax ay, pv bx by', pv cx cy] w fun e w' => e = .returned (.bool true) ∧ Below w.heap.size w w' := by
  obtain ⟨wA, hwA⟩ : ∃ wA, w.alloc (.cells #[.int .i64 ax, .int .i64 ay] 23) = wA := ⟨_, rfl⟩
  obtain ⟨wB, hwB⟩ : ∃ wB, wA.alloc (.cells #[.int .i64 bx, .int .i64 by'] 23) = wB := ⟨_, rfl⟩
  obtain ⟨wC, hwC⟩ : ∃ wC, wB.alloc (.cells #[.int .i64 cx, .int .i64 cy] 23) = wC := ⟨_, rfl⟩
  obtain ⟨hA, hB, hC, hBL, hszC, hszA, hszB⟩ := box3 hwA hwB hwC
  have HBL := hid hBL
  have ka0 := cell_regrown hA.c0
  have ka1 := cell_regrown hA.c1
  have kb0 := cell_regrown hB.c0
  have kb1 := cell_regrown hB.c1
  have kc0 := cell_regrown hC.c0
  have kc1 := cell_regrown hC.c1
  have k1 := fun d os => ok_any cx cy (grow (redrawn wC d) os)
  have k2 := fun d os => refOk_any cx cy (grow (redrawn wC d) os)
  have l1 := fun d os => less_any ax ay bx by' (grow (redrawn wC d) os)
  have l2 := fun d os => refLess_any ax ay bx by' (grow (redrawn wC d) os)
  have o1 := fun d os => on_any ax ay bx by' cx cy (grow (redrawn wC d) os)
  have o2 := fun d os => refOn_any ax ay bx by' cx cy (grow (redrawn wC d) os)
  have o3 := fun d os => on_any bx by' ax ay cx cy (grow (redrawn wC d) os)
  have w1 := fun d os => within_any ax ay bx by' cx cy (grow (redrawn wC d) os)
  have w2 := fun d os => refWithin_any ax ay bx by' cx cy (grow (redrawn wC d) os)
  have aw := fun d os => awake_any  (grow (redrawn wC d) os)
  rw [onP_swap (near ax) (near ay) (near bx) (near by') (near cx) (near cy)] at o3
  generalize okP cx cy = B1 at *
  generalize lessP (near ax) (near ay) (near bx) (near by') = B2 at *
  generalize onP (near ax) (near ay) (near bx) (near by') (near cx) (near cy) = B3 at *
  generalize withinP (near ax) (near ay) (near bx) (near by') (near cx) (near cy) = B4 at *
  clear hA hB hC hBL
  go_enter Try.func8, Try.ntmps8
  go_wp2
  refine wp_region_quiet_below (by kernel_rfl) (by kernel_rfl) ?_
  go_big_quiet_step (fail)
  go_big_quiet_step (exact Calls.regrown_of (k1 _ _))
  go_big_quiet_step (fail)
  go_big_quiet_step (exact Calls.regrown_of (k2 _ _))
  go_big_quiet_step (fail)
  go_big_quiet_step (fail)
  go_big_quiet_step (fail)
  go_big_quiet_step (fail)
  go_big_quiet_step (exact Calls.regrown_of (l1 _ _))
  go_big_quiet_step (fail)
  go_big_quiet_step (fail)
  go_big_quiet_step (exact Calls.regrown_of (l2 _ _))
  go_big_quiet_step (fail)
  go_big_quiet_step (fail)
  go_big_quiet_step (fail)
  go_big_quiet_step (fail)
  go_big_quiet_step (fail)
  go_big_quiet_step (fail)
  go_big_quiet_step (exact Calls.regrown_of (o1 _ _))
  go_big_quiet_step (fail)
  go_big_quiet_step (fail)
  go_big_quiet_step (fail)
  go_big_quiet_step (exact Calls.regrown_of (o2 _ _))
  go_big_quiet_step (fail)
  go_big_quiet_step (fail)
  go_big_quiet_step (fail)
  go_big_quiet_step (fail)
  go_big_quiet_step (fail)
  go_big_quiet_step (fail)
  go_big_quiet_step (exact Calls.regrown_of (o3 _ _))
  go_big_quiet_step (fail)
  go_big_quiet_step (fail)
  go_big_quiet_step (fail)
  go_big_quiet_step (exact Calls.regrown_of (o1 _ _))
  go_big_quiet_step (fail)
  go_big_quiet_step (fail)
  go_big_quiet_step (fail)
  go_big_quiet_step (fail)
  go_big_quiet_step (fail)
  go_big_quiet_step (fail)
  go_big_quiet_step (exact Calls.regrown_of (w1 _ _))
  go_big_quiet_step (fail)
  go_big_quiet_step (fail)
  go_big_quiet_step (fail)
  go_big_quiet_step (exact Calls.regrown_of (w2 _ _))
  go_big_quiet_step (fail)
  go_big_quiet_step (fail)
  go_big_quiet_step (fail)
  go_big_quiet_step (exact Calls.regrown_of (aw _ _))
  go_big_quiet_step (fail)
  go_big_quiet_step (fail)
  refine wpQuiet_nil ?_
  intro W hW'
  obtain ⟨⟨dq, osq⟩, hW⟩ := hW'
  have HB1 := hid (show Below wC.heap.size wC W by rw [hW]; exact below_regrown _ _ _)
  clear hW
  go_wp2
  go_ret
  exact ⟨rfl, HBL.out.trans (HB1.out.mono HBL.out.size)⟩
end Go.Proofs.Ytnfhnoacdmhlfaa
