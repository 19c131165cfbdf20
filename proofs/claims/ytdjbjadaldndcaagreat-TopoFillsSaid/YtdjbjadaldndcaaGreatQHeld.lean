/-
  pt.held, pt.heldNumber and the document's near, Clean: the nearest number, the nearest point of the grid.
-/
import Derived.Test.YtdjbjadaldndcaaGreatQBase
namespace Go.Proofs.YtdjbjadaldndcaaGreat
open Go.RowKit Go.Sort

theorem heldNumber_any (x : Int) (w : World) :
    Calls Tryz.prog 104 #[.int .i64 x] w fun e w' => e = .returned (.int .i64 (near x)) ∧ w' = w := by
  rcases (show x < -1048576 ∨ 1048576 < x ∨ (-1048576 ≤ x ∧ x ≤ 1048576) by omega) with h | h | h
  · have hn : near x = -1048576 := by unfold near; rw [if_pos h]
    rw [hn]
    go_enter Tryz.func104, Tryz.ntmps104
    go_wp2
    go_ret
    exact ⟨rfl, rfl⟩
  · have hn : near x = 1048576 := by unfold near; rw [if_neg (by omega), if_pos h]
    rw [hn]
    go_enter Tryz.func104, Tryz.ntmps104
    go_wp2
    go_ret
    exact ⟨rfl, rfl⟩
  · rw [near_in h.1 h.2]
    go_enter Tryz.func104, Tryz.ntmps104
    go_wp2
    go_ret
    exact ⟨rfl, rfl⟩

set_option maxRecDepth 100000 in
theorem held_any (x y : Int) (w : World) :
    Calls Tryz.prog 72 #[pv x y] w fun e w' => e = .returned (pv (near x) (near y)) ∧ Below w.heap.size w w' := by
  obtain ⟨wA, hwA⟩ : ∃ wA, w.alloc (.cells #[.int .i64 x, .int .i64 y] 27) = wA := ⟨_, rfl⟩
  obtain ⟨wB, hwB⟩ : ∃ wB, wA.alloc (.cells #[.int .i64 0, .int .i64 0] 27) = wB := ⟨_, rfl⟩
  have hszA : wA.heap.size = w.heap.size + 1 := by rw [← hwA]; simp
  have hszB : wB.heap.size = w.heap.size + 2 := by rw [← hwB]; simp [hszA]
  have hA : Pt wB w.heap.size x y := by rw [← hwB, ← hwA]; exact (Pt.new w x y).alloc _
  have hB : Pt wB (w.heap.size + 1) 0 0 := by rw [← hwB, ← hszA]; exact Pt.new wA 0 0
  have HBL := hid (show Below w.heap.size w wB by rw [← hwB, ← hwA]; exact ((Below.refl _ w).alloc (Nat.le_refl _) _).alloc (by simp) _)
  have k0 := cell_regrown hA.c0
  have k1 := cell_regrown hA.c1
  have cx := fun d os => heldNumber_any x (grow (redrawn wB d) os)
  have cy := fun d os => heldNumber_any y (grow (redrawn wB d) os)
  have HB := hid hB
  clear hA hB
  go_enter Tryz.func72, Tryz.ntmps72
  go_wp2
  refine wp_region_tail (C := fun w' => ∃ p : Regrown, w' = grow (redrawn wB p.d) p.os) 7 (by kernel_rfl) (by kernel_rfl) ⟨⟨wB.drawn + 1, #[]⟩, by rw [grow_empty]; rfl⟩ ?_
  simp only [List.take, List.drop]
  repeat (go_big_quiet_step (first | exact (cx _ _).mono fun e w' ⟨h1, h2⟩ => ⟨h1, ⟨_, h2⟩⟩ | exact (cy _ _).mono fun e w' ⟨h1, h2⟩ => ⟨h1, ⟨_, h2⟩⟩))
  refine wpQuiet_nil ?_
  intro W hW'
  obtain ⟨⟨dq, osq⟩, hW⟩ := hW'
  have hb : Below wB.heap.size wB W := by rw [hW]; exact below_regrown _ _ _
  clear hW k0 k1 cx cy
  have hP : Pt W (w.heap.size + 1) 0 0 := HB.out.below hb (by omega)
  have d0 := hP.c0
  have d1 := hP.c1
  have e0 := hP.f0
  have e1 := hP.f1
  have HW := hid (HBL.out.trans (hb.mono HBL.out.size))
  clear hb hP
  go_wp2
  refine bodyPost_ret (v := pv (near x) (near y)) (by simp [results, Tryz.results72, go_sem, d0, d1]) rfl ⟨rfl, ?_⟩
  exact (HW.out.setCell (p := ⟨w.heap.size + 1, 0, none⟩) (by show w.heap.size ≤ w.heap.size + 1; omega) _).setCell (p := ⟨w.heap.size + 1, 1, none⟩) (by show w.heap.size ≤ w.heap.size + 1; omega) _
end Go.Proofs.YtdjbjadaldndcaaGreat
