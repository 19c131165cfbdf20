/-
  pt.Ok, pt.Less.
-/
import Derived.Test.YtnfhnoacdmhlfaaQOn
namespace Go.Proofs.Ytnfhnoacdmhlfaa
open Go.RowKit Go.Sort

/-- Is it one of the grid? -/
def okP (x y : Int) : Bool := x == near x && y == near y
theorem okP_iff (x y : Int) : okP x y = (decide (-1048576 ≤ x) && decide (x ≤ 1048576) && decide (-1048576 ≤ y) && decide (y ≤ 1048576)) := by
  rw [Bool.eq_iff_iff]
  simp only [okP, Bool.and_eq_true, beq_iff_eq, decide_eq_true_eq]
  have h1 : x = near x ↔ (-1048576 ≤ x ∧ x ≤ 1048576) := by
    unfold near
    split
    · omega
    · split <;> omega
  have h2 : y = near y ↔ (-1048576 ≤ y ∧ y ≤ 1048576) := by
    unfold near
    split
    · omega
    · split <;> omega
  rw [h1, h2, and_assoc, and_assoc, and_assoc]

theorem box1 {w wA : World} {a0 a1 : Int} (hA : w.alloc (.cells #[.int .i64 a0, .int .i64 a1] 23) = wA) : Pt wA w.heap.size a0 a1 ∧ Below w.heap.size w wA ∧ wA.heap.size = w.heap.size + 1 := by
  refine ⟨?_, ?_, ?_⟩
  · rw [← hA]; exact Pt.new w a0 a1
  · rw [← hA]; exact (Below.refl _ w).alloc (Nat.le_refl _) _
  · rw [← hA]; simp

theorem ok_any (px py : Int) (w : World) :
    Calls Try.prog 18 #[pv px py] w fun e w' => e = .returned (.bool (okP px py)) ∧ Below w.heap.size w w' := by
  obtain ⟨wA, hwA⟩ : ∃ wA, w.alloc (.cells #[.int .i64 px, .int .i64 py] 23) = wA := ⟨_, rfl⟩
  obtain ⟨hA, hBL, hszA⟩ := box1 hwA
  have HBL := hid hBL
  have ka0 := cell_regrown hA.c0
  have ka1 := cell_regrown hA.c1
  have ca := fun d os => held_any px py (grow (redrawn wA d) os)
  have hw : okP px py = (px == near px && py == near py) := rfl
  generalize okP px py = R at *
  generalize near px = NX at *
  generalize near py = NY at *
  have HW := hid hw
  clear hA hBL hw
  by_cases eX : NX = px
  · by_cases eY : NY = py
    · go_enter Try.func18, Try.ntmps18
      go_wp2
      refine wp_region_quiet_below (by kernel_rfl) (by kernel_rfl) ?_
      go_big_quiet_step (fail)
      go_big_quiet_step (fail)
      go_big_quiet_step (exact Calls.regrown_of (ca _ _))
      go_big_quiet_step (fail)
      go_big_quiet_step (fail)
      refine wpQuiet_nil ?_
      intro W hW'
      obtain ⟨⟨dq, osq⟩, hW⟩ := hW'
      have HB1 := hid (show Below wA.heap.size wA W by rw [hW]; exact below_regrown _ _ _)
      clear hW ka0 ka1 ca
      go_wp2
      go_ret
      exact ⟨by rw [HW.out]; first | (simp [*]; done) | (simp [*]; omega), HBL.out.trans (HB1.out.mono HBL.out.size)⟩
    · have fY : (py == NY) = false := beq_eq_false_iff_ne.2 (fun h => eY h.symm)
      go_enter Try.func18, Try.ntmps18
      go_wp2
      refine wp_region_quiet_below (by kernel_rfl) (by kernel_rfl) ?_
      go_big_quiet_step (fail)
      go_big_quiet_step (fail)
      go_big_quiet_step (exact Calls.regrown_of (ca _ _))
      go_big_quiet_step (fail)
      go_big_quiet_step (fail)
      refine wpQuiet_nil ?_
      intro W hW'
      obtain ⟨⟨dq, osq⟩, hW⟩ := hW'
      have HB1 := hid (show Below wA.heap.size wA W by rw [hW]; exact below_regrown _ _ _)
      clear hW ka0 ka1 ca
      go_wp2
      go_ret
      exact ⟨by rw [HW.out]; first | (simp [*]; done) | (simp [*]; omega), HBL.out.trans (HB1.out.mono HBL.out.size)⟩
  · have fX : (px == NX) = false := beq_eq_false_iff_ne.2 (fun h => eX h.symm)
    go_enter Try.func18, Try.ntmps18
    go_wp2
    refine wp_region_quiet_below (by kernel_rfl) (by kernel_rfl) ?_
    go_big_quiet_step (fail)
    go_big_quiet_step (fail)
    go_big_quiet_step (exact Calls.regrown_of (ca _ _))
    go_big_quiet_step (fail)
    go_big_quiet_step (fail)
    refine wpQuiet_nil ?_
    intro W hW'
    obtain ⟨⟨dq, osq⟩, hW⟩ := hW'
    have HB1 := hid (show Below wA.heap.size wA W by rw [hW]; exact below_regrown _ _ _)
    clear hW ka0 ka1 ca
    go_wp2
    go_ret
    exact ⟨by rw [HW.out]; first | (simp [*]; done) | (simp [*]; omega), HBL.out.trans (HB1.out.mono HBL.out.size)⟩

/-- By X, then by Y. -/
def lessP (ax ay bx by' : Int) : Bool := decide (ax < bx) || (ax == bx && decide (ay < by'))

theorem less_any (ax ay bx by' : Int) (w : World) :
    Calls Try.prog 20 #[pv ax ay, pv bx by'] w fun e w' => e = .returned (.bool (lessP (near ax) (near ay) (near bx) (near by'))) ∧ Below w.heap.size w w' := by
  obtain ⟨wA, hwA⟩ : ∃ wA, w.alloc (.cells #[.int .i64 ax, .int .i64 ay] 23) = wA := ⟨_, rfl⟩
  obtain ⟨wB, hwB⟩ : ∃ wB, wA.alloc (.cells #[.int .i64 bx, .int .i64 by'] 23) = wB := ⟨_, rfl⟩
  obtain ⟨hA, hB, hBL, hszB, hszA⟩ := box2 hwA hwB
  have HBL := hid hBL
  have HA := hid hA
  have HB := hid hB
  have ka0 := cell_regrown hA.c0
  have ka1 := cell_regrown hA.c1
  have kb0 := cell_regrown hB.c0
  have kb1 := cell_regrown hB.c1
  have ca := fun d os => held_any ax ay (grow (redrawn wB d) os)
  have cb := fun d os => held_any bx by' (grow (redrawn wB d) os)
  have hw : lessP (near ax) (near ay) (near bx) (near by') = (decide (near ax < near bx) || (near ax == near bx && decide (near ay < near by'))) := rfl
  generalize lessP (near ax) (near ay) (near bx) (near by') = R at *
  generalize near ax = AX at *
  generalize near ay = AY at *
  generalize near bx = BX at *
  generalize near by' = BY at *
  have HW := hid hw
  clear hA hB hBL hw
  go_enter Try.func20, Try.ntmps20
  go_wp2
  refine wp_region_tail (C := fun w' => ∃ p : Regrown, w' = grow (redrawn wB p.d) p.os) 4 (by kernel_rfl) (by kernel_rfl) ⟨⟨wB.drawn + 1, #[]⟩, by rw [grow_empty]; rfl⟩ ?_
  simp only [List.take, List.drop]
  go_big_quiet_step (fail)
  go_big_quiet_step (exact Calls.regrown_of (ca _ _))
  go_big_quiet_step (fail)
  go_big_quiet_step (exact Calls.regrown_of (cb _ _))
  refine wpQuiet_nil ?_
  intro W hW'
  obtain ⟨⟨dq, osq⟩, hW⟩ := hW'
  have hb : Below wB.heap.size wB W := by rw [hW]; exact below_regrown _ _ _
  clear hW ka0 ka1 kb0 kb1 ca cb
  have hA := HA.out.below hb (by omega)
  have hB := HB.out.below hb (by omega)
  have a0 := hA.c0; have a1 := hA.c1; have a2 := hA.f0; have a3 := hA.f1
  have b0 := hB.c0; have b1 := hB.c1; have b2 := hB.f0; have b3 := hB.f1
  have HB1 := hid (HBL.out.trans (hb.mono HBL.out.size))
  clear hb hA hB
  rcases (show AX < BX ∨ (AX = BX ∧ AY < BY) ∨ (AX = BX ∧ ¬ AY < BY) ∨ (BX < AX) by omega) with h | ⟨h, h'⟩ | ⟨h, h'⟩ | h
  · go_wp2
    go_ret
    exact ⟨by rw [HW.out]; first | (simp [*]; done) | (simp [*]; omega), below_set2 (below_set2 HB1.out (Nat.le_refl _)) (Nat.le_add_right _ _)⟩
  · go_wp2
    go_ret
    exact ⟨by rw [HW.out]; first | (simp [*]; done) | (simp [*]; omega), below_set2 (below_set2 HB1.out (Nat.le_refl _)) (Nat.le_add_right _ _)⟩
  · go_wp2
    go_ret
    exact ⟨by rw [HW.out]; first | (simp [*]; done) | (simp [*]; omega), below_set2 (below_set2 HB1.out (Nat.le_refl _)) (Nat.le_add_right _ _)⟩
  · go_wp2
    go_ret
    exact ⟨by rw [HW.out]; first | (simp [*]; done) | (simp [*]; omega), below_set2 (below_set2 HB1.out (Nat.le_refl _)) (Nat.le_add_right _ _)⟩
end Go.Proofs.Ytnfhnoacdmhlfaa
