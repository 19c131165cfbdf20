/-
  pt.Ok, pt.Less.
-/
import Derived.Test.YtepnjknblppfcaaQOn
namespace Go.Proofs.Ytepnjknblppfcaa
open Go.RowKit Go.Sort

/-- Is it one of the grid? -/
def okP (x y : Int) : Bool := x == near x && y == near y
theorem okP_iff (x y : Int) : okP x y = (decide (-1048576 ≤ x) && decide (x ≤ 1048576) && decide (-1048576 ≤ y) && decide (y ≤ 1048576)) := by
  rw [Bool.eq_iff_iff]
  simp only [okP, Bool.and_eq_true, beq_iff_eq, decide_eq_true_eq]
  have h1 : x = near x ↔ (-1048576 ≤ x ∧ x ≤ 1048576) := by
    unfold near
    split
    · omega
    · split <;> omega
  have h2 : y = near y ↔ (-1048576 ≤ y ∧ y ≤ 1048576) := by
    unfold near
    split
    · omega
    · split <;> omega
  rw [h1, h2, and_assoc, and_assoc, and_assoc]


theorem ok_any (px py : Int) (w : World) :
    Calls Try.prog 31 #[pv px py] w fun e w' => e = .returned (.bool (okP px py)) ∧ Below w.heap.size w w' := by
  obtain ⟨wA, hwA⟩ : ∃ wA, w.alloc (.cells #[.int .i64 px, .int .i64 py] 24) = wA := ⟨_, rfl⟩
  obtain ⟨hA, hBL, hszA⟩ := box1 hwA
  have HBL := hid hBL
  have ka0 := cell_regrown hA.c0
  have ka1 := cell_regrown hA.c1
  have ca := fun d os => held_any px py (grow (redrawn wA d) os)
  have hw : okP px py = (px == near px && py == near py) := rfl
  generalize okP px py = R at *
  generalize near px = NX at *
  generalize near py = NY at *
  have HW := hid hw
  clear hA hBL hw
  by_cases eX : NX = px
  · by_cases eY : NY = py
    · go_enter Try.func31, Try.ntmps31
      go_wp2
      refine wp_region_quiet_below (by kernel_rfl) (by kernel_rfl) ?_
      go_big_quiet_step (fail)
      go_big_quiet_step (fail)
      go_big_quiet_step (exact Calls.regrown_of (ca _ _))
      go_big_quiet_step (fail)
      go_big_quiet_step (fail)
      refine wpQuiet_nil ?_
      intro W hW'
      obtain ⟨⟨dq, osq⟩, hW⟩ := hW'
      have HB1 := hid (show Below wA.heap.size wA W by rw [hW]; exact below_regrown _ _ _)
      clear hW ka0 ka1 ca
      go_wp2
      go_ret
      exact ⟨by rw [HW.out]; first | (simp [*]; done) | (simp [*]; omega), HBL.out.trans (HB1.out.mono HBL.out.size)⟩
    · have fY : (py == NY) = false := beq_eq_false_iff_ne.2 (fun h => eY h.symm)
      go_enter Try.func31, Try.ntmps31
      go_wp2
      refine wp_region_quiet_below (by kernel_rfl) (by kernel_rfl) ?_
      go_big_quiet_step (fail)
      go_big_quiet_step (fail)
      go_big_quiet_step (exact Calls.regrown_of (ca _ _))
      go_big_quiet_step (fail)
      go_big_quiet_step (fail)
      refine wpQuiet_nil ?_
      intro W hW'
      obtain ⟨⟨dq, osq⟩, hW⟩ := hW'
      have HB1 := hid (show Below wA.heap.size wA W by rw [hW]; exact below_regrown _ _ _)
      clear hW ka0 ka1 ca
      go_wp2
      go_ret
      exact ⟨by rw [HW.out]; first | (simp [*]; done) | (simp [*]; omega), HBL.out.trans (HB1.out.mono HBL.out.size)⟩
  · have fX : (px == NX) = false := beq_eq_false_iff_ne.2 (fun h => eX h.symm)
    go_enter Try.func31, Try.ntmps31
    go_wp2
    refine wp_region_quiet_below (by kernel_rfl) (by kernel_rfl) ?_
    go_big_quiet_step (fail)
    go_big_quiet_step (fail)
    go_big_quiet_step (exact Calls.regrown_of (ca _ _))
    go_big_quiet_step (fail)
    go_big_quiet_step (fail)
    refine wpQuiet_nil ?_
    intro W hW'
    obtain ⟨⟨dq, osq⟩, hW⟩ := hW'
    have HB1 := hid (show Below wA.heap.size wA W by rw [hW]; exact below_regrown _ _ _)
    clear hW ka0 ka1 ca
    go_wp2
    go_ret
    exact ⟨by rw [HW.out]; first | (simp [*]; done) | (simp [*]; omega), HBL.out.trans (HB1.out.mono HBL.out.size)⟩


/-- By X, then by Y. -/
def lessP (ax ay bx by' : Int) : Bool := decide (ax < bx) || (ax == bx && decide (ay < by'))

























































end Go.Proofs.Ytepnjknblppfcaa
