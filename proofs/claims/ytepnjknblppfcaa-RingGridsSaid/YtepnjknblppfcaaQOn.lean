/-
  pt.On, pt.Within, pt.Ok, pt.Less.
-/
import Derived.Test.YtepnjknblppfcaaQBox
import Derived.Test.YtepnjknblppfcaaQMeet
namespace Go.Proofs.Ytepnjknblppfcaa
open Go.RowKit Go.Sort

/-- Does p lie in the box of a and b? -/
def inBox (ax ay bx by' px py : Int) : Bool := ovl (min ax bx) (max ax bx) px px && ovl (min ay by') (max ay by') py py

theorem inBoxOf_any (ax ay bx by' px py : Int) (w : World) :
    Calls Try.prog 55 #[pv ax ay, pv bx by', pv px py] w fun e w' => e = .returned (.bool (inBox (near ax) (near ay) (near bx) (near by') (near px) (near py))) ∧ Below w.heap.size w w' := by
  obtain ⟨wA, hwA⟩ : ∃ wA, w.alloc (.cells #[.int .i64 ax, .int .i64 ay] 24) = wA := ⟨_, rfl⟩
  obtain ⟨wB, hwB⟩ : ∃ wB, wA.alloc (.cells #[.int .i64 bx, .int .i64 by'] 24) = wB := ⟨_, rfl⟩
  obtain ⟨wC, hwC⟩ : ∃ wC, wB.alloc (.cells #[.int .i64 px, .int .i64 py] 24) = wC := ⟨_, rfl⟩
  obtain ⟨hA, hB, hC, hBL, hszC, hszA, hszB⟩ := box3 hwA hwB hwC
  have a0 := hA.c0; have a1 := hA.c1; have b0 := hB.c0; have b1 := hB.c1; have c0 := hC.c0; have c1 := hC.c1
  obtain ⟨wS, hwS⟩ : ∃ wS, wC.alloc (.cells #[.int .i64 ax, .int .i64 ay, .int .i64 bx, .int .i64 by'] 24) = wS := ⟨_, rfl⟩
  have hszS : wS.heap.size = w.heap.size + 4 := by rw [← hwS]; simp [hszC]
  have HCS := hid (show Pt wS (w.heap.size + 2) px py by rw [← hwS]; exact hC.alloc _)
  have HBL := hid (show Below w.heap.size w wS by rw [← hwS]; exact hBL.alloc (by omega) _)
  have HPT := hid (show Pts wS (.slice (some ⟨w.heap.size + 3, 0, none⟩) 2 2) [(ax, ay), (bx, by')] by
    refine ⟨_, 2, rfl, fun _ => ⟨w.heap.size + 3, 0, rfl, fun k p hk => ?_⟩⟩
    rw [← hwS, ← hszC]
    match k, hk with
    | 0, hk => simp at hk; subst hk; simp
    | 1, hk => simp at hk; subst hk; simp
    | k + 2, hk => simp at hk)
  have HBX := hid (box_any _ _ wS HPT.out (by simp))
  simp only [boxL, boxS, List.foldl] at HBX
  have HM := hid (fun W => meet_any (min (near ax) (near bx)) (min (near ay) (near by')) (max (near ax) (near bx)) (max (near ay) (near by')) px py px py W)
  have b1' := near_lo ax; have b2' := near_hi ax; have b3' := near_lo ay; have b4' := near_hi ay
  have b5' := near_lo bx; have b6' := near_hi bx; have b7' := near_lo by'; have b8' := near_hi by'
  have HM' : Hid (∀ W, Calls Try.prog 57 #[pv (min (near ax) (near bx)) (min (near ay) (near by')), pv (max (near ax) (near bx)) (max (near ay) (near by')), pv px py, pv px py] W fun e w' => e = .returned (.bool (inBox (near ax) (near ay) (near bx) (near by') (near px) (near py))) ∧ Below W.heap.size W w') := fun W => by
    have := HM.out W
    rw [near_in (x := min (near ax) (near bx)) (by omega) (by omega), near_in (x := min (near ay) (near by')) (by omega) (by omega), near_in (x := max (near ax) (near bx)) (by omega) (by omega), near_in (x := max (near ay) (near by')) (by omega) (by omega)] at this
    exact this
  clear hA hB hC hBL HM b1' b2' b3' b4' b5' b6' b7' b8'
  generalize inBox (near ax) (near ay) (near bx) (near by') (near px) (near py) = R at *
  generalize min (near ax) (near bx) = LX at *
  generalize min (near ay) (near by') = LY at *
  generalize max (near ax) (near bx) = HX at *
  generalize max (near ay) (near by') = HY at *
  go_enter Try.func55, Try.ntmps55
  go_wp2_with (first | (go_at_call 50; refine HBX.out.mono ?_; rintro e w1 ⟨rfl, hb1⟩; obtain ⟨wT, hwT⟩ : ∃ wT, w1.alloc (.cells #[.int .i64 LX, .int .i64 LY] 24) = wT := ⟨_, rfl⟩; obtain ⟨wU, hwU⟩ : ∃ wU, wT.alloc (.cells #[.int .i64 HX, .int .i64 HY] 24) = wU := ⟨_, rfl⟩; obtain ⟨h1, h2, h3, h4, h5⟩ := box2 hwT hwU; have hC := ((HCS.out.below hb1 (by omega)).below h3 (by have := hb1.size; omega)); have p0 := h1.c0; have p1 := h1.c1; have q0 := h2.c0; have q1 := h2.c1; have r0 := hC.c0; have r1 := hC.c1; have HU := hid ((HBL.out.trans (hb1.mono HBL.out.size)).trans (h3.mono (Nat.le_trans HBL.out.size hb1.size))); clear h1 h2 h3 hC hb1) | (go_at_call 57; refine (HM'.out wU).mono ?_; rintro e w2 ⟨rfl, hb2⟩; have HB2 := hid (HU.out.trans (hb2.mono HU.out.size)); clear hb2))
  go_ret
  exact ⟨rfl, HB2.out⟩

/-- Is p on the segment from a to b? -/
def onP (ax ay bx by' px py : Int) : Bool := (area ax ay bx by' px py == 0) && inBox ax ay bx by' px py
theorem sgn_zero {t : Int} : (sgn t == 0) = (t == 0) := by
  rw [Bool.eq_iff_iff, beq_iff_eq, beq_iff_eq]
  unfold sgn
  split
  · omega
  · split <;> omega

theorem on_any (ax ay bx by' px py : Int) (w : World) :
    Calls Try.prog 49 #[pv ax ay, pv bx by', pv px py] w fun e w' => e = .returned (.bool (onP (near ax) (near ay) (near bx) (near by') (near px) (near py))) ∧ Below w.heap.size w w' := by
  obtain ⟨wA, hwA⟩ : ∃ wA, w.alloc (.cells #[.int .i64 ax, .int .i64 ay] 24) = wA := ⟨_, rfl⟩
  obtain ⟨wB, hwB⟩ : ∃ wB, wA.alloc (.cells #[.int .i64 bx, .int .i64 by'] 24) = wB := ⟨_, rfl⟩
  obtain ⟨wC, hwC⟩ : ∃ wC, wB.alloc (.cells #[.int .i64 px, .int .i64 py] 24) = wC := ⟨_, rfl⟩
  obtain ⟨hA, hB, hC, hBL, hszC, hszA, hszB⟩ := box3 hwA hwB hwC
  have HBL := hid hBL
  have HA := hid hA
  have HB := hid hB
  have HC := hid hC
  have a0 := hA.c0; have a1 := hA.c1; have b0 := hB.c0; have b1 := hB.c1; have c0 := hC.c0; have c1 := hC.c1
  have HT := hid (turn_any ax ay bx by' px py wC)
  have HI := hid (fun W => inBoxOf_any ax ay bx by' px py W)
  have hon : onP (near ax) (near ay) (near bx) (near by') (near px) (near py) = ((sgn (area (near ax) (near ay) (near bx) (near by') (near px) (near py)) == 0) && inBox (near ax) (near ay) (near bx) (near by') (near px) (near py)) := by rw [sgn_zero]; rfl
  generalize onP (near ax) (near ay) (near bx) (near by') (near px) (near py) = R at *
  generalize sgn (area (near ax) (near ay) (near bx) (near by') (near px) (near py)) = S at *
  generalize inBox (near ax) (near ay) (near bx) (near by') (near px) (near py) = I at *
  clear hA hB hC hBL
  cases hS : (S == 0) with
  | true =>
    rw [hS, Bool.true_and] at hon
    subst hon
    go_enter Try.func49, Try.ntmps49
    go_wp2_with (first | (go_at_call 44; refine HT.out.mono ?_; rintro e w1 ⟨rfl, hb1⟩; have p0 := (HA.out.below hb1 (by omega)).c0; have p1 := (HA.out.below hb1 (by omega)).c1; have q0 := (HB.out.below hb1 (by omega)).c0; have q1 := (HB.out.below hb1 (by omega)).c1; have r0 := (HC.out.below hb1 (by omega)).c0; have r1 := (HC.out.below hb1 (by omega)).c1; have HB1 := hid (HBL.out.trans (hb1.mono HBL.out.size)); clear hb1) | (go_at_call 55; refine (HI.out w1).mono ?_; rintro e w2 ⟨rfl, hb2⟩; have HB2 := hid (HB1.out.trans (hb2.mono HB1.out.size)); clear hb2))
    go_ret
    exact ⟨rfl, HB2.out⟩
  | false =>
    rw [hS, Bool.false_and] at hon
    subst hon
    go_enter Try.func49, Try.ntmps49
    go_wp2_with (first | (go_at_call 44; refine HT.out.mono ?_; rintro e w1 ⟨rfl, hb1⟩; have HB1 := hid (HBL.out.trans (hb1.mono HBL.out.size)); clear hb1))
    go_ret
    exact ⟨rfl, HB1.out⟩

/-- On it, and no end of it? -/
def withinP (ax ay bx by' px py : Int) : Bool := onP ax ay bx by' px py && !(px == ax && py == ay) && !(px == bx && py == by')






























































































































































































































































end Go.Proofs.Ytepnjknblppfcaa
