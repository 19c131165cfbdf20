/-
  pt.Area2, pt.Turn.
-/
import Derived.Test.YtlnjjkgjknheiaaMA
import Derived.PlainAid
import Derived.Test.YtlnjjkgjknheiaaQBox
import Derived.Test.YtlnjjkgjknheiaaHFree
namespace Go.Proofs.Ytlnjjkgjknheiaa
open Go.RowKit Go.Sort

/-- Twice the signed area. -/
def area (ax ay bx by' cx cy : Int) : Int := (bx - ax) * (cy - ay) - (by' - ay) * (cx - ax)

theorem mul_bound {u v : Int} (hu0 : -2097152 ≤ u) (hu1 : u ≤ 2097152) (hv0 : -2097152 ≤ v) (hv1 : v ≤ 2097152) : -4398046511104 ≤ u * v ∧ u * v ≤ 4398046511104 := by
  have h := Int.natAbs_mul u v
  have h1 : u.natAbs ≤ 2097152 := by omega
  have h2 : v.natAbs ≤ 2097152 := by omega
  have h3 := Nat.mul_le_mul h1 h2
  omega
theorem area_bound {ax ay bx by' cx cy : Int} (h1 : -1048576 ≤ ax) (h2 : ax ≤ 1048576) (h3 : -1048576 ≤ ay) (h4 : ay ≤ 1048576) (h5 : -1048576 ≤ bx) (h6 : bx ≤ 1048576) (h7 : -1048576 ≤ by') (h8 : by' ≤ 1048576) (h9 : -1048576 ≤ cx) (h10 : cx ≤ 1048576) (h11 : -1048576 ≤ cy) (h12 : cy ≤ 1048576) :
    -8796093022208 ≤ area ax ay bx by' cx cy ∧ area ax ay bx by' cx cy ≤ 8796093022208 := by
  have a1 := mul_bound (u := bx - ax) (v := cy - ay) (by omega) (by omega) (by omega) (by omega)
  have a2 := mul_bound (u := by' - ay) (v := cx - ax) (by omega) (by omega) (by omega) (by omega)
  unfold area
  omega


theorem area2_any (ax ay bx by' cx cy : Int) (w : World) :
    Calls Try.prog 63 #[pv ax ay, pv bx by', pv cx cy] w fun e w' => e = .returned (.int .i64 (area (near ax) (near ay) (near bx) (near by') (near cx) (near cy))) ∧ Below w.heap.size w w' := by
  obtain ⟨wA, hwA⟩ : ∃ wA, w.alloc (.cells #[.int .i64 ax, .int .i64 ay] 24) = wA := ⟨_, rfl⟩
  obtain ⟨wB, hwB⟩ : ∃ wB, wA.alloc (.cells #[.int .i64 bx, .int .i64 by'] 24) = wB := ⟨_, rfl⟩
  obtain ⟨wC, hwC⟩ : ∃ wC, wB.alloc (.cells #[.int .i64 cx, .int .i64 cy] 24) = wC := ⟨_, rfl⟩
  have hszA : wA.heap.size = w.heap.size + 1 := by rw [← hwA]; simp
  have hszB : wB.heap.size = w.heap.size + 2 := by rw [← hwB]; simp [hszA]
  have hszC : wC.heap.size = w.heap.size + 3 := by rw [← hwC]; simp [hszB]
  have hA : Pt wC w.heap.size ax ay := by rw [← hwC, ← hwB, ← hwA]; exact ((Pt.new w ax ay).alloc _).alloc _
  have hB : Pt wC (w.heap.size + 1) bx by' := by rw [← hwC, ← hwB, ← hszA]; exact (Pt.new wA bx by').alloc _
  have hC : Pt wC (w.heap.size + 2) cx cy := by rw [← hwC, ← hszB]; exact Pt.new wB cx cy
  have HBL := hid (show Below w.heap.size w wC by rw [← hwC, ← hwB, ← hwA]; exact (((Below.refl _ w).alloc (Nat.le_refl _) _).alloc (by simp) _).alloc (by simp; omega) _)
  have ka0 := cell_regrown hA.c0
  have ka1 := cell_regrown hA.c1
  have kb0 := cell_regrown hB.c0
  have kb1 := cell_regrown hB.c1
  have kc0 := cell_regrown hC.c0
  have kc1 := cell_regrown hC.c1
  have ca := fun d os => held_any ax ay (grow (redrawn wC d) os)
  have cb := fun d os => held_any bx by' (grow (redrawn wC d) os)
  have cc := fun d os => held_any cx cy (grow (redrawn wC d) os)
  have b1 := near_lo ax; have b2 := near_hi ax; have b3 := near_lo ay; have b4 := near_hi ay
  have b5 := near_lo bx; have b6 := near_hi bx; have b7 := near_lo by'; have b8 := near_hi by'
  have b9 := near_lo cx; have b10 := near_hi cx; have b11 := near_lo cy; have b12 := near_hi cy
  generalize near ax = AX at *
  generalize near ay = AY at *
  generalize near bx = BX at *
  generalize near by' = BY at *
  generalize near cx = CX at *
  generalize near cy = CY at *
  have HA := hid hA
  have HB := hid hB
  have HC := hid hC
  clear hA hB hC
  go_enter Try.func63, Try.ntmps63
  go_wp2
  refine wp_region_tail (C := fun w' => ∃ p : Regrown, w' = grow (redrawn wC p.d) p.os) 6 (by kernel_rfl) (by kernel_rfl) ⟨⟨wC.drawn + 1, #[]⟩, by rw [grow_empty]; rfl⟩ ?_
  simp only [List.take, List.drop]
  go_big_quiet_step (fail)
  go_big_quiet_step (exact Calls.regrown_of (ca _ _))
  go_big_quiet_step (fail)
  go_big_quiet_step (exact Calls.regrown_of (cb _ _))
  go_big_quiet_step (fail)
  go_big_quiet_step (exact Calls.regrown_of (cc _ _))
  refine wpQuiet_nil ?_
  intro W hW'
  obtain ⟨⟨dq, osq⟩, hW⟩ := hW'
  have hb : Below wC.heap.size wC W := by rw [hW]; exact below_regrown _ _ _
  clear hW ka0 ka1 kb0 kb1 kc0 kc1 ca cb cc
  have hA := HA.out.below hb (by omega)
  have hB := HB.out.below hb (by omega)
  have hC := HC.out.below hb (by omega)
  have a0 := hA.c0; have a1 := hA.c1; have a2 := hA.f0; have a3 := hA.f1
  have p0 := hB.c0; have p1 := hB.c1; have p2 := hB.f0; have p3 := hB.f1
  have q0 := hC.c0; have q1 := hC.c1; have q2 := hC.f0; have q3 := hC.f1
  have HW := hid (HBL.out.trans (hb.mono HBL.out.size))
  clear hb hA hB hC
  have m1 := mul_bound (u := BX - AX) (v := CY - AY) (by omega) (by omega) (by omega) (by omega)
  have m2 := mul_bound (u := BY - AY) (v := CX - AX) (by omega) (by omega) (by omega) (by omega)
  go_wp2
  go_ret
  refine ⟨rfl, ?_⟩
  exact below_set2 (below_set2 (below_set2 HW.out (Nat.le_refl _)) (Nat.le_add_right _ _)) (Nat.le_add_right _ _)


theorem compare_any (t : Int) (w : World) :
    Calls Try.prog 62 #[.int .i64 t, .int .i64 0] w fun e w' => e = .returned (.int .i64 (sgn t)) ∧ w' = w := by
  rcases (show t < 0 ∨ 0 < t ∨ t = 0 by omega) with h | h | h
  · have hn : sgn t = -1 := by unfold sgn; rw [if_pos h]
    rw [hn]
    clear hn
    go_enter Try.func62, Try.ntmps62
    go_wp2
    go_ret
    exact ⟨rfl, rfl⟩
  · have hn : sgn t = 1 := by unfold sgn; rw [if_neg (by omega), if_pos h]
    rw [hn]
    clear hn
    go_enter Try.func62, Try.ntmps62
    go_wp2
    go_ret
    exact ⟨rfl, rfl⟩
  · subst h
    rw [show sgn 0 = 0 from rfl]
    go_enter Try.func62, Try.ntmps62
    go_wp2
    go_ret
    exact ⟨rfl, rfl⟩


theorem turn_any (ax ay bx by' cx cy : Int) (w : World) :
    Calls Try.prog 59 #[pv ax ay, pv bx by', pv cx cy] w fun e w' => e = .returned (.int .i64 (sgn (area (near ax) (near ay) (near bx) (near by') (near cx) (near cy)))) ∧ Below w.heap.size w w' := by
  obtain ⟨wA, hwA⟩ : ∃ wA, w.alloc (.cells #[.int .i64 ax, .int .i64 ay] 24) = wA := ⟨_, rfl⟩
  obtain ⟨wB, hwB⟩ : ∃ wB, wA.alloc (.cells #[.int .i64 bx, .int .i64 by'] 24) = wB := ⟨_, rfl⟩
  obtain ⟨wC, hwC⟩ : ∃ wC, wB.alloc (.cells #[.int .i64 cx, .int .i64 cy] 24) = wC := ⟨_, rfl⟩
  have hszA : wA.heap.size = w.heap.size + 1 := by rw [← hwA]; simp
  have hszB : wB.heap.size = w.heap.size + 2 := by rw [← hwB]; simp [hszA]
  have hA : Pt wC w.heap.size ax ay := by rw [← hwC, ← hwB, ← hwA]; exact ((Pt.new w ax ay).alloc _).alloc _
  have hB : Pt wC (w.heap.size + 1) bx by' := by rw [← hwC, ← hwB, ← hszA]; exact (Pt.new wA bx by').alloc _
  have hC : Pt wC (w.heap.size + 2) cx cy := by rw [← hwC, ← hszB]; exact Pt.new wB cx cy
  have HBL := hid (show Below w.heap.size w wC by rw [← hwC, ← hwB, ← hwA]; exact (((Below.refl _ w).alloc (Nat.le_refl _) _).alloc (by simp) _).alloc (by simp; omega) _)
  have a0 := hA.c0; have a1 := hA.c1; have p0 := hB.c0; have p1 := hB.c1; have q0 := hC.c0; have q1 := hC.c1
  have HC := hid (area2_any ax ay bx by' cx cy wC)
  generalize area (near ax) (near ay) (near bx) (near by') (near cx) (near cy) = A at *
  clear hA hB hC
  go_enter Try.func59, Try.ntmps59
  go_wp2_with (first | (go_at_call 63; refine HC.out.mono ?_; rintro e w1 ⟨rfl, hb1⟩; have HB1 := hid (HBL.out.trans (hb1.mono HBL.out.size)); clear hb1) | (go_at_call 62; refine (compare_any A w1).mono ?_; rintro e w2 ⟨rfl, hw2⟩; subst hw2))
  go_ret
  exact ⟨rfl, HB1.out⟩

end Go.Proofs.Ytlnjjkgjknheiaa

namespace Go.Proofs.Ytlnjjkgjknheiaa
open Go.RowKit Go.Sort

/-- Have two stretches a number in common, both of them not empty? -/
def ovl (al ah bl bh : Int) : Bool := decide (al ≤ ah) && decide (al ≤ bh) && decide (bl ≤ ah) && decide (bl ≤ bh)
theorem ovl_true {al ah bl bh : Int} (h : al ≤ ah ∧ al ≤ bh ∧ bl ≤ ah ∧ bl ≤ bh) : ovl al ah bl bh = true := by simp [ovl, h]
theorem ovl_false {al ah bl bh : Int} (h : ¬ (al ≤ ah ∧ al ≤ bh ∧ bl ≤ ah ∧ bl ≤ bh)) : ovl al ah bl bh = false := by
  cases hx : ovl al ah bl bh with
  | false => rfl
  | true => exact absurd (by simpa [ovl, and_assoc] using hx) h


set_option maxHeartbeats 1600000 in
theorem meet_any (ax ay bx by' cx cy dx dy : Int) (w : World) :
    Calls Try.prog 23 #[pv ax ay, pv bx by', pv cx cy, pv dx dy] w fun e w' => e = .returned (.bool (ovl (near ax) (near bx) (near cx) (near dx) && ovl (near ay) (near by') (near cy) (near dy))) ∧ Below w.heap.size w w' := by
  obtain ⟨wA, hwA⟩ : ∃ wA, w.alloc (.cells #[.int .i64 ax, .int .i64 ay] 24) = wA := ⟨_, rfl⟩
  obtain ⟨wB, hwB⟩ : ∃ wB, wA.alloc (.cells #[.int .i64 bx, .int .i64 by'] 24) = wB := ⟨_, rfl⟩
  obtain ⟨wC, hwC⟩ : ∃ wC, wB.alloc (.cells #[.int .i64 cx, .int .i64 cy] 24) = wC := ⟨_, rfl⟩
  obtain ⟨wD, hwD⟩ : ∃ wD, wC.alloc (.cells #[.int .i64 dx, .int .i64 dy] 24) = wD := ⟨_, rfl⟩
  obtain ⟨hA, hB, hC, hD, hBL, hszD, hszA, hszB, hszC⟩ := box4 hwA hwB hwC hwD
  have HBL := hid hBL
  have ka0 := cell_regrown hA.c0
  have ka1 := cell_regrown hA.c1
  have kb0 := cell_regrown hB.c0
  have kb1 := cell_regrown hB.c1
  have kc0 := cell_regrown hC.c0
  have kc1 := cell_regrown hC.c1
  have kd0 := cell_regrown hD.c0
  have kd1 := cell_regrown hD.c1
  have ca := fun d os => held_any ax ay (grow (redrawn wD d) os)
  have cb := fun d os => held_any bx by' (grow (redrawn wD d) os)
  have cc := fun d os => held_any cx cy (grow (redrawn wD d) os)
  have cd := fun d os => held_any dx dy (grow (redrawn wD d) os)
  generalize near ax = AX at *
  generalize near ay = AY at *
  generalize near bx = BX at *
  generalize near by' = BY at *
  generalize near cx = CX at *
  generalize near cy = CY at *
  generalize near dx = DX at *
  generalize near dy = DY at *
  obtain ⟨R, hR⟩ : ∃ R, (ovl AX BX CX DX && ovl AY BY CY DY) = R := ⟨_, rfl⟩
  rw [hR]
  have HR := hid hR
  clear hR
  have HA := hid hA
  have HB := hid hB
  have HC := hid hC
  have HD := hid hD
  clear hA hB hC hD hBL
  go_enter Try.func23, Try.ntmps23
  go_wp2
  refine wp_region_tail (C := fun w' => ∃ p : Regrown, w' = grow (redrawn wD p.d) p.os) 8 (by kernel_rfl) (by kernel_rfl) ⟨⟨wD.drawn + 1, #[]⟩, by rw [grow_empty]; rfl⟩ ?_
  simp only [List.take, List.drop]
  go_big_quiet_step (fail)
  go_big_quiet_step (exact Calls.regrown_of (ca _ _))
  go_big_quiet_step (fail)
  go_big_quiet_step (exact Calls.regrown_of (cb _ _))
  go_big_quiet_step (fail)
  go_big_quiet_step (exact Calls.regrown_of (cc _ _))
  go_big_quiet_step (fail)
  go_big_quiet_step (exact Calls.regrown_of (cd _ _))
  refine wpQuiet_nil ?_
  intro W hW'
  obtain ⟨⟨dq, osq⟩, hW⟩ := hW'
  have hb : Below wD.heap.size wD W := by rw [hW]; exact below_regrown _ _ _
  clear hW ka0 ka1 kb0 kb1 kc0 kc1 kd0 kd1 ca cb cc cd
  have hA := HA.out.below hb (by omega)
  have hB := HB.out.below hb (by omega)
  have hC := HC.out.below hb (by omega)
  have hD := HD.out.below hb (by omega)
  have a0 := hA.c0; have a1 := hA.c1; have a2 := hA.f0; have a3 := hA.f1
  have p0 := hB.c0; have p1 := hB.c1; have p2 := hB.f0; have p3 := hB.f1
  have q0 := hC.c0; have q1 := hC.c1; have q2 := hC.f0; have q3 := hC.f1
  have r0 := hD.c0; have r1 := hD.c1; have r2 := hD.f0; have r3 := hD.f1
  have HW := hid (HBL.out.trans (hb.mono HBL.out.size))
  clear hb hA hB hC hD
  by_cases hx : AX ≤ BX ∧ AX ≤ DX ∧ CX ≤ BX ∧ CX ≤ DX
  · by_cases hy : AY ≤ BY ∧ AY ≤ DY ∧ CY ≤ BY ∧ CY ≤ DY
    · have HE := hid (show R = true by rw [← HR.out, ovl_true hx, ovl_true hy]; rfl)
      obtain ⟨x1, x2, x3, x4⟩ := hx
      obtain ⟨y1, y2, y3, y4⟩ := hy
      go_wp2
      all_goals (go_ret; refine ⟨by rw [HE.out]; first | rfl | (show Ending.returned (Value.bool (decide _)) = _; rw [decide_eq_false (by omega)]), ?_⟩; exact below_set2 (below_set2 (below_set2 (below_set2 HW.out (Nat.le_refl _)) (Nat.le_add_right _ _)) (Nat.le_add_right _ _)) (Nat.le_add_right _ _))
    · have HE := hid (show R = false by rw [← HR.out, ovl_true hx, ovl_false hy]; rfl)
      obtain ⟨x1, x2, x3, x4⟩ := hx
      go_wp2
      all_goals (go_ret; refine ⟨by rw [HE.out]; first | rfl | (show Ending.returned (Value.bool (decide _)) = _; rw [decide_eq_false (by omega)]), ?_⟩; exact below_set2 (below_set2 (below_set2 (below_set2 HW.out (Nat.le_refl _)) (Nat.le_add_right _ _)) (Nat.le_add_right _ _)) (Nat.le_add_right _ _))
  · have HE := hid (show R = false by rw [← HR.out, ovl_false hx]; rfl)
    go_wp2
    all_goals (go_ret; refine ⟨by rw [HE.out]; first | rfl | (show Ending.returned (Value.bool (decide _)) = _; rw [decide_eq_false (by omega)]), ?_⟩; exact below_set2 (below_set2 (below_set2 (below_set2 HW.out (Nat.le_refl _)) (Nat.le_add_right _ _)) (Nat.le_add_right _ _)) (Nat.le_add_right _ _))

end Go.Proofs.Ytlnjjkgjknheiaa

namespace Go.Proofs.Ytlnjjkgjknheiaa
open Go.RowKit Go.Sort

/-- Does p lie in the box of a and b? -/
def inBox (ax ay bx by' px py : Int) : Bool := ovl (min ax bx) (max ax bx) px px && ovl (min ay by') (max ay by') py py


theorem inBoxOf_any (ax ay bx by' px py : Int) (w : World) :
    Calls Try.prog 60 #[pv ax ay, pv bx by', pv px py] w fun e w' => e = .returned (.bool (inBox (near ax) (near ay) (near bx) (near by') (near px) (near py))) ∧ Below w.heap.size w w' := by
  obtain ⟨wA, hwA⟩ : ∃ wA, w.alloc (.cells #[.int .i64 ax, .int .i64 ay] 24) = wA := ⟨_, rfl⟩
  obtain ⟨wB, hwB⟩ : ∃ wB, wA.alloc (.cells #[.int .i64 bx, .int .i64 by'] 24) = wB := ⟨_, rfl⟩
  obtain ⟨wC, hwC⟩ : ∃ wC, wB.alloc (.cells #[.int .i64 px, .int .i64 py] 24) = wC := ⟨_, rfl⟩
  obtain ⟨hA, hB, hC, hBL, hszC, hszA, hszB⟩ := box3 hwA hwB hwC
  have a0 := hA.c0; have a1 := hA.c1; have b0 := hB.c0; have b1 := hB.c1; have c0 := hC.c0; have c1 := hC.c1
  obtain ⟨wS, hwS⟩ : ∃ wS, wC.alloc (.cells #[.int .i64 ax, .int .i64 ay, .int .i64 bx, .int .i64 by'] 24) = wS := ⟨_, rfl⟩
  have hszS : wS.heap.size = w.heap.size + 4 := by rw [← hwS]; simp [hszC]
  have HCS := hid (show Pt wS (w.heap.size + 2) px py by rw [← hwS]; exact hC.alloc _)
  have HBL := hid (show Below w.heap.size w wS by rw [← hwS]; exact hBL.alloc (by omega) _)
  have HPT := hid (show Pts wS (.slice (some ⟨w.heap.size + 3, 0, none⟩) 2 2) [(ax, ay), (bx, by')] by
    refine ⟨_, 2, rfl, fun _ => ⟨w.heap.size + 3, 0, rfl, fun k p hk => ?_⟩⟩
    rw [← hwS, ← hszC]
    match k, hk with
    | 0, hk => simp at hk; subst hk; simp
    | 1, hk => simp at hk; subst hk; simp
    | k + 2, hk => simp at hk)
  have HBX := hid (box_any _ _ wS HPT.out (by simp))
  simp only [boxL, boxS, List.foldl] at HBX
  have HM := hid (fun W => meet_any (min (near ax) (near bx)) (min (near ay) (near by')) (max (near ax) (near bx)) (max (near ay) (near by')) px py px py W)
  have b1' := near_lo ax; have b2' := near_hi ax; have b3' := near_lo ay; have b4' := near_hi ay
  have b5' := near_lo bx; have b6' := near_hi bx; have b7' := near_lo by'; have b8' := near_hi by'
  have HM' : Hid (∀ W, Calls Try.prog 23 #[pv (min (near ax) (near bx)) (min (near ay) (near by')), pv (max (near ax) (near bx)) (max (near ay) (near by')), pv px py, pv px py] W fun e w' => e = .returned (.bool (inBox (near ax) (near ay) (near bx) (near by') (near px) (near py))) ∧ Below W.heap.size W w') := fun W => by
    have := HM.out W
    rw [near_in (x := min (near ax) (near bx)) (by omega) (by omega), near_in (x := min (near ay) (near by')) (by omega) (by omega), near_in (x := max (near ax) (near bx)) (by omega) (by omega), near_in (x := max (near ay) (near by')) (by omega) (by omega)] at this
    exact this
  clear hA hB hC hBL HM b1' b2' b3' b4' b5' b6' b7' b8'
  generalize inBox (near ax) (near ay) (near bx) (near by') (near px) (near py) = R at *
  generalize min (near ax) (near bx) = LX at *
  generalize min (near ay) (near by') = LY at *
  generalize max (near ax) (near bx) = HX at *
  generalize max (near ay) (near by') = HY at *
  go_enter Try.func60, Try.ntmps60
  go_wp2_with (first | (go_at_call 22; refine HBX.out.mono ?_; rintro e w1 ⟨rfl, hb1⟩; obtain ⟨wT, hwT⟩ : ∃ wT, w1.alloc (.cells #[.int .i64 LX, .int .i64 LY] 24) = wT := ⟨_, rfl⟩; obtain ⟨wU, hwU⟩ : ∃ wU, wT.alloc (.cells #[.int .i64 HX, .int .i64 HY] 24) = wU := ⟨_, rfl⟩; obtain ⟨h1, h2, h3, h4, h5⟩ := box2 hwT hwU; have hC := ((HCS.out.below hb1 (by omega)).below h3 (by have := hb1.size; omega)); have p0 := h1.c0; have p1 := h1.c1; have q0 := h2.c0; have q1 := h2.c1; have r0 := hC.c0; have r1 := hC.c1; have HU := hid ((HBL.out.trans (hb1.mono HBL.out.size)).trans (h3.mono (Nat.le_trans HBL.out.size hb1.size))); clear h1 h2 h3 hC hb1) | (go_at_call 23; refine (HM'.out wU).mono ?_; rintro e w2 ⟨rfl, hb2⟩; have HB2 := hid (HU.out.trans (hb2.mono HU.out.size)); clear hb2))
  go_ret
  exact ⟨rfl, HB2.out⟩


/-- Is p on the segment from a to b? -/
def onP (ax ay bx by' px py : Int) : Bool := (area ax ay bx by' px py == 0) && inBox ax ay bx by' px py
theorem sgn_zero {t : Int} : (sgn t == 0) = (t == 0) := by
  rw [Bool.eq_iff_iff, beq_iff_eq, beq_iff_eq]
  unfold sgn
  split
  · omega
  · split <;> omega


theorem on_any (ax ay bx by' px py : Int) (w : World) :
    Calls Try.prog 54 #[pv ax ay, pv bx by', pv px py] w fun e w' => e = .returned (.bool (onP (near ax) (near ay) (near bx) (near by') (near px) (near py))) ∧ Below w.heap.size w w' := by
  obtain ⟨wA, hwA⟩ : ∃ wA, w.alloc (.cells #[.int .i64 ax, .int .i64 ay] 24) = wA := ⟨_, rfl⟩
  obtain ⟨wB, hwB⟩ : ∃ wB, wA.alloc (.cells #[.int .i64 bx, .int .i64 by'] 24) = wB := ⟨_, rfl⟩
  obtain ⟨wC, hwC⟩ : ∃ wC, wB.alloc (.cells #[.int .i64 px, .int .i64 py] 24) = wC := ⟨_, rfl⟩
  obtain ⟨hA, hB, hC, hBL, hszC, hszA, hszB⟩ := box3 hwA hwB hwC
  have HBL := hid hBL
  have HA := hid hA
  have HB := hid hB
  have HC := hid hC
  have a0 := hA.c0; have a1 := hA.c1; have b0 := hB.c0; have b1 := hB.c1; have c0 := hC.c0; have c1 := hC.c1
  have HT := hid (turn_any ax ay bx by' px py wC)
  have HI := hid (fun W => inBoxOf_any ax ay bx by' px py W)
  have hon : onP (near ax) (near ay) (near bx) (near by') (near px) (near py) = ((sgn (area (near ax) (near ay) (near bx) (near by') (near px) (near py)) == 0) && inBox (near ax) (near ay) (near bx) (near by') (near px) (near py)) := by rw [sgn_zero]; rfl
  generalize onP (near ax) (near ay) (near bx) (near by') (near px) (near py) = R at *
  generalize sgn (area (near ax) (near ay) (near bx) (near by') (near px) (near py)) = S at *
  generalize inBox (near ax) (near ay) (near bx) (near by') (near px) (near py) = I at *
  clear hA hB hC hBL
  cases hS : (S == 0) with
  | true =>
    rw [hS, Bool.true_and] at hon
    subst hon
    go_enter Try.func54, Try.ntmps54
    go_wp2_with (first | (go_at_call 59; refine HT.out.mono ?_; rintro e w1 ⟨rfl, hb1⟩; have p0 := (HA.out.below hb1 (by omega)).c0; have p1 := (HA.out.below hb1 (by omega)).c1; have q0 := (HB.out.below hb1 (by omega)).c0; have q1 := (HB.out.below hb1 (by omega)).c1; have r0 := (HC.out.below hb1 (by omega)).c0; have r1 := (HC.out.below hb1 (by omega)).c1; have HB1 := hid (HBL.out.trans (hb1.mono HBL.out.size)); clear hb1) | (go_at_call 60; refine (HI.out w1).mono ?_; rintro e w2 ⟨rfl, hb2⟩; have HB2 := hid (HB1.out.trans (hb2.mono HB1.out.size)); clear hb2))
    go_ret
    exact ⟨rfl, HB2.out⟩
  | false =>
    rw [hS, Bool.false_and] at hon
    subst hon
    go_enter Try.func54, Try.ntmps54
    go_wp2_with (first | (go_at_call 59; refine HT.out.mono ?_; rintro e w1 ⟨rfl, hb1⟩; have HB1 := hid (HBL.out.trans (hb1.mono HBL.out.size)); clear hb1))
    go_ret
    exact ⟨rfl, HB1.out⟩


/-- On it, and no end of it? -/
def withinP (ax ay bx by' px py : Int) : Bool := onP ax ay bx by' px py && !(px == ax && py == ay) && !(px == bx && py == by')






























































































































































































































































end Go.Proofs.Ytlnjjkgjknheiaa

namespace Go.Proofs.Ytlnjjkgjknheiaa
open Go.RowKit Go.Sort

theorem exec_newP {o : Oper} (ho : o.op = .alloc 24) (ρ : Operand → Value) (w : World) :
    (execOp ρ o).run Try.prog w = .ok (.value (.pointer (some ⟨w.heap.size, 0, none⟩))) (w.alloc (.cells #[.int .i64 0, .int .i64 0] 24)) := by
  unfold execOp
  rw [ho]
  simp [go_sem, Instr.alloc]
end Go.Proofs.Ytlnjjkgjknheiaa
