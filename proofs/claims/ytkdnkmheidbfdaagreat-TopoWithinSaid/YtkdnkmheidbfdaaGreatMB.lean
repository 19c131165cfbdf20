/-
  pt.Area2, pt.Turn.
-/
import Derived.Test.YtkdnkmheidbfdaaGreatM7
import Derived.PlainAid
import Derived.OwnWalk
import Derived.Laws.OwnMore
import Derived.Test.YtkdnkmheidbfdaaGreatQRefN
namespace Go.Proofs.YtkdnkmheidbfdaaGreat
open Go.RowKit Go.Sort

/-- Twice the signed area. -/
def area (ax ay bx by' cx cy : Int) : Int := (bx - ax) * (cy - ay) - (by' - ay) * (cx - ax)

theorem mul_bound {u v : Int} (hu0 : -2097152 ≤ u) (hu1 : u ≤ 2097152) (hv0 : -2097152 ≤ v) (hv1 : v ≤ 2097152) : -4398046511104 ≤ u * v ∧ u * v ≤ 4398046511104 := by
  have h := Int.natAbs_mul u v
  have h1 : u.natAbs ≤ 2097152 := by omega
  have h2 : v.natAbs ≤ 2097152 := by omega
  have h3 := Nat.mul_le_mul h1 h2
  omega
theorem area_bound {ax ay bx by' cx cy : Int} (h1 : -1048576 ≤ ax) (h2 : ax ≤ 1048576) (h3 : -1048576 ≤ ay) (h4 : ay ≤ 1048576) (h5 : -1048576 ≤ bx) (h6 : bx ≤ 1048576) (h7 : -1048576 ≤ by') (h8 : by' ≤ 1048576) (h9 : -1048576 ≤ cx) (h10 : cx ≤ 1048576) (h11 : -1048576 ≤ cy) (h12 : cy ≤ 1048576) :
    -8796093022208 ≤ area ax ay bx by' cx cy ∧ area ax ay bx by' cx cy ≤ 8796093022208 := by
  have a1 := mul_bound (u := bx - ax) (v := cy - ay) (by omega) (by omega) (by omega) (by omega)
  have a2 := mul_bound (u := by' - ay) (v := cx - ax) (by omega) (by omega) (by omega) (by omega)
  unfold area
  omega


theorem area2_any (ax ay bx by' cx cy : Int) (w : World) :
    Calls Tryz.prog 151 #[pv ax ay, pv bx by', pv cx cy] w fun e w' => e = .returned (.int .i64 (area (near ax) (near ay) (near bx) (near by') (near cx) (near cy))) ∧ Below w.heap.size w w' := by
  obtain ⟨wA, hwA⟩ : ∃ wA, w.alloc (.cells #[.int .i64 ax, .int .i64 ay] 23) = wA := ⟨_, rfl⟩
  obtain ⟨wB, hwB⟩ : ∃ wB, wA.alloc (.cells #[.int .i64 bx, .int .i64 by'] 23) = wB := ⟨_, rfl⟩
  obtain ⟨wC, hwC⟩ : ∃ wC, wB.alloc (.cells #[.int .i64 cx, .int .i64 cy] 23) = wC := ⟨_, rfl⟩
  have hszA : wA.heap.size = w.heap.size + 1 := by rw [← hwA]; simp
  have hszB : wB.heap.size = w.heap.size + 2 := by rw [← hwB]; simp [hszA]
  have hszC : wC.heap.size = w.heap.size + 3 := by rw [← hwC]; simp [hszB]
  have hA : Pt wC w.heap.size ax ay := by rw [← hwC, ← hwB, ← hwA]; exact ((Pt.new w ax ay).alloc _).alloc _
  have hB : Pt wC (w.heap.size + 1) bx by' := by rw [← hwC, ← hwB, ← hszA]; exact (Pt.new wA bx by').alloc _
  have hC : Pt wC (w.heap.size + 2) cx cy := by rw [← hwC, ← hszB]; exact Pt.new wB cx cy
  have HBL := hid (show Below w.heap.size w wC by rw [← hwC, ← hwB, ← hwA]; exact (((Below.refl _ w).alloc (Nat.le_refl _) _).alloc (by simp) _).alloc (by simp; omega) _)
  have ka0 := cell_regrown hA.c0
  have ka1 := cell_regrown hA.c1
  have kb0 := cell_regrown hB.c0
  have kb1 := cell_regrown hB.c1
  have kc0 := cell_regrown hC.c0
  have kc1 := cell_regrown hC.c1
  have ca := fun d os => held_any ax ay (grow (redrawn wC d) os)
  have cb := fun d os => held_any bx by' (grow (redrawn wC d) os)
  have cc := fun d os => held_any cx cy (grow (redrawn wC d) os)
  have b1 := near_lo ax; have b2 := near_hi ax; have b3 := near_lo ay; have b4 := near_hi ay
  have b5 := near_lo bx; have b6 := near_hi bx; have b7 := near_lo by'; have b8 := near_hi by'
  have b9 := near_lo cx; have b10 := near_hi cx; have b11 := near_lo cy; have b12 := near_hi cy
  generalize near ax = AX at *
  generalize near ay = AY at *
  generalize near bx = BX at *
  generalize near by' = BY at *
  generalize near cx = CX at *
  generalize near cy = CY at *
  have HA := hid hA
  have HB := hid hB
  have HC := hid hC
  clear hA hB hC
  go_enter Tryz.func151, Tryz.ntmps151
  go_wp2
  refine wp_region_tail (C := fun w' => ∃ p : Regrown, w' = grow (redrawn wC p.d) p.os) 6 (by kernel_rfl) (by kernel_rfl) ⟨⟨wC.drawn + 1, #[]⟩, by rw [grow_empty]; rfl⟩ ?_
  simp only [List.take, List.drop]
  go_big_quiet_step (fail)
  go_big_quiet_step (exact Calls.regrown_of (ca _ _))
  go_big_quiet_step (fail)
  go_big_quiet_step (exact Calls.regrown_of (cb _ _))
  go_big_quiet_step (fail)
  go_big_quiet_step (exact Calls.regrown_of (cc _ _))
  refine wpQuiet_nil ?_
  intro W hW'
  obtain ⟨⟨dq, osq⟩, hW⟩ := hW'
  have hb : Below wC.heap.size wC W := by rw [hW]; exact below_regrown _ _ _
  clear hW ka0 ka1 kb0 kb1 kc0 kc1 ca cb cc
  have hA := HA.out.below hb (by omega)
  have hB := HB.out.below hb (by omega)
  have hC := HC.out.below hb (by omega)
  have a0 := hA.c0; have a1 := hA.c1; have a2 := hA.f0; have a3 := hA.f1
  have p0 := hB.c0; have p1 := hB.c1; have p2 := hB.f0; have p3 := hB.f1
  have q0 := hC.c0; have q1 := hC.c1; have q2 := hC.f0; have q3 := hC.f1
  have HW := hid (HBL.out.trans (hb.mono HBL.out.size))
  clear hb hA hB hC
  have m1 := mul_bound (u := BX - AX) (v := CY - AY) (by omega) (by omega) (by omega) (by omega)
  have m2 := mul_bound (u := BY - AY) (v := CX - AX) (by omega) (by omega) (by omega) (by omega)
  go_wp2
  go_ret
  refine ⟨rfl, ?_⟩
  exact below_set2 (below_set2 (below_set2 HW.out (Nat.le_refl _)) (Nat.le_add_right _ _)) (Nat.le_add_right _ _)


theorem compare_any (t : Int) (w : World) :
    Calls Tryz.prog 94 #[.int .i64 t, .int .i64 0] w fun e w' => e = .returned (.int .i64 (sgn t)) ∧ w' = w := by
  rcases (show t < 0 ∨ 0 < t ∨ t = 0 by omega) with h | h | h
  · have hn : sgn t = -1 := by unfold sgn; rw [if_pos h]
    rw [hn]
    clear hn
    go_enter Tryz.func94, Tryz.ntmps94
    go_wp2
    go_ret
    exact ⟨rfl, rfl⟩
  · have hn : sgn t = 1 := by unfold sgn; rw [if_neg (by omega), if_pos h]
    rw [hn]
    clear hn
    go_enter Tryz.func94, Tryz.ntmps94
    go_wp2
    go_ret
    exact ⟨rfl, rfl⟩
  · subst h
    rw [show sgn 0 = 0 from rfl]
    go_enter Tryz.func94, Tryz.ntmps94
    go_wp2
    go_ret
    exact ⟨rfl, rfl⟩


theorem turn_any (ax ay bx by' cx cy : Int) (w : World) :
    Calls Tryz.prog 165 #[pv ax ay, pv bx by', pv cx cy] w fun e w' => e = .returned (.int .i64 (sgn (area (near ax) (near ay) (near bx) (near by') (near cx) (near cy)))) ∧ Below w.heap.size w w' := by
  obtain ⟨wA, hwA⟩ : ∃ wA, w.alloc (.cells #[.int .i64 ax, .int .i64 ay] 23) = wA := ⟨_, rfl⟩
  obtain ⟨wB, hwB⟩ : ∃ wB, wA.alloc (.cells #[.int .i64 bx, .int .i64 by'] 23) = wB := ⟨_, rfl⟩
  obtain ⟨wC, hwC⟩ : ∃ wC, wB.alloc (.cells #[.int .i64 cx, .int .i64 cy] 23) = wC := ⟨_, rfl⟩
  have hszA : wA.heap.size = w.heap.size + 1 := by rw [← hwA]; simp
  have hszB : wB.heap.size = w.heap.size + 2 := by rw [← hwB]; simp [hszA]
  have hA : Pt wC w.heap.size ax ay := by rw [← hwC, ← hwB, ← hwA]; exact ((Pt.new w ax ay).alloc _).alloc _
  have hB : Pt wC (w.heap.size + 1) bx by' := by rw [← hwC, ← hwB, ← hszA]; exact (Pt.new wA bx by').alloc _
  have hC : Pt wC (w.heap.size + 2) cx cy := by rw [← hwC, ← hszB]; exact Pt.new wB cx cy
  have HBL := hid (show Below w.heap.size w wC by rw [← hwC, ← hwB, ← hwA]; exact (((Below.refl _ w).alloc (Nat.le_refl _) _).alloc (by simp) _).alloc (by simp; omega) _)
  have a0 := hA.c0; have a1 := hA.c1; have p0 := hB.c0; have p1 := hB.c1; have q0 := hC.c0; have q1 := hC.c1
  have HC := hid (area2_any ax ay bx by' cx cy wC)
  generalize area (near ax) (near ay) (near bx) (near by') (near cx) (near cy) = A at *
  clear hA hB hC
  go_enter Tryz.func165, Tryz.ntmps165
  go_wp2_with (first | (go_at_call 151; refine HC.out.mono ?_; rintro e w1 ⟨rfl, hb1⟩; have HB1 := hid (HBL.out.trans (hb1.mono HBL.out.size)); clear hb1) | (go_at_call 94; refine (compare_any A w1).mono ?_; rintro e w2 ⟨rfl, hw2⟩; subst hw2))
  go_ret
  exact ⟨rfl, HB1.out⟩

end Go.Proofs.YtkdnkmheidbfdaaGreat

namespace Go.Proofs.YtkdnkmheidbfdaaGreat
open Go.RowKit Go.Sort

/-- Have two stretches a number in common, both of them not empty? -/
def ovl (al ah bl bh : Int) : Bool := decide (al ≤ ah) && decide (al ≤ bh) && decide (bl ≤ ah) && decide (bl ≤ bh)
theorem ovl_true {al ah bl bh : Int} (h : al ≤ ah ∧ al ≤ bh ∧ bl ≤ ah ∧ bl ≤ bh) : ovl al ah bl bh = true := by simp [ovl, h]
theorem ovl_false {al ah bl bh : Int} (h : ¬ (al ≤ ah ∧ al ≤ bh ∧ bl ≤ ah ∧ bl ≤ bh)) : ovl al ah bl bh = false := by
  cases hx : ovl al ah bl bh with
  | false => rfl
  | true => exact absurd (by simpa [ovl, and_assoc] using hx) h


set_option maxHeartbeats 1600000 in
theorem meet_any (ax ay bx by' cx cy dx dy : Int) (w : World) :
    Calls Tryz.prog 154 #[pv ax ay, pv bx by', pv cx cy, pv dx dy] w fun e w' => e = .returned (.bool (ovl (near ax) (near bx) (near cx) (near dx) && ovl (near ay) (near by') (near cy) (near dy))) ∧ Below w.heap.size w w' := by
  obtain ⟨wA, hwA⟩ : ∃ wA, w.alloc (.cells #[.int .i64 ax, .int .i64 ay] 23) = wA := ⟨_, rfl⟩
  obtain ⟨wB, hwB⟩ : ∃ wB, wA.alloc (.cells #[.int .i64 bx, .int .i64 by'] 23) = wB := ⟨_, rfl⟩
  obtain ⟨wC, hwC⟩ : ∃ wC, wB.alloc (.cells #[.int .i64 cx, .int .i64 cy] 23) = wC := ⟨_, rfl⟩
  obtain ⟨wD, hwD⟩ : ∃ wD, wC.alloc (.cells #[.int .i64 dx, .int .i64 dy] 23) = wD := ⟨_, rfl⟩
  obtain ⟨hA, hB, hC, hD, hBL, hszD, hszA, hszB, hszC⟩ := box4 hwA hwB hwC hwD
  have HBL := hid hBL
  have ka0 := cell_regrown hA.c0
  have ka1 := cell_regrown hA.c1
  have kb0 := cell_regrown hB.c0
  have kb1 := cell_regrown hB.c1
  have kc0 := cell_regrown hC.c0
  have kc1 := cell_regrown hC.c1
  have kd0 := cell_regrown hD.c0
  have kd1 := cell_regrown hD.c1
  have ca := fun d os => held_any ax ay (grow (redrawn wD d) os)
  have cb := fun d os => held_any bx by' (grow (redrawn wD d) os)
  have cc := fun d os => held_any cx cy (grow (redrawn wD d) os)
  have cd := fun d os => held_any dx dy (grow (redrawn wD d) os)
  generalize near ax = AX at *
  generalize near ay = AY at *
  generalize near bx = BX at *
  generalize near by' = BY at *
  generalize near cx = CX at *
  generalize near cy = CY at *
  generalize near dx = DX at *
  generalize near dy = DY at *
  obtain ⟨R, hR⟩ : ∃ R, (ovl AX BX CX DX && ovl AY BY CY DY) = R := ⟨_, rfl⟩
  rw [hR]
  have HR := hid hR
  clear hR
  have HA := hid hA
  have HB := hid hB
  have HC := hid hC
  have HD := hid hD
  clear hA hB hC hD hBL
  go_enter Tryz.func154, Tryz.ntmps154
  go_wp2
  refine wp_region_tail (C := fun w' => ∃ p : Regrown, w' = grow (redrawn wD p.d) p.os) 8 (by kernel_rfl) (by kernel_rfl) ⟨⟨wD.drawn + 1, #[]⟩, by rw [grow_empty]; rfl⟩ ?_
  simp only [List.take, List.drop]
  go_big_quiet_step (fail)
  go_big_quiet_step (exact Calls.regrown_of (ca _ _))
  go_big_quiet_step (fail)
  go_big_quiet_step (exact Calls.regrown_of (cb _ _))
  go_big_quiet_step (fail)
  go_big_quiet_step (exact Calls.regrown_of (cc _ _))
  go_big_quiet_step (fail)
  go_big_quiet_step (exact Calls.regrown_of (cd _ _))
  refine wpQuiet_nil ?_
  intro W hW'
  obtain ⟨⟨dq, osq⟩, hW⟩ := hW'
  have hb : Below wD.heap.size wD W := by rw [hW]; exact below_regrown _ _ _
  clear hW ka0 ka1 kb0 kb1 kc0 kc1 kd0 kd1 ca cb cc cd
  have hA := HA.out.below hb (by omega)
  have hB := HB.out.below hb (by omega)
  have hC := HC.out.below hb (by omega)
  have hD := HD.out.below hb (by omega)
  have a0 := hA.c0; have a1 := hA.c1; have a2 := hA.f0; have a3 := hA.f1
  have p0 := hB.c0; have p1 := hB.c1; have p2 := hB.f0; have p3 := hB.f1
  have q0 := hC.c0; have q1 := hC.c1; have q2 := hC.f0; have q3 := hC.f1
  have r0 := hD.c0; have r1 := hD.c1; have r2 := hD.f0; have r3 := hD.f1
  have HW := hid (HBL.out.trans (hb.mono HBL.out.size))
  clear hb hA hB hC hD
  by_cases hx : AX ≤ BX ∧ AX ≤ DX ∧ CX ≤ BX ∧ CX ≤ DX
  · by_cases hy : AY ≤ BY ∧ AY ≤ DY ∧ CY ≤ BY ∧ CY ≤ DY
    · have HE := hid (show R = true by rw [← HR.out, ovl_true hx, ovl_true hy]; rfl)
      obtain ⟨x1, x2, x3, x4⟩ := hx
      obtain ⟨y1, y2, y3, y4⟩ := hy
      go_wp2
      all_goals (go_ret; refine ⟨by rw [HE.out]; first | rfl | (show Ending.returned (Value.bool (decide _)) = _; rw [decide_eq_false (by omega)]), ?_⟩; exact below_set2 (below_set2 (below_set2 (below_set2 HW.out (Nat.le_refl _)) (Nat.le_add_right _ _)) (Nat.le_add_right _ _)) (Nat.le_add_right _ _))
    · have HE := hid (show R = false by rw [← HR.out, ovl_true hx, ovl_false hy]; rfl)
      obtain ⟨x1, x2, x3, x4⟩ := hx
      go_wp2
      all_goals (go_ret; refine ⟨by rw [HE.out]; first | rfl | (show Ending.returned (Value.bool (decide _)) = _; rw [decide_eq_false (by omega)]), ?_⟩; exact below_set2 (below_set2 (below_set2 (below_set2 HW.out (Nat.le_refl _)) (Nat.le_add_right _ _)) (Nat.le_add_right _ _)) (Nat.le_add_right _ _))
  · have HE := hid (show R = false by rw [← HR.out, ovl_false hx]; rfl)
    go_wp2
    all_goals (go_ret; refine ⟨by rw [HE.out]; first | rfl | (show Ending.returned (Value.bool (decide _)) = _; rw [decide_eq_false (by omega)]), ?_⟩; exact below_set2 (below_set2 (below_set2 (below_set2 HW.out (Nat.le_refl _)) (Nat.le_add_right _ _)) (Nat.le_add_right _ _)) (Nat.le_add_right _ _))

end Go.Proofs.YtkdnkmheidbfdaaGreat

namespace Go.Proofs.YtkdnkmheidbfdaaGreat
open Go.RowKit Go.Sort

/-- Does p lie in the box of a and b? -/
def inBox (ax ay bx by' px py : Int) : Bool := ovl (min ax bx) (max ax bx) px px && ovl (min ay by') (max ay by') py py


theorem inBoxOf_any (ax ay bx by' px py : Int) (w : World) :
    Calls Tryz.prog 166 #[pv ax ay, pv bx by', pv px py] w fun e w' => e = .returned (.bool (inBox (near ax) (near ay) (near bx) (near by') (near px) (near py))) ∧ Below w.heap.size w w' := by
  obtain ⟨wA, hwA⟩ : ∃ wA, w.alloc (.cells #[.int .i64 ax, .int .i64 ay] 23) = wA := ⟨_, rfl⟩
  obtain ⟨wB, hwB⟩ : ∃ wB, wA.alloc (.cells #[.int .i64 bx, .int .i64 by'] 23) = wB := ⟨_, rfl⟩
  obtain ⟨wC, hwC⟩ : ∃ wC, wB.alloc (.cells #[.int .i64 px, .int .i64 py] 23) = wC := ⟨_, rfl⟩
  obtain ⟨hA, hB, hC, hBL, hszC, hszA, hszB⟩ := box3 hwA hwB hwC
  have a0 := hA.c0; have a1 := hA.c1; have b0 := hB.c0; have b1 := hB.c1; have c0 := hC.c0; have c1 := hC.c1
  obtain ⟨wS, hwS⟩ : ∃ wS, wC.alloc (.cells #[.int .i64 ax, .int .i64 ay, .int .i64 bx, .int .i64 by'] 23) = wS := ⟨_, rfl⟩
  have hszS : wS.heap.size = w.heap.size + 4 := by rw [← hwS]; simp [hszC]
  have HCS := hid (show Pt wS (w.heap.size + 2) px py by rw [← hwS]; exact hC.alloc _)
  have HBL := hid (show Below w.heap.size w wS by rw [← hwS]; exact hBL.alloc (by omega) _)
  have HPT := hid (show Pts wS (.slice (some ⟨w.heap.size + 3, 0, none⟩) 2 2) [(ax, ay), (bx, by')] by
    refine ⟨_, 2, rfl, fun _ => ⟨w.heap.size + 3, 0, rfl, fun k p hk => ?_⟩⟩
    rw [← hwS, ← hszC]
    match k, hk with
    | 0, hk => simp at hk; subst hk; simp
    | 1, hk => simp at hk; subst hk; simp
    | k + 2, hk => simp at hk)
  have HBX := hid (box_any _ _ wS HPT.out (by simp))
  simp only [boxL, boxS, List.foldl] at HBX
  have HM := hid (fun W => meet_any (min (near ax) (near bx)) (min (near ay) (near by')) (max (near ax) (near bx)) (max (near ay) (near by')) px py px py W)
  have b1' := near_lo ax; have b2' := near_hi ax; have b3' := near_lo ay; have b4' := near_hi ay
  have b5' := near_lo bx; have b6' := near_hi bx; have b7' := near_lo by'; have b8' := near_hi by'
  have HM' : Hid (∀ W, Calls Tryz.prog 154 #[pv (min (near ax) (near bx)) (min (near ay) (near by')), pv (max (near ax) (near bx)) (max (near ay) (near by')), pv px py, pv px py] W fun e w' => e = .returned (.bool (inBox (near ax) (near ay) (near bx) (near by') (near px) (near py))) ∧ Below W.heap.size W w') := fun W => by
    have := HM.out W
    rw [near_in (x := min (near ax) (near bx)) (by omega) (by omega), near_in (x := min (near ay) (near by')) (by omega) (by omega), near_in (x := max (near ax) (near bx)) (by omega) (by omega), near_in (x := max (near ay) (near by')) (by omega) (by omega)] at this
    exact this
  clear hA hB hC hBL HM b1' b2' b3' b4' b5' b6' b7' b8'
  generalize inBox (near ax) (near ay) (near bx) (near by') (near px) (near py) = R at *
  generalize min (near ax) (near bx) = LX at *
  generalize min (near ay) (near by') = LY at *
  generalize max (near ax) (near bx) = HX at *
  generalize max (near ay) (near by') = HY at *
  go_enter Tryz.func166, Tryz.ntmps166
  go_wp2_with (first | (go_at_call 119; refine HBX.out.mono ?_; rintro e w1 ⟨rfl, hb1⟩; obtain ⟨wT, hwT⟩ : ∃ wT, w1.alloc (.cells #[.int .i64 LX, .int .i64 LY] 23) = wT := ⟨_, rfl⟩; obtain ⟨wU, hwU⟩ : ∃ wU, wT.alloc (.cells #[.int .i64 HX, .int .i64 HY] 23) = wU := ⟨_, rfl⟩; obtain ⟨h1, h2, h3, h4, h5⟩ := box2 hwT hwU; have hC := ((HCS.out.below hb1 (by omega)).below h3 (by have := hb1.size; omega)); have p0 := h1.c0; have p1 := h1.c1; have q0 := h2.c0; have q1 := h2.c1; have r0 := hC.c0; have r1 := hC.c1; have HU := hid ((HBL.out.trans (hb1.mono HBL.out.size)).trans (h3.mono (Nat.le_trans HBL.out.size hb1.size))); clear h1 h2 h3 hC hb1) | (go_at_call 154; refine (HM'.out wU).mono ?_; rintro e w2 ⟨rfl, hb2⟩; have HB2 := hid (HU.out.trans (hb2.mono HU.out.size)); clear hb2))
  go_ret
  exact ⟨rfl, HB2.out⟩


/-- Is p on the segment from a to b? -/
def onP (ax ay bx by' px py : Int) : Bool := (area ax ay bx by' px py == 0) && inBox ax ay bx by' px py
theorem sgn_zero {t : Int} : (sgn t == 0) = (t == 0) := by
  rw [Bool.eq_iff_iff, beq_iff_eq, beq_iff_eq]
  unfold sgn
  split
  · omega
  · split <;> omega


theorem on_any (ax ay bx by' px py : Int) (w : World) :
    Calls Tryz.prog 141 #[pv ax ay, pv bx by', pv px py] w fun e w' => e = .returned (.bool (onP (near ax) (near ay) (near bx) (near by') (near px) (near py))) ∧ Below w.heap.size w w' := by
  obtain ⟨wA, hwA⟩ : ∃ wA, w.alloc (.cells #[.int .i64 ax, .int .i64 ay] 23) = wA := ⟨_, rfl⟩
  obtain ⟨wB, hwB⟩ : ∃ wB, wA.alloc (.cells #[.int .i64 bx, .int .i64 by'] 23) = wB := ⟨_, rfl⟩
  obtain ⟨wC, hwC⟩ : ∃ wC, wB.alloc (.cells #[.int .i64 px, .int .i64 py] 23) = wC := ⟨_, rfl⟩
  obtain ⟨hA, hB, hC, hBL, hszC, hszA, hszB⟩ := box3 hwA hwB hwC
  have HBL := hid hBL
  have HA := hid hA
  have HB := hid hB
  have HC := hid hC
  have a0 := hA.c0; have a1 := hA.c1; have b0 := hB.c0; have b1 := hB.c1; have c0 := hC.c0; have c1 := hC.c1
  have HT := hid (turn_any ax ay bx by' px py wC)
  have HI := hid (fun W => inBoxOf_any ax ay bx by' px py W)
  have hon : onP (near ax) (near ay) (near bx) (near by') (near px) (near py) = ((sgn (area (near ax) (near ay) (near bx) (near by') (near px) (near py)) == 0) && inBox (near ax) (near ay) (near bx) (near by') (near px) (near py)) := by rw [sgn_zero]; rfl
  generalize onP (near ax) (near ay) (near bx) (near by') (near px) (near py) = R at *
  generalize sgn (area (near ax) (near ay) (near bx) (near by') (near px) (near py)) = S at *
  generalize inBox (near ax) (near ay) (near bx) (near by') (near px) (near py) = I at *
  clear hA hB hC hBL
  cases hS : (S == 0) with
  | true =>
    rw [hS, Bool.true_and] at hon
    subst hon
    go_enter Tryz.func141, Tryz.ntmps141
    go_wp2_with (first | (go_at_call 165; refine HT.out.mono ?_; rintro e w1 ⟨rfl, hb1⟩; have p0 := (HA.out.below hb1 (by omega)).c0; have p1 := (HA.out.below hb1 (by omega)).c1; have q0 := (HB.out.below hb1 (by omega)).c0; have q1 := (HB.out.below hb1 (by omega)).c1; have r0 := (HC.out.below hb1 (by omega)).c0; have r1 := (HC.out.below hb1 (by omega)).c1; have HB1 := hid (HBL.out.trans (hb1.mono HBL.out.size)); clear hb1) | (go_at_call 166; refine (HI.out w1).mono ?_; rintro e w2 ⟨rfl, hb2⟩; have HB2 := hid (HB1.out.trans (hb2.mono HB1.out.size)); clear hb2))
    go_ret
    exact ⟨rfl, HB2.out⟩
  | false =>
    rw [hS, Bool.false_and] at hon
    subst hon
    go_enter Tryz.func141, Tryz.ntmps141
    go_wp2_with (first | (go_at_call 165; refine HT.out.mono ?_; rintro e w1 ⟨rfl, hb1⟩; have HB1 := hid (HBL.out.trans (hb1.mono HBL.out.size)); clear hb1))
    go_ret
    exact ⟨rfl, HB1.out⟩


/-- On it, and no end of it? -/
def withinP (ax ay bx by' px py : Int) : Bool := onP ax ay bx by' px py && !(px == ax && py == ay) && !(px == bx && py == by')






























































































































































































































































end Go.Proofs.YtkdnkmheidbfdaaGreat

namespace Go.Proofs.YtkdnkmheidbfdaaGreat

/-- Are two points the same? -/
def eqp (a b : Pp) : Bool := a.1 == b.1 && a.2 == b.2
def on2 (a b p : Pp) : Bool := onP a.1 a.2 b.1 b.2 p.1 p.2
def tr2 (a b c : Pp) : Int := sgn (area a.1 a.2 b.1 b.2 c.1 c.2)
/-- Each one's ends lie strictly on both sides of the other. -/
def crs (a b c d : Pp) : Bool := !eqp a b && !eqp c d && decide (tr2 a b c * tr2 a b d < 0) && decide (tr2 c d a * tr2 c d b < 0)
/-- Relate, of which ends are on the other one, which are alike, and whether they cross. -/
def relB (sa sb sc sd ab ac ad bc bd cd x : Bool) : Int :=
  match (sa.toNat + (sb && !(sa && ab)).toNat + (sc && !(sa && ac) && !(sb && bc)).toNat + (sd && !(sa && ad) && !(sb && bd) && !(sc && cd)).toNat) with
  | 0 => if x then 3 else 0
  | 1 => if sa then (if ac || ad then 1 else 2) else if sb then (if bc || bd then 1 else 2) else if sc then (if ac || bc then 1 else 2) else (if ad || bd then 1 else 2)
  | _ => 4
def relP (a b c d : Pp) : Int := relB (on2 c d a) (on2 c d b) (on2 a b c) (on2 a b d) (eqp a b) (eqp a c) (eqp a d) (eqp b c) (eqp b d) (eqp c d) (crs a b c d)

theorem eqp_iff {a b : Pp} : eqp a b = true ↔ a = b := by
  obtain ⟨a1, a2⟩ := a
  obtain ⟨b1, b2⟩ := b
  simp [eqp]
theorem eqp_comm (a b : Pp) : eqp b a = eqp a b := by
  rw [Bool.eq_iff_iff, eqp_iff, eqp_iff]
  exact ⟨Eq.symm, Eq.symm⟩
theorem eqp_self (a : Pp) : eqp a a = true := eqp_iff.2 rfl
theorem area_aba (ax ay bx by' : Int) : area ax ay bx by' ax ay = 0 := by unfold area; simp
theorem area_abb (ax ay bx by' : Int) : area ax ay bx by' bx by' = 0 := by
  unfold area
  rw [Int.mul_comm (bx - ax)]
  omega
theorem on_left (a b : Pp) : on2 a b a = true := by
  unfold on2 onP inBox
  rw [area_aba, ovl_true (by omega), ovl_true (by omega)]
  rfl
theorem on_right (a b : Pp) : on2 a b b = true := by
  unfold on2 onP inBox
  rw [area_abb, ovl_true (by omega), ovl_true (by omega)]
  rfl
theorem area_ab (ax ay bx by' cx cy : Int) : area bx by' ax ay cx cy = -area ax ay bx by' cx cy := by
  unfold area
  rw [Int.sub_mul, Int.sub_mul, Int.sub_mul, Int.sub_mul, Int.mul_sub, Int.mul_sub, Int.mul_sub, Int.mul_sub, Int.mul_sub, Int.mul_sub, Int.mul_sub, Int.mul_sub, Int.mul_comm ax by', Int.mul_comm ay bx, Int.mul_comm by' ax, Int.mul_comm bx ay]
  have e1 := Int.mul_comm ay ax
  have e2 := Int.mul_comm by' bx
  omega
theorem on_ab (a b p : Pp) : on2 b a p = on2 a b p := by
  unfold on2 onP inBox
  rw [area_ab, Int.min_comm b.1, Int.max_comm b.1, Int.min_comm b.2, Int.max_comm b.2]
  congr 1
  rw [Bool.eq_iff_iff, beq_iff_eq, beq_iff_eq]
  omega
theorem tr_ab (a b p : Pp) : tr2 b a p = -tr2 a b p := by unfold tr2; rw [area_ab, sgn_neg]
theorem crs_ab (a b c d : Pp) : crs b a c d = crs a b c d := by
  unfold crs
  rw [eqp_comm, tr_ab, tr_ab a b d, Int.neg_mul_neg, Int.mul_comm (tr2 c d b)]
theorem crs_cd (a b c d : Pp) : crs c d a b = crs a b c d := by
  unfold crs
  cases eqp a b <;> cases eqp c d <;> simp [Bool.and_comm]

/-- What stands of the ends and of which are alike. -/
def flagsOk (sa sb sc sd ab ac ad bc bd cd : Bool) : Bool :=
  (!ab || (sa == sb && ac == bc && ad == bd)) && (!cd || (sc == sd && ac == ad && bc == bd)) && (!ac || (sa && sc && ab == bc && ad == cd)) && (!ad || (sa && sd && ab == bd && ac == cd)) && (!bc || (sb && sc && ab == ac && bd == cd)) && (!bd || (sb && sd && ab == ad && bc == cd))
theorem flags_ok (a b c d : Pp) : flagsOk (on2 c d a) (on2 c d b) (on2 a b c) (on2 a b d) (eqp a b) (eqp a c) (eqp a d) (eqp b c) (eqp b d) (eqp c d) = true := by
  unfold flagsOk
  simp only [Bool.and_eq_true]
  refine ⟨⟨⟨⟨⟨?_, ?_⟩, ?_⟩, ?_⟩, ?_⟩, ?_⟩
  · cases h : eqp a b with
    | false => rfl
    | true => rw [eqp_iff] at h; subst h; simp
  · cases h : eqp c d with
    | false => rfl
    | true => rw [eqp_iff] at h; subst h; simp
  · cases h : eqp a c with
    | false => rfl
    | true => rw [eqp_iff] at h; subst h; simp [on_left, eqp_comm a b]
  · cases h : eqp a d with
    | false => rfl
    | true => rw [eqp_iff] at h; subst h; simp [on_left, on_right, eqp_comm a b, eqp_comm a c]
  · cases h : eqp b c with
    | false => rfl
    | true => rw [eqp_iff] at h; subst h; simp [on_left, on_right]
  · cases h : eqp b d with
    | false => rfl
    | true => rw [eqp_iff] at h; subst h; simp [on_right, eqp_comm b c]
theorem relB_ab : ∀ sa sb sc sd ab ac ad bc bd cd x : Bool, flagsOk sa sb sc sd ab ac ad bc bd cd = true → relB sb sa sc sd ab bc bd ac ad cd x = relB sa sb sc sd ab ac ad bc bd cd x := by decide +kernel
theorem relB_cd : ∀ sa sb sc sd ab ac ad bc bd cd x : Bool, flagsOk sa sb sc sd ab ac ad bc bd cd = true → relB sc sd sa sb cd ac bc ad bd ab x = relB sa sb sc sd ab ac ad bc bd cd x := by decide +kernel
/-- Whichever way the segments are told. -/
theorem relP_ab (a b c d : Pp) : relP b a c d = relP a b c d := by
  unfold relP
  rw [on_ab a b c, on_ab a b d, eqp_comm a b, crs_ab]
  exact relB_ab _ _ _ _ _ _ _ _ _ _ _ (flags_ok a b c d)
theorem relP_cd (a b c d : Pp) : relP c d a b = relP a b c d := by
  unfold relP
  rw [crs_cd, eqp_comm a c, eqp_comm b c, eqp_comm a d, eqp_comm b d]
  exact relB_cd _ _ _ _ _ _ _ _ _ _ _ (flags_ok a b c d)
theorem relB_three : ∀ sa sb sc sd ab ac ad bc bd cd x : Bool, relB sa sb sc sd ab ac ad bc bd cd x = 3 → x = true := by decide +kernel

/-- A map that keeps what is on what, which points are alike, and turns all turns alike. -/
theorem relP_map {f : Pp → Pp} (ho : ∀ a b p, on2 (f a) (f b) (f p) = on2 a b p) (he : ∀ a b, eqp (f a) (f b) = eqp a b) (s : Int) (hs : s * s = 1) (ht : ∀ a b p, tr2 (f a) (f b) (f p) = s * tr2 a b p) (a b c d : Pp) : relP (f a) (f b) (f c) (f d) = relP a b c d := by
  have hm : ∀ x y : Int, s * x * (s * y) = x * y := fun x y => by
    rw [show s * x * (s * y) = s * s * (x * y) by ac_rfl, hs, Int.one_mul]
  unfold relP crs
  simp only [ho, he, ht, hm]

theorem on_move (x y : Int) (a b p : Pp) : on2 (a.1 + x, a.2 + y) (b.1 + x, b.2 + y) (p.1 + x, p.2 + y) = on2 a b p := by
  unfold on2 onP
  dsimp only
  have e : area (a.1 + x) (a.2 + y) (b.1 + x) (b.2 + y) (p.1 + x) (p.2 + y) = area a.1 a.2 b.1 b.2 p.1 p.2 := by
    unfold area
    rw [show b.1 + x - (a.1 + x) = b.1 - a.1 by omega, show p.2 + y - (a.2 + y) = p.2 - a.2 by omega, show b.2 + y - (a.2 + y) = b.2 - a.2 by omega, show p.1 + x - (a.1 + x) = p.1 - a.1 by omega]
  rw [e]
  congr 1
  unfold inBox ovl
  congr 1
  · rw [Bool.eq_iff_iff]; simp only [Bool.and_eq_true, decide_eq_true_eq]; omega
  · rw [Bool.eq_iff_iff]; simp only [Bool.and_eq_true, decide_eq_true_eq]; omega
theorem on_mirror (a b p : Pp) : on2 (a.2, a.1) (b.2, b.1) (p.2, p.1) = on2 a b p := by
  unfold on2 onP
  dsimp only
  have e : area a.2 a.1 b.2 b.1 p.2 p.1 = -area a.1 a.2 b.1 b.2 p.1 p.2 := by unfold area; omega
  rw [e]
  congr 1
  · rw [Bool.eq_iff_iff, beq_iff_eq, beq_iff_eq]; omega
  · unfold inBox; exact Bool.and_comm _ _
theorem area_qt (ax ay bx by' cx cy : Int) : area (-ay) ax (-by') bx (-cy) cx = area ax ay bx by' cx cy := by
  unfold area
  rw [show -by' - -ay = -(by' - ay) by omega, show -cy - -ay = -(cy - ay) by omega, Int.neg_mul, Int.mul_neg]
  omega
theorem on_quarter (a b p : Pp) : on2 (-a.2, a.1) (-b.2, b.1) (-p.2, p.1) = on2 a b p := by
  unfold on2 onP
  dsimp only
  rw [area_qt]
  congr 1
  unfold inBox
  rw [Bool.and_comm]
  congr 1
  unfold ovl
  rw [Bool.eq_iff_iff]
  simp only [Bool.and_eq_true, decide_eq_true_eq]
  omega
theorem relP_move (x y : Int) (a b c d : Pp) : relP (a.1 + x, a.2 + y) (b.1 + x, b.2 + y) (c.1 + x, c.2 + y) (d.1 + x, d.2 + y) = relP a b c d :=
  relP_map (f := fun p => (p.1 + x, p.2 + y)) (on_move x y) (fun a b => by rw [Bool.eq_iff_iff]; simp only [eqp, Bool.and_eq_true, beq_iff_eq]; omega) 1 rfl (fun a b p => by
    unfold tr2 area
    dsimp only
    rw [show b.1 + x - (a.1 + x) = b.1 - a.1 by omega, show p.2 + y - (a.2 + y) = p.2 - a.2 by omega, show b.2 + y - (a.2 + y) = b.2 - a.2 by omega, show p.1 + x - (a.1 + x) = p.1 - a.1 by omega, Int.one_mul]) a b c d
theorem relP_mirror (a b c d : Pp) : relP (a.2, a.1) (b.2, b.1) (c.2, c.1) (d.2, d.1) = relP a b c d :=
  relP_map (f := fun p => (p.2, p.1)) on_mirror (fun a b => by rw [Bool.eq_iff_iff]; simp only [eqp, Bool.and_eq_true, beq_iff_eq]; omega) (-1) rfl (fun a b p => by
    unfold tr2
    dsimp only
    rw [show area a.2 a.1 b.2 b.1 p.2 p.1 = -area a.1 a.2 b.1 b.2 p.1 p.2 by unfold area; omega, sgn_neg, Int.neg_mul, Int.one_mul]) a b c d
theorem relP_quarter (a b c d : Pp) : relP (-a.2, a.1) (-b.2, b.1) (-c.2, c.1) (-d.2, d.1) = relP a b c d :=
  relP_map (f := fun p => (-p.2, p.1)) on_quarter (fun a b => by rw [Bool.eq_iff_iff]; simp only [eqp, Bool.and_eq_true, beq_iff_eq]; omega) 1 rfl (fun a b p => by
    unfold tr2
    dsimp only
    rw [area_qt, Int.one_mul]) a b c d
/-- Does the segment lie across p's height, at the right of p? -/
def rayP (a b p : Pp) : Bool := if decide (p.2 < a.2) == decide (p.2 < b.2) then false else if b.2 < a.2 then decide (0 < tr2 b a p) else decide (0 < tr2 a b p)
theorem rayP_ab (a b p : Pp) : rayP b a p = rayP a b p := by
  by_cases h1 : p.2 < a.2 <;> by_cases h2 : p.2 < b.2
  · simp [rayP, h1, h2]
  · simp [rayP, h1, h2, show b.2 < a.2 by omega, show ¬ a.2 < b.2 by omega]
  · simp [rayP, h1, h2, show a.2 < b.2 by omega, show ¬ b.2 < a.2 by omega]
  · simp [rayP, h1, h2]
end Go.Proofs.YtkdnkmheidbfdaaGreat

namespace Go.Proofs.YtkdnkmheidbfdaaGreat

def shS (a b c d p : Pp) : Bool := on2 a b p && on2 c d p
def shAdd (a b c d : Pp) (l : List Pp) (p : Pp) : List Pp := if shS a b c d p && !(l.any fun q => eqp q p) then l ++ [p] else l
def shL (a b c d : Pp) (ps : List Pp) : List Pp := ps.foldl (shAdd a b c d) []
def relL (a b c d : Pp) (l : List Pp) : Int :=
  match l with
  | [] => if crs a b c d then 3 else 0
  | [p] => if (eqp p a || eqp p b) && (eqp p c || eqp p d) then 1 else 2
  | _ => 4

theorem relL_eq (a b c d : Pp) : relL a b c d (shL a b c d [a, b, c, d]) = relP a b c d := by
  have hf := flags_ok a b c d
  have ea := eqp_self a
  have eb := eqp_self b
  have ec := eqp_self c
  have ed := eqp_self d
  have e1 := eqp_comm a b
  have e2 := eqp_comm a c
  have e3 := eqp_comm a d
  have e4 := eqp_comm b c
  have e5 := eqp_comm b d
  have e6 := eqp_comm c d
  unfold shL relP
  simp only [List.foldl_cons, List.foldl_nil]
  have s1 : shS a b c d a = on2 c d a := by unfold shS; rw [on_left]; rfl
  have s2 : shS a b c d b = on2 c d b := by unfold shS; rw [on_right]; rfl
  have s3 : shS a b c d c = on2 a b c := by unfold shS; rw [on_left]; simp
  have s4 : shS a b c d d = on2 a b d := by unfold shS; rw [on_right]; simp
  generalize on2 c d a = sa at *
  generalize on2 c d b = sb at *
  generalize on2 a b c = sc at *
  generalize on2 a b d = sd at *
  generalize hx : crs a b c d = x
  have hr : ∀ l, relL a b c d l = match l with
      | [] => if x then 3 else 0
      | [p] => if (eqp p a || eqp p b) && (eqp p c || eqp p d) then 1 else 2
      | _ => 4 := fun l => by unfold relL; rw [hx]
  rw [hr]
  clear hr hx
  unfold shAdd
  rw [s1, s2, s3, s4]
  obtain ⟨ab, hab⟩ : ∃ x, eqp a b = x := ⟨_, rfl⟩
  obtain ⟨ac, hac⟩ : ∃ x, eqp a c = x := ⟨_, rfl⟩
  obtain ⟨ad, had⟩ : ∃ x, eqp a d = x := ⟨_, rfl⟩
  obtain ⟨bc, hbc⟩ : ∃ x, eqp b c = x := ⟨_, rfl⟩
  obtain ⟨bd, hbd⟩ : ∃ x, eqp b d = x := ⟨_, rfl⟩
  obtain ⟨cd, hcd⟩ : ∃ x, eqp c d = x := ⟨_, rfl⟩
  rw [hab] at e1 hf
  rw [hac] at e2 hf
  rw [had] at e3 hf
  rw [hbc] at e4 hf
  rw [hbd] at e5 hf
  rw [hcd] at e6 hf
  clear s1 s2 s3 s4
  rw [hab, hac, had, hbc, hbd, hcd]
  cases sa <;> cases sb <;> cases sc <;> cases sd <;> simp [hab, hac, had, hbc, hbd, hcd] <;> (cases ab <;> cases ac <;> cases ad <;> cases bc <;> cases bd <;> cases cd <;> first | (exfalso; revert hf; decide) | (simp [hab, hac, had, hbc, hbd, hcd, ea, eb, ec, ed, e1, e2, e3, e4, e5, e6, relB]; done) | (cases x <;> simp [hab, hac, had, hbc, hbd, hcd, ea, eb, ec, ed, e1, e2, e3, e4, e5, e6, relB]; done))
end Go.Proofs.YtkdnkmheidbfdaaGreat

namespace Go.Proofs.YtkdnkmheidbfdaaGreat
open Go.RowKit Go.Sort

theorem infoPt : (Tryz.prog.info? 23).map (fun i => (i.zero, i.size, i.bytes)) = some (some (.agg #[.int .i64 0, .int .i64 0]), 2, 16) := by kernel_rfl
def ptCells (ps : List Pp) : List Value := ps.flatMap fun p => [Value.int .i64 p.1, .int .i64 p.2]
def PtRow (W : World) (base : Nat) (v : Value) (ps : List Pp) : Prop := W.ownsRow base 23 2 v ps.length (ptCells ps)
theorem ptCells_app (a b : List Pp) : ptCells (a ++ b) = ptCells a ++ ptCells b := by simp [ptCells]
theorem ptCells_at : ∀ (ps : List Pp) (k : Nat) (p : Pp), ps[k]? = some p → (ptCells ps)[k * 2]? = some (.int .i64 p.1) ∧ (ptCells ps)[k * 2 + 1]? = some (.int .i64 p.2)
  | [], k, p, h => by simp at h
  | q :: ps, 0, p, h => by
    simp at h
    subst h
    exact ⟨rfl, rfl⟩
  | q :: ps, k + 1, p, h => by
    have h' := ptCells_at ps k p (by simpa using h)
    have e : ptCells (q :: ps) = .int .i64 q.1 :: .int .i64 q.2 :: ptCells ps := rfl
    rw [e, show (k + 1) * 2 = k * 2 + 1 + 1 by omega]
    exact ⟨by simpa using h'.1, by simpa using h'.2⟩
theorem PtRow.below {w w' : World} {base : Nat} {v : Value} {ps : List Pp} (h : PtRow w base v ps) (hb : Below w.heap.size w w') : PtRow w' base v ps := by
  refine ⟨h.1, ?_⟩
  rcases h.2 with h0 | ⟨g, cap, cur, h1, h2, h3, h4⟩
  · exact .inl h0
  · exact .inr ⟨g, cap, cur, h1, h2, (hb.block g (lt_of_heap h3)).trans h3, h4⟩
theorem PtRow.form {w : World} {base : Nat} {v : Value} {ps : List Pp} (h : PtRow w base v ps) : ∃ ao cap, v = .slice ao ps.length cap := by
  rcases h.2 with ⟨rfl, h0⟩ | ⟨g, cap, cur, rfl, _⟩
  · exact ⟨none, 0, by rw [h0]⟩
  · exact ⟨_, cap, rfl⟩
theorem PtRow.at {w : World} {base : Nat} {ao : Option Addr} {n cap : Nat} {ps : List Pp} (h : PtRow w base (.slice ao n cap) ps) {k : Nat} {p : Pp} (hk : ps[k]? = some p) : ∃ g, ao = some ⟨g, 0, none⟩ ∧ w.cell? ⟨g, k * 2, none⟩ = some (.int .i64 p.1) ∧ w.cell? ⟨g, k * 2 + 1, none⟩ = some (.int .i64 p.2) := by
  have hlt := (List.getElem?_eq_some_iff.1 hk).1
  rcases h.2 with ⟨e, h0⟩ | ⟨g, cap', cur, e, _⟩
  · omega
  · injection e with e1 e2 e3
    subst e1 e2
    have h' : w.ownsRow base 23 2 (.slice (some ⟨g, 0, none⟩) ps.length cap) ps.length (ptCells ps) := h
    obtain ⟨c0, c1⟩ := ptCells_at ps k p hk
    exact ⟨g, rfl, (h'.cellAt (k * 2) (by omega)).trans c0, (h'.cellAt (k * 2 + 1) (by omega)).trans c1⟩
theorem PtRow.snoc {w : World} {base : Nat} {v : Value} {ps : List Pp} (h : PtRow w base v ps) (hb : base ≤ w.heap.size) (hl : ps.length ≤ 1000000) (p : Pp) :
    ∃ ao cap w', (Builtin.append_ #[27, 27] 27 #[v, .slice (some ⟨w.heap.size, 0, none⟩) 1 1]).run Tryz.prog (w.alloc (.cells #[.int .i64 p.1, .int .i64 p.2] 23)) = .ok (.slice ao (ps.length + 1) cap) w' ∧
      PtRow w' base (.slice ao (ps.length + 1) cap) (ps ++ [p]) ∧ Below base w w' := by
  obtain ⟨i0, hi, hz0, hz1, hz2⟩ := info_parts infoPt
  obtain ⟨wA, hwA⟩ : ∃ wA, wA = w.alloc (.cells #[.int .i64 p.1, .int .i64 p.2] 23) := ⟨_, rfl⟩
  have hbA : Below w.heap.size w wA := by rw [hwA]; exact (Below.refl _ _).alloc (Nat.le_refl _) _
  have hP : Pt wA w.heap.size p.1 p.2 := by rw [hwA]; exact Pt.new w p.1 p.2
  have h2 := h.below hbA
  obtain ⟨v', w', hrun, r1, r2, _⟩ := run_append_own (P := Tryz.prog) wA base 27 27 23 i0 _ 2 16 Tryz.underlying27 hi hz0 hz1 hz2 rfl (by decide) v ps.length _ h2 ⟨w.heap.size, 0, none⟩ 1 1 [.int .i64 p.1, .int .i64 p.2] rfl
    (fun j u hj => by
      match j, hj with
      | 0, hj => simp at hj; subst hj; exact hP.c0
      | 1, hj => simp at hj; subst hj; exact hP.c1
      | j + 2, hj => simp at hj) (by intro u hu'; simp at hu'; rcases hu' with rfl | rfl <;> rfl) (by unfold maxLen; omega) (by omega) (by rw [hwA]; simp; omega)
  obtain ⟨ao, cap, rfl⟩ : ∃ ao cap, v' = .slice ao (ps.length + 1) cap := by
    rcases r1.2 with ⟨rfl, h0⟩ | ⟨g, cap, cur, rfl, _, _, hc, _⟩
    · omega
    · exact ⟨_, cap, rfl⟩
  rw [← hwA]
  refine ⟨ao, cap, w', hrun, ?_, ?_⟩
  · unfold PtRow
    rw [ptCells_app, List.length_append]
    exact r1
  · refine (hbA.mono hb).grown r2 (Nat.le_trans hb hbA.size) (fun k e => ?_)
    rcases h.2 with ⟨rfl, _⟩ | ⟨g, cap', cur, rfl, hg, _⟩
    · cases e
    · cases e
      exact hg

theorem wpList_append_run {P : Program} {ops : Array Oper} {rest : List Oper} {o : Oper} {a : Act} {w w' : World} {Q : Exit → Act → World → Prop} (hg : o.guard = none) (s x : Operand) (t : TypeId) (hop : o.op = Op.call { callee := Callee.builtin Builtin.append, args := #[s, x], argTypes := #[t, t] }) {v u v' : Value} (hs : a.eval s = v) (hx : a.eval x = u)
    (hrun : (Builtin.append_ #[t, t] o.type #[v, u]).run P w = .ok v' w') (hK : wpList P ops Q rest (a.put o.dst v') w') : wpList P ops Q (o :: rest) a w :=
  wpList_plain hg fun K hK' => by
    unfold Oper.wp
    rw [show (execOp a.eval o).run P w = .ok (.value v') w' by simp [execOp, hop, resolve, invoke, builtin, hs, hx, hrun, Result.andThen]]
    exact hK' _ _ hK
end Go.Proofs.YtkdnkmheidbfdaaGreat

namespace Go.Proofs.YtkdnkmheidbfdaaGreat
open Go.RowKit Go.Sort

/-- Is it one of the grid? -/
def okP (x y : Int) : Bool := x == near x && y == near y
theorem okP_iff (x y : Int) : okP x y = (decide (-1048576 ≤ x) && decide (x ≤ 1048576) && decide (-1048576 ≤ y) && decide (y ≤ 1048576)) := by
  rw [Bool.eq_iff_iff]
  simp only [okP, Bool.and_eq_true, beq_iff_eq, decide_eq_true_eq]
  have h1 : x = near x ↔ (-1048576 ≤ x ∧ x ≤ 1048576) := by
    unfold near
    split
    · omega
    · split <;> omega
  have h2 : y = near y ↔ (-1048576 ≤ y ∧ y ≤ 1048576) := by
    unfold near
    split
    · omega
    · split <;> omega
  rw [h1, h2, and_assoc, and_assoc, and_assoc]


theorem ok_any (px py : Int) (w : World) :
    Calls Tryz.prog 11 #[pv px py] w fun e w' => e = .returned (.bool (okP px py)) ∧ Below w.heap.size w w' := by
  obtain ⟨wA, hwA⟩ : ∃ wA, w.alloc (.cells #[.int .i64 px, .int .i64 py] 23) = wA := ⟨_, rfl⟩
  obtain ⟨hA, hBL, hszA⟩ := box1 hwA
  have HBL := hid hBL
  have ka0 := cell_regrown hA.c0
  have ka1 := cell_regrown hA.c1
  have ca := fun d os => held_any px py (grow (redrawn wA d) os)
  have hw : okP px py = (px == near px && py == near py) := rfl
  generalize okP px py = R at *
  generalize near px = NX at *
  generalize near py = NY at *
  have HW := hid hw
  clear hA hBL hw
  by_cases eX : NX = px
  · by_cases eY : NY = py
    · go_enter Tryz.func11, Tryz.ntmps11
      go_wp2
      refine wp_region_quiet_below (by kernel_rfl) (by kernel_rfl) ?_
      go_big_quiet_step (fail)
      go_big_quiet_step (fail)
      go_big_quiet_step (exact Calls.regrown_of (ca _ _))
      go_big_quiet_step (fail)
      go_big_quiet_step (fail)
      refine wpQuiet_nil ?_
      intro W hW'
      obtain ⟨⟨dq, osq⟩, hW⟩ := hW'
      have HB1 := hid (show Below wA.heap.size wA W by rw [hW]; exact below_regrown _ _ _)
      clear hW ka0 ka1 ca
      go_wp2
      go_ret
      exact ⟨by rw [HW.out]; first | (simp [*]; done) | (simp [*]; omega), HBL.out.trans (HB1.out.mono HBL.out.size)⟩
    · have fY : (py == NY) = false := beq_eq_false_iff_ne.2 (fun h => eY h.symm)
      go_enter Tryz.func11, Tryz.ntmps11
      go_wp2
      refine wp_region_quiet_below (by kernel_rfl) (by kernel_rfl) ?_
      go_big_quiet_step (fail)
      go_big_quiet_step (fail)
      go_big_quiet_step (exact Calls.regrown_of (ca _ _))
      go_big_quiet_step (fail)
      go_big_quiet_step (fail)
      refine wpQuiet_nil ?_
      intro W hW'
      obtain ⟨⟨dq, osq⟩, hW⟩ := hW'
      have HB1 := hid (show Below wA.heap.size wA W by rw [hW]; exact below_regrown _ _ _)
      clear hW ka0 ka1 ca
      go_wp2
      go_ret
      exact ⟨by rw [HW.out]; first | (simp [*]; done) | (simp [*]; omega), HBL.out.trans (HB1.out.mono HBL.out.size)⟩
  · have fX : (px == NX) = false := beq_eq_false_iff_ne.2 (fun h => eX h.symm)
    go_enter Tryz.func11, Tryz.ntmps11
    go_wp2
    refine wp_region_quiet_below (by kernel_rfl) (by kernel_rfl) ?_
    go_big_quiet_step (fail)
    go_big_quiet_step (fail)
    go_big_quiet_step (exact Calls.regrown_of (ca _ _))
    go_big_quiet_step (fail)
    go_big_quiet_step (fail)
    refine wpQuiet_nil ?_
    intro W hW'
    obtain ⟨⟨dq, osq⟩, hW⟩ := hW'
    have HB1 := hid (show Below wA.heap.size wA W by rw [hW]; exact below_regrown _ _ _)
    clear hW ka0 ka1 ca
    go_wp2
    go_ret
    exact ⟨by rw [HW.out]; first | (simp [*]; done) | (simp [*]; omega), HBL.out.trans (HB1.out.mono HBL.out.size)⟩


/-- By X, then by Y. -/
def lessP (ax ay bx by' : Int) : Bool := decide (ax < bx) || (ax == bx && decide (ay < by'))

























































end Go.Proofs.YtkdnkmheidbfdaaGreat

namespace Go.Proofs.YtkdnkmheidbfdaaGreat
open Go.RowKit Go.Sort


































end Go.Proofs.YtkdnkmheidbfdaaGreat

namespace Go.Proofs.YtkdnkmheidbfdaaGreat
open Go.RowKit Go.Sort







/-- Does a number lie between two, or is it one? -/
def btw (x a b : Int) : Bool := decide (min a b ≤ x) && decide (x ≤ max a b)






end Go.Proofs.YtkdnkmheidbfdaaGreat

namespace Go.Proofs.YtkdnkmheidbfdaaGreat
open Go.RowKit Go.Sort

universe u
theorem ite2_yes {a b c d : Int} (h : (a == b && c == d) = true) {α : Sort u} (x y : α) : (if a = b then if c = d then x else y else y) = x := by
  simp at h
  rw [if_pos h.1, if_pos h.2]
theorem ite2_no {a b c d : Int} (h : (a == b && c == d) = false) {α : Sort u} (x y : α) : (if a = b then if c = d then x else y else y) = y := by
  by_cases h1 : a = b
  · by_cases h2 : c = d
    · simp [h1, h2] at h
    · rw [if_pos h1, if_neg h2]
  · rw [if_neg h1]
theorem shL_succ {a b c d : Pp} {ps : List Pp} {k : Nat} {p : Pp} (h : ps[k]? = some p) : shL a b c d (ps.take (k + 1)) = shAdd a b c d (shL a b c d (ps.take k)) p := by
  unfold shL
  rw [List.take_add_one, h]
  simp
theorem any_succ {l : List Pp} {f : Pp → Bool} {k : Nat} {q : Pp} (h : l[k]? = some q) : (l.take (k + 1)).any f = ((l.take k).any f || f q) := by
  rw [List.take_add_one, h]
  simp
theorem shL_len (a b c d : Pp) (ps : List Pp) : (shL a b c d ps).length ≤ ps.length := by
  have : ∀ (ps l : List Pp), (ps.foldl (shAdd a b c d) l).length ≤ l.length + ps.length := by
    intro ps
    induction ps with
    | nil => intro l; simp
    | cons p ps ih =>
      intro l
      rw [List.foldl_cons]
      have h1 := ih (shAdd a b c d l p)
      have h2 : (shAdd a b c d l p).length ≤ l.length + 1 := by unfold shAdd; split <;> simp
      simp only [List.length_cons]
      omega
  simpa [shL] using this ps []




















































































































































































































































































































































































































































































































































































































































































































































































































end Go.Proofs.YtkdnkmheidbfdaaGreat

namespace Go.Proofs.YtkdnkmheidbfdaaGreat
open Go.RowKit Go.Sort

theorem sgn_in (t : Int) : sgn t = -1 ∨ sgn t = 0 ∨ sgn t = 1 := by unfold sgn; split <;> (try split) <;> simp
theorem tr_mul (a b c d e f : Pp) : -1 ≤ tr2 a b c * tr2 d e f ∧ tr2 a b c * tr2 d e f ≤ 1 := by
  unfold tr2
  rcases sgn_in (area a.1 a.2 b.1 b.2 c.1 c.2) with h | h | h <;> rcases sgn_in (area d.1 d.2 e.1 e.2 f.1 f.2) with g | g | g <;> rw [h, g] <;> decide





































/-- The end that two segments share. -/
def shdP (a b c d : Pp) : Pp × Bool := if relP a b c d = 1 then (if eqp a c || eqp a d then a else b, true) else ((0, 0), false)






































































































































































end Go.Proofs.YtkdnkmheidbfdaaGreat

namespace Go.Proofs.YtkdnkmheidbfdaaGreat

/-- The point that a call takes for p. -/
def clP (p : Pp) : Pp := (near p.1, near p.2)
def lpt (ps : List Pp) (i : Nat) : Pp := ps.getD i (0, 0)
/-- How two segments of two lines stand. -/
def sgR (ps qs : List Pp) (i k : Nat) : Int := relP (clP (lpt ps i)) (clP (lpt ps (i + 1))) (clP (lpt qs k)) (clP (lpt qs (k + 1)))
def closedL (ps : List Pp) : Bool := decide (3 ≤ ps.length) && eqp (clP (lpt ps 0)) (clP (lpt ps (ps.length - 1)))
def wantL (ps : List Pp) (i k : Nat) : Int := if k = i + 1 ∨ (i = 0 ∧ k + 1 = ps.length - 1 ∧ 2 < ps.length - 1 ∧ closedL ps = true) then 1 else 0
def stepsL (ps : List Pp) : Bool := (List.range (ps.length - 1)).all fun i => !eqp (clP (lpt ps i)) (clP (lpt ps (i + 1)))
def pairsL (ps : List Pp) : Bool := (List.range (ps.length - 1)).all fun i => (List.range (ps.length - 1)).all fun k => decide (k ≤ i) || sgR ps ps i k == wantL ps i k
def simpleL (ps : List Pp) : Bool := stepsL ps && pairsL ps
def gridL (ps : List Pp) : Bool := ps.all fun p => okP p.1 p.2
def okL (ps : List Pp) : Bool := decide (2 ≤ ps.length) && decide (ps.length ≤ 64) && gridL ps && simpleL ps
def joinL (a b : List Pp) : List Pp := if 0 < a.length ∧ 0 < b.length ∧ lpt a (a.length - 1) = lpt b 0 then a ++ b.drop 1 else a ++ b
def onL (ps : List Pp) (p : Pp) (i : Nat) : Bool := on2 (clP (lpt ps i)) (clP (lpt ps (i + 1))) (clP p)
def atL (ps : List Pp) (p : Pp) : Option Nat := (List.range (ps.length - 1)).find? (onL ps p)
def endL (ps : List Pp) (p : Pp) : Bool := eqp (lpt ps 0) p || eqp (lpt ps (ps.length - 1)) p
def splitL (ps : List Pp) (p : Pp) : (List Pp × List Pp) × Bool :=
  match atL ps p with
  | none => (([], []), false)
  | some k => if endL ps p then (([], []), false) else ((ps.take (k + 1) ++ [p], if lpt ps (k + 1) = p then ps.drop (k + 1) else p :: ps.drop (k + 1)), true)
def shdL (ps qs : List Pp) (i k : Nat) : Pp := (shdP (clP (lpt ps i)) (clP (lpt ps (i + 1))) (clP (lpt qs k)) (clP (lpt qs (k + 1)))).1
def meetL (a b : List Pp) (i k : Nat) : Bool := sgR a b i k == 0 || (sgR a b i k == 1 && endL a (shdL a b i k) && endL b (shdL a b i k))
def apartL (a b : List Pp) : Bool := (List.range (a.length - 1)).all fun i => (List.range (b.length - 1)).all fun k => meetL a b i k

theorem lpt_at {ps : List Pp} {i : Nat} {p : Pp} (h : ps[i]? = some p) : lpt ps i = p := by
  unfold lpt
  rw [List.getD_eq_getElem?_getD, h]
  rfl
theorem at_lpt {ps : List Pp} {i : Nat} (h : i < ps.length) : ps[i]? = some (lpt ps i) := by
  unfold lpt
  rw [List.getD_eq_getElem?_getD, List.getElem?_eq_getElem h]
  rfl
theorem all_range_succ (f : Nat → Bool) (k : Nat) : (List.range (k + 1)).all f = ((List.range k).all f && f k) := by
  rw [List.range_succ, List.all_append]
  simp
/-- A test that all pass up to n, as far as k. -/
theorem all_range_false {f : Nat → Bool} {k n : Nat} (h : k < n) (hf : f k = false) : (List.range n).all f = false := by
  rw [List.all_eq_false]
  exact ⟨k, List.mem_range.2 h, by rw [hf]; simp⟩
theorem clP_clP (p : Pp) : clP (clP p) = clP p := by unfold clP; rw [near_near, near_near]
/-- Points of the grid. -/
def Gl (ps : List Pp) : Prop := ∀ p ∈ ps, clP p = p
theorem gl_map (ps : List Pp) : Gl (ps.map clP) := fun p hp => by
  obtain ⟨q, _, rfl⟩ := List.mem_map.1 hp
  exact clP_clP q
theorem Gl.rev {ps : List Pp} (h : Gl ps) : Gl ps.reverse := fun p hp => h p (List.mem_reverse.1 hp)
theorem Gl.p64 {ps : List Pp} (h : Gl ps) : ∀ p ∈ ps, P64 p := fun p hp => by
  have e := h p hp
  have e1 : near p.1 = p.1 := congrArg Prod.fst e
  have e2 : near p.2 = p.2 := congrArg Prod.snd e
  have := near_lo p.1; have := near_hi p.1; have := near_lo p.2; have := near_hi p.2
  exact ⟨⟨by omega, by omega⟩, ⟨by omega, by omega⟩⟩
/-- A slice that was laid behind all that was there. -/
def Newer (base : Nat) (v : Value) : Prop := ∀ a n c, v = .slice (some a) n c → base ≤ a.block
end Go.Proofs.YtkdnkmheidbfdaaGreat

namespace Go.Proofs.YtkdnkmheidbfdaaGreat

/-- A point that is on the segment from c to d does not lie strictly at one side with both. -/
theorem side_lin (a b c d p : Pp) : (d.1 - c.1) * area a.1 a.2 b.1 b.2 p.1 p.2 = (d.1 - p.1) * area a.1 a.2 b.1 b.2 c.1 c.2 + (p.1 - c.1) * area a.1 a.2 b.1 b.2 d.1 d.2 + (b.1 - a.1) * area c.1 c.2 d.1 d.2 p.1 p.2 := by
  unfold area
  grind
theorem side_linY (a b c d p : Pp) : (d.2 - c.2) * area a.1 a.2 b.1 b.2 p.1 p.2 = (d.2 - p.2) * area a.1 a.2 b.1 b.2 c.1 c.2 + (p.2 - c.2) * area a.1 a.2 b.1 b.2 d.1 d.2 + (b.2 - a.2) * area c.1 c.2 d.1 d.2 p.1 p.2 := by
  unfold area
  grind
theorem sgn_pos {t : Int} : sgn t = 1 ↔ 0 < t := by unfold sgn; split <;> (try split) <;> omega
theorem sgn_lt {t : Int} : sgn t = -1 ↔ t < 0 := by unfold sgn; split <;> (try split) <;> omega
theorem sgn_nought {t : Int} : sgn t = 0 ↔ t = 0 := by unfold sgn; split <;> (try split) <;> omega
theorem sgn_mul {s t : Int} (h : 0 < sgn s * sgn t) : (0 < s ∧ 0 < t) ∨ (s < 0 ∧ t < 0) := by
  rcases (show s < 0 ∨ s = 0 ∨ 0 < s by omega) with hs | hs | hs
  · rcases (show t < 0 ∨ t = 0 ∨ 0 < t by omega) with ht | ht | ht
    · exact .inr ⟨hs, ht⟩
    · rw [sgn_nought.2 ht] at h; simp at h
    · rw [sgn_lt.2 hs, sgn_pos.2 ht] at h; exact absurd h (by decide)
  · rw [sgn_nought.2 hs] at h; simp at h
  · rcases (show t < 0 ∨ t = 0 ∨ 0 < t by omega) with ht | ht | ht
    · rw [sgn_pos.2 hs, sgn_lt.2 ht] at h; exact absurd h (by decide)
    · rw [sgn_nought.2 ht] at h; simp at h
    · exact .inl ⟨hs, ht⟩
theorem two_none {u v s t : Int} (hu : 0 ≤ u ∧ 0 ≤ v ∨ u ≤ 0 ∧ v ≤ 0) (hs : (0 < s ∧ 0 < t) ∨ (s < 0 ∧ t < 0)) (h : u * s + v * t = 0) : u = 0 ∧ v = 0 := by
  have key : ∀ u v s t : Int, 0 ≤ u → 0 ≤ v → 0 < s → 0 < t → u * s + v * t = 0 → u = 0 ∧ v = 0 := by
    intro u v s t h1 h2 h3 h4 h5
    have g1 : 0 ≤ u * s := Int.mul_nonneg h1 (by omega)
    have g2 : 0 ≤ v * t := Int.mul_nonneg h2 (by omega)
    have g3 : u * s = 0 := by omega
    have g4 : v * t = 0 := by omega
    exact ⟨(Int.mul_eq_zero.1 g3).resolve_right (by omega), (Int.mul_eq_zero.1 g4).resolve_right (by omega)⟩
  rcases hu with ⟨h1, h2⟩ | ⟨h1, h2⟩ <;> rcases hs with ⟨h3, h4⟩ | ⟨h3, h4⟩
  · exact key u v s t h1 h2 h3 h4 h
  · exact key u v (-s) (-t) h1 h2 (by omega) (by omega) (by rw [Int.mul_neg, Int.mul_neg]; omega)
  · have := key (-u) (-v) s t (by omega) (by omega) h3 h4 (by rw [Int.neg_mul, Int.neg_mul]; omega)
    omega
  · have := key (-u) (-v) (-s) (-t) (by omega) (by omega) (by omega) (by omega) (by rw [Int.neg_mul_neg, Int.neg_mul_neg]; omega)
    omega
theorem on_box {c d p : Pp} (h : on2 c d p = true) : area c.1 c.2 d.1 d.2 p.1 p.2 = 0 ∧ (min c.1 d.1 ≤ p.1 ∧ p.1 ≤ max c.1 d.1) ∧ min c.2 d.2 ≤ p.2 ∧ p.2 ≤ max c.2 d.2 := by
  unfold on2 onP inBox ovl at h
  simp only [Bool.and_eq_true, decide_eq_true_eq, beq_iff_eq] at h
  exact ⟨h.1, by omega, by omega⟩
theorem on_side {a b c d p : Pp} (h : on2 c d p = true) (hp : area a.1 a.2 b.1 b.2 p.1 p.2 = 0) : ¬ 0 < tr2 a b c * tr2 a b d := by
  intro hm
  obtain ⟨h0, hx, hy⟩ := on_box h
  have l1 := side_lin a b c d p
  have l2 := side_linY a b c d p
  rw [hp, h0, Int.mul_zero, Int.mul_zero, Int.add_zero] at l1 l2
  have hs := sgn_mul hm
  obtain ⟨e1, e2⟩ := two_none (by omega) hs l1.symm
  obtain ⟨e3, e4⟩ := two_none (by omega) hs l2.symm
  have x1 : c.1 = p.1 := by omega
  have x2 : c.2 = p.2 := by omega
  rw [x1, x2] at hs
  omega
theorem off_side {a b c d : Pp} (h : tr2 a b c * tr2 a b d ≠ 0) : on2 a b c = false ∧ on2 a b d = false := by
  constructor
  · cases g : on2 a b c with
    | false => rfl
    | true => exact absurd (show tr2 a b c * tr2 a b d = 0 by unfold tr2; rw [(on_box g).1]; simp [sgn]) h
  · cases g : on2 a b d with
    | false => rfl
    | true => exact absurd (show tr2 a b c * tr2 a b d = 0 by unfold tr2; rw [(on_box g).1]; simp [sgn]) h
theorem tr_same (a c : Pp) : tr2 a a c = 0 := by
  unfold tr2 area sgn
  simp

/-- What the ends that are points of both say, of segments that do not cross. -/
def byEnds (a b c d : Pp) (l : List Pp) : Int :=
  match l with
  | [] => 0
  | [p] => if (eqp p a || eqp p b) && (eqp p c || eqp p d) then 1 else 2
  | _ => 4
def relE (a b c d : Pp) : Int :=
  if 0 < tr2 a b c * tr2 a b d ∨ 0 < tr2 c d a * tr2 c d b then 0
  else if tr2 a b c * tr2 a b d < 0 ∧ tr2 c d a * tr2 c d b < 0 then 3
  else byEnds a b c d (shL a b c d [a, b, c, d])
theorem relE_side {a b c d : Pp} (h : 0 < tr2 a b c * tr2 a b d) : relP a b c d = 0 := by
  obtain ⟨h1, h2⟩ := off_side (a := a) (b := b) (c := c) (d := d) (by omega)
  have h3 : on2 c d a = false := by
    cases g : on2 c d a with
    | false => rfl
    | true => exact absurd h (on_side g (area_aba _ _ _ _))
  have h4 : on2 c d b = false := by
    cases g : on2 c d b with
    | false => rfl
    | true => exact absurd h (on_side g (area_abb _ _ _ _))
  have h5 : crs a b c d = false := by
    unfold crs
    rw [show decide (tr2 a b c * tr2 a b d < 0) = false from decide_eq_false (by omega)]
    simp
  unfold relP
  rw [h1, h2, h3, h4, h5]
  simp [relB]
theorem relE_eq (a b c d : Pp) : relE a b c d = relP a b c d := by
  unfold relE
  split
  · rename_i h
    rcases h with h | h
    · exact (relE_side h).symm
    · rw [← relP_cd]
      exact (relE_side h).symm
  · split
    · rename_i h
      obtain ⟨h1, h2⟩ := off_side (a := a) (b := b) (c := c) (d := d) (by omega)
      obtain ⟨h3, h4⟩ := off_side (a := c) (b := d) (c := a) (d := b) (by omega)
      have h5 : crs a b c d = true := by
        unfold crs
        rw [decide_eq_true h.1, decide_eq_true h.2]
        have g1 : eqp a b = false := by
          cases g : eqp a b with
          | false => rfl
          | true => rw [eqp_iff] at g; subst g; rw [tr_same] at h; simp at h
        have g2 : eqp c d = false := by
          cases g : eqp c d with
          | false => rfl
          | true => rw [eqp_iff] at g; subst g; rw [tr_same c] at h; simp at h
        rw [g1, g2]
        rfl
      unfold relP
      rw [h1, h2, h3, h4, h5]
      simp [relB]
    · rename_i h
      rw [← relL_eq]
      have h5 : crs a b c d = false := by
        unfold crs
        cases g1 : decide (tr2 a b c * tr2 a b d < 0) with
        | false => simp
        | true =>
          cases g2 : decide (tr2 c d a * tr2 c d b < 0) with
          | false => simp
          | true => exact absurd ⟨of_decide_eq_true g1, of_decide_eq_true g2⟩ h
      unfold relL byEnds
      rw [h5]
      rfl

theorem relB_one : ∀ sa sb sc sd ab ac ad bc bd cd x : Bool, flagsOk sa sb sc sd ab ac ad bc bd cd = true → relB sa sb sc sd ab ac ad bc bd cd x = 1 → (ac || ad) = false → sa = false ∧ sb = true := by decide +kernel
theorem shAdd_head {a b c d p : Pp} {l : List Pp} (q : Pp) (h : l[0]? = some p) : (shAdd a b c d l q)[0]? = some p := by
  unfold shAdd
  split
  · cases l with
    | nil => simp at h
    | cons r l => simpa using h
  · exact h
/-- The first of the ends that are points of both, where one end alone is. -/
theorem shL_first {a b c d : Pp} (h : relP a b c d = 1) : (shL a b c d [a, b, c, d])[0]? = some (if eqp a c || eqp a d then a else b) := by
  have s1 : shS a b c d a = on2 c d a := by unfold shS; rw [on_left]; rfl
  have s2 : shS a b c d b = on2 c d b := by unfold shS; rw [on_right]; rfl
  unfold shL
  simp only [List.foldl_cons, List.foldl_nil]
  apply shAdd_head
  apply shAdd_head
  cases g : eqp a c || eqp a d with
  | true =>
    rw [if_pos rfl]
    apply shAdd_head
    have : on2 c d a = true := by
      rw [Bool.or_eq_true, eqp_iff, eqp_iff] at g
      rcases g with rfl | rfl
      · exact on_left _ _
      · exact on_right _ _
    unfold shAdd
    rw [s1, this]
    rfl
  | false =>
    rw [if_neg (by decide)]
    obtain ⟨h1, h2⟩ := relB_one _ _ _ _ _ _ _ _ _ _ _ (flags_ok a b c d) h g
    have : shAdd a b c d [] a = [] := by unfold shAdd; rw [s1, h1]; rfl
    rw [this]
    unfold shAdd
    rw [s2, h2]
    rfl
end Go.Proofs.YtkdnkmheidbfdaaGreat

namespace Go.Proofs.YtkdnkmheidbfdaaGreat
open Go.RowKit Go.Sort

theorem Pts.one {w : World} {b : Nat} {x y : Int} (h : Pt w b x y) (cap : Nat) : Pts w (.slice (some ⟨b, 0, none⟩) 1 cap) [(x, y)] := by
  refine ⟨_, cap, rfl, fun _ => ⟨b, 0, rfl, ?_⟩⟩
  intro k p hk
  match k, hk with
  | 0, hk =>
    simp only [List.getElem?_cons_zero, Option.some.injEq] at hk
    subst hk
    exact ⟨h.c0, h.c1⟩
  | k + 1, hk => simp at hk

theorem Pts.below {w w' : World} {v : Value} {ps : List Pp} (h : Pts w v ps) (hb : Below w.heap.size w w') : Pts w' v ps := by
  obtain ⟨a, cap, rfl, hx⟩ := h
  refine ⟨a, cap, rfl, fun h1 => ?_⟩
  obtain ⟨b, off, rfl, hc⟩ := hx h1
  refine ⟨b, off, rfl, fun k p hk => ?_⟩
  obtain ⟨z0, z1⟩ := hc k p hk
  have hbb : b < w.heap.size := World.block_lt_of_cell? w _ z0
  exact ⟨(hb.cell (p := ⟨b, off + k * 2, none⟩) hbb).trans z0, (hb.cell (p := ⟨b, off + k * 2 + 1, none⟩) hbb).trans z1⟩


set_option maxHeartbeats 1600000 in
theorem segHeld_any (x y : Int) (w : World) :
    Calls Tryz.prog 218 #[pv x y] w fun e w' => e = .returned (pv (near x) (near y)) ∧ Below w.heap.size w w' := by
  obtain ⟨wA, hwA⟩ : ∃ wA, w.alloc (.cells #[.int .i64 x, .int .i64 y] 23) = wA := ⟨_, rfl⟩
  obtain ⟨wB, hwB⟩ : ∃ wB, wA.alloc (.cells #[.int .i64 0, .int .i64 0] 23) = wB := ⟨_, rfl⟩
  obtain ⟨wC, hwC⟩ : ∃ wC, wB.alloc (.cells #[.int .i64 x, .int .i64 y] 23) = wC := ⟨_, rfl⟩
  obtain ⟨hA, hB, hC, hBL, hszC, hszA, hszB⟩ := box3 hwA hwB hwC
  have a0 : wB.cell? ⟨w.heap.size, 0, none⟩ = some (.int .i64 x) := (box2 hwA hwB).1.c0
  have a1 : wB.cell? ⟨w.heap.size, 1, none⟩ = some (.int .i64 y) := (box2 hwA hwB).1.c1
  have HX := hid (box_any (.slice (some ⟨w.heap.size + 2, 0, none⟩) 1 1) [(x, y)] wC (Pts.one hC 1) (by simp))
  simp only [boxL, List.foldl_nil, List.length_cons, List.length_nil] at HX
  have HB := hid hB
  have HBL := hid hBL
  clear hA hB hC hBL
  generalize near x = NX at *
  generalize near y = NY at *
  go_enter Tryz.func218, Tryz.ntmps218
  go_wp2_with (go_at_call 119; refine HX.out.mono ?_; rintro e w1 ⟨rfl, hb1⟩; obtain ⟨w2, hw2⟩ : ∃ w2, w1.alloc (.cells #[.int .i64 0, .int .i64 0] 23) = w2 := ⟨_, rfl⟩; obtain ⟨w3, hw3⟩ : ∃ w3, w2.alloc (.cells #[.int .i64 0, .int .i64 0] 23) = w3 := ⟨_, rfl⟩; obtain ⟨hF, hG, hBL1, hsz3, hsz2⟩ := box2 hw2 hw3; obtain ⟨B1, hB1⟩ : ∃ B1, w1.heap.size = B1 := ⟨_, rfl⟩; rw [hB1] at hF hG hBL1 hsz3 hsz2; have hle : w.heap.size + 3 ≤ B1 := (by have := hb1.size; omega); have hE : Pt w3 (w.heap.size + 1) 0 0 := (HB.out.below hb1 (by omega)).below hBL1 (by omega); have HB3 := hid (show Below w.heap.size w w3 from (HBL.out.trans (hb1.mono HBL.out.size)).trans (hBL1.mono (by omega))); clear hb1 hBL1 HB HBL; have f0 := hF.c0; have f1 := hF.c1; have f2 := hF.f0; have f3 := hF.f1; obtain ⟨V1, hV1⟩ : ∃ V, (w3.setCell ⟨B1, 0, none⟩ (.int .i64 NX)).setCell ⟨B1, 1, none⟩ (.int .i64 NY) = V := ⟨_, rfl⟩; replace hF : Pt V1 B1 NX NY := (by rw [← hV1]; exact hF.set _ _); replace hG : Pt V1 (B1 + 1) 0 0 := (by rw [← hV1]; exact hG.far (by omega) _ _); replace hE : Pt V1 (w.heap.size + 1) 0 0 := (by rw [← hV1]; exact hE.far (by omega) _ _); have g0 := hG.c0; have g1 := hG.c1; have g2 := hG.f0; have g3 := hG.f1; obtain ⟨V2, hV2⟩ : ∃ V, (V1.setCell ⟨B1 + 1, 0, none⟩ (.int .i64 NX)).setCell ⟨B1 + 1, 1, none⟩ (.int .i64 NY) = V := ⟨_, rfl⟩; replace hF : Pt V2 B1 NX NY := (by rw [← hV2]; exact hF.far (by omega) _ _); replace hE : Pt V2 (w.heap.size + 1) 0 0 := (by rw [← hV2]; exact hE.far (by omega) _ _); have h0 := hF.c0; have h1 := hF.c1; have e0 := hE.c0; have e1 := hE.c1; have e2 := hE.f0; have e3 := hE.f1; obtain ⟨V3, hV3⟩ : ∃ V, (V2.setCell ⟨w.heap.size + 1, 0, none⟩ (.int .i64 NX)).setCell ⟨w.heap.size + 1, 1, none⟩ (.int .i64 NY) = V := ⟨_, rfl⟩; replace hE : Pt V3 (w.heap.size + 1) NX NY := (by rw [← hV3]; exact hE.set _ _); have i0 := hE.c0; have i1 := hE.c1; have HBV := hid (show Below w.heap.size w V3 by rw [← hV3, ← hV2, ← hV1]; exact below_set2 (below_set2 (below_set2 HB3.out (by omega)) (by omega)) (by omega)); clear hF hG hE HB3)
  exact bodyPost_ret (v := pv NX NY) (by simp [results, Tryz.results218, go_sem, i0, i1]) rfl ⟨rfl, HBV.out⟩


/-- Where a point lies first in a list; -1: nowhere. -/
theorem any_take_succ {ps : List Pp} {p q : Pp} {k : Nat} (h : ps[k]? = some q) (h0 : (ps.take k).any (fun r => eqp r p) = false) (h1 : eqp q p = false) : (ps.take (k + 1)).any (fun r => eqp r p) = false := by
  rw [List.take_add_one, h]
  simp only [Option.toList_some, List.any_append, h0, List.any_cons, h1, List.any_nil, Bool.or_self]
theorem any_of_at {ps : List Pp} {p q : Pp} {k : Nat} (h : ps[k]? = some q) (h1 : eqp q p = true) : ps.any (fun r => eqp r p) = true := by
  rw [List.any_eq_true]
  exact ⟨q, List.mem_of_getElem? h, h1⟩































































































end Go.Proofs.YtkdnkmheidbfdaaGreat
