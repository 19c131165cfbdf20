/-
  The document's near, Clean, sign.
-/
import Derived.Test.YtlnjjkgjknheiaaMA
import Derived.Test.YtlnjjkgjknheiaaMC
namespace Go.Proofs.Ytlnjjkgjknheiaa
open Go.RowKit Go.Sort


theorem refNear_any (x : Int) (w : World) :
    Calls Try.prog 46 #[.int .i64 x] w fun e w' => e = .returned (.int .i64 (near x)) ∧ w' = w := by
  rcases (show x < -1048576 ∨ 1048576 < x ∨ (-1048576 ≤ x ∧ x ≤ 1048576) by omega) with h | h | h
  · have hn : near x = -1048576 := by unfold near; rw [if_pos h]
    rw [hn]
    go_enter Try.func46, Try.ntmps46
    go_wp2
    go_ret
    exact ⟨rfl, rfl⟩
  · have hn : near x = 1048576 := by unfold near; rw [if_neg (by omega), if_pos h]
    rw [hn]
    go_enter Try.func46, Try.ntmps46
    go_wp2
    go_ret
    exact ⟨rfl, rfl⟩
  · rw [near_in h.1 h.2]
    go_enter Try.func46, Try.ntmps46
    go_wp2
    go_ret
    exact ⟨rfl, rfl⟩



set_option maxRecDepth 100000 in
theorem refClean_any (x y : Int) (w : World) :
    Calls Try.prog 32 #[pv x y] w fun e w' => e = .returned (pv (near x) (near y)) ∧ Below w.heap.size w w' := by
  obtain ⟨wA, hwA⟩ : ∃ wA, w.alloc (.cells #[.int .i64 x, .int .i64 y] 24) = wA := ⟨_, rfl⟩
  obtain ⟨wB, hwB⟩ : ∃ wB, wA.alloc (.cells #[.int .i64 0, .int .i64 0] 24) = wB := ⟨_, rfl⟩
  have hszA : wA.heap.size = w.heap.size + 1 := by rw [← hwA]; simp
  have hszB : wB.heap.size = w.heap.size + 2 := by rw [← hwB]; simp [hszA]
  have hA : Pt wB w.heap.size x y := by rw [← hwB, ← hwA]; exact (Pt.new w x y).alloc _
  have hB : Pt wB (w.heap.size + 1) 0 0 := by rw [← hwB, ← hszA]; exact Pt.new wA 0 0
  have HBL := hid (show Below w.heap.size w wB by rw [← hwB, ← hwA]; exact ((Below.refl _ w).alloc (Nat.le_refl _) _).alloc (by simp) _)
  have k0 := cell_regrown hA.c0
  have k1 := cell_regrown hA.c1
  have cx := fun d os => refNear_any x (grow (redrawn wB d) os)
  have cy := fun d os => refNear_any y (grow (redrawn wB d) os)
  have HB := hid hB
  clear hA hB
  go_enter Try.func32, Try.ntmps32
  go_wp2
  refine wp_region_tail (C := fun w' => ∃ p : Regrown, w' = grow (redrawn wB p.d) p.os) 7 (by kernel_rfl) (by kernel_rfl) ⟨⟨wB.drawn + 1, #[]⟩, by rw [grow_empty]; rfl⟩ ?_
  simp only [List.take, List.drop]
  repeat (go_big_quiet_step (first | exact (cx _ _).mono fun e w' ⟨h1, h2⟩ => ⟨h1, ⟨_, h2⟩⟩ | exact (cy _ _).mono fun e w' ⟨h1, h2⟩ => ⟨h1, ⟨_, h2⟩⟩))
  refine wpQuiet_nil ?_
  intro W hW'
  obtain ⟨⟨dq, osq⟩, hW⟩ := hW'
  have hb : Below wB.heap.size wB W := by rw [hW]; exact below_regrown _ _ _
  clear hW k0 k1 cx cy
  have hP : Pt W (w.heap.size + 1) 0 0 := HB.out.below hb (by omega)
  have d0 := hP.c0
  have d1 := hP.c1
  have e0 := hP.f0
  have e1 := hP.f1
  have HW := hid (HBL.out.trans (hb.mono HBL.out.size))
  clear hb hP
  go_wp2
  refine bodyPost_ret (v := pv (near x) (near y)) (by simp [results, Try.results32, go_sem, d0, d1]) rfl ⟨rfl, ?_⟩
  exact (HW.out.setCell (p := ⟨w.heap.size + 1, 0, none⟩) (by show w.heap.size ≤ w.heap.size + 1; omega) _).setCell (p := ⟨w.heap.size + 1, 1, none⟩) (by show w.heap.size ≤ w.heap.size + 1; omega) _



theorem refSign_any (t : Int) (w : World) :
    Calls Try.prog 48 #[.int .i64 t] w fun e w' => e = .returned (.int .i64 (sgn t)) ∧ w' = w := by
  rcases (show t < 0 ∨ 0 < t ∨ t = 0 by omega) with h | h | h
  · have hn : sgn t = -1 := by unfold sgn; rw [if_pos h]
    rw [hn]
    clear hn
    go_enter Try.func48, Try.ntmps48
    go_wp2
    go_ret
    exact ⟨rfl, rfl⟩
  · have hn : sgn t = 1 := by unfold sgn; rw [if_neg (by omega), if_pos h]
    rw [hn]
    clear hn
    go_enter Try.func48, Try.ntmps48
    go_wp2
    go_ret
    exact ⟨rfl, rfl⟩
  · subst h
    rw [show sgn 0 = 0 from rfl]
    go_enter Try.func48, Try.ntmps48
    go_wp2
    go_ret
    exact ⟨rfl, rfl⟩

end Go.Proofs.Ytlnjjkgjknheiaa

namespace Go.Proofs.Ytlnjjkgjknheiaa
open Go.RowKit Go.Sort


theorem refOk_any (px py : Int) (w : World) :
    Calls Try.prog 17 #[pv px py] w fun e w' => e = .returned (.bool (okP px py)) ∧ Below w.heap.size w w' := by
  obtain ⟨wA, hwA⟩ : ∃ wA, w.alloc (.cells #[.int .i64 px, .int .i64 py] 24) = wA := ⟨_, rfl⟩
  obtain ⟨hA, hBL, hszA⟩ := box1 hwA
  have HBL := hid hBL
  have a0 := hA.c0; have a1 := hA.c1
  have hw := okP_iff px py
  generalize okP px py = R at *
  have HW := hid hw
  clear hA hBL hw
  rcases (show px < -1048576 ∨ (-1048576 ≤ px ∧ 1048576 < px) ∨ ((-1048576 ≤ px ∧ px ≤ 1048576) ∧ py < -1048576) ∨ ((-1048576 ≤ px ∧ px ≤ 1048576) ∧ (-1048576 ≤ py ∧ 1048576 < py)) ∨ ((-1048576 ≤ px ∧ px ≤ 1048576) ∧ (-1048576 ≤ py ∧ py ≤ 1048576)) by omega) with h | ⟨h, h'⟩ | ⟨⟨h, h'⟩, g⟩ | ⟨⟨h, h'⟩, g, g'⟩ | ⟨⟨h, h'⟩, g, g'⟩
  · go_enter Try.func17, Try.ntmps17
    go_wp2
    go_ret
    exact ⟨by rw [HW.out]; first | (simp [*]; done) | (simp [*]; omega), HBL.out⟩
  · go_enter Try.func17, Try.ntmps17
    go_wp2
    go_ret
    exact ⟨by rw [HW.out]; first | (simp [*]; done) | (simp [*]; omega), HBL.out⟩
  · go_enter Try.func17, Try.ntmps17
    go_wp2
    go_ret
    exact ⟨by rw [HW.out]; first | (simp [*]; done) | (simp [*]; omega), HBL.out⟩
  · go_enter Try.func17, Try.ntmps17
    go_wp2
    go_ret
    exact ⟨by rw [HW.out]; first | (simp [*]; done) | (simp [*]; omega), HBL.out⟩
  · go_enter Try.func17, Try.ntmps17
    go_wp2
    go_ret
    exact ⟨by rw [HW.out]; first | (simp [*]; done) | (simp [*]; omega), HBL.out⟩

end Go.Proofs.Ytlnjjkgjknheiaa

namespace Go.Proofs.Ytlnjjkgjknheiaa
open Go.RowKit Go.Sort


theorem refArea2_any (ax ay bx by' cx cy : Int) (w : World) :
    Calls Try.prog 49 #[pv ax ay, pv bx by', pv cx cy] w fun e w' => e = .returned (.int .i64 (area (near ax) (near ay) (near bx) (near by') (near cx) (near cy))) ∧ Below w.heap.size w w' := by
  obtain ⟨wA, hwA⟩ : ∃ wA, w.alloc (.cells #[.int .i64 ax, .int .i64 ay] 24) = wA := ⟨_, rfl⟩
  obtain ⟨wB, hwB⟩ : ∃ wB, wA.alloc (.cells #[.int .i64 bx, .int .i64 by'] 24) = wB := ⟨_, rfl⟩
  obtain ⟨wC, hwC⟩ : ∃ wC, wB.alloc (.cells #[.int .i64 cx, .int .i64 cy] 24) = wC := ⟨_, rfl⟩
  obtain ⟨hA, hB, hC, hBL, hszC, hszA, hszB⟩ := box3 hwA hwB hwC
  have HPA := hid hA
  have HPB := hid hB
  have HPC := hid hC
  have HB := hid hBL
  have a0 := hA.c0; have a1 := hA.c1
  have b0 := hB.c0; have b1 := hB.c1
  have c0 := hC.c0; have c1 := hC.c1
  clear hA hB hC hBL
  have HC1 := hid (fun W => refClean_any ax ay W)
  have HC2 := hid (fun W => refClean_any bx by' W)
  have HC3 := hid (fun W => refClean_any cx cy W)
  have b1 := near_lo ax; have b2 := near_hi ax; have b3 := near_lo ay; have b4 := near_hi ay
  have b5 := near_lo bx; have b6 := near_hi bx; have b7 := near_lo by'; have b8 := near_hi by'
  have b9 := near_lo cx; have b10 := near_hi cx; have b11 := near_lo cy; have b12 := near_hi cy
  generalize near ax = AX at *
  generalize near ay = AY at *
  generalize near bx = BX at *
  generalize near by' = BY at *
  generalize near cx = CX at *
  generalize near cy = CY at *
  have HAR := hid (show area AX AY BX BY CX CY = (BX - AX) * (CY - AY) - (CX - AX) * (BY - AY) by unfold area; rw [Int.mul_comm (CX - AX)])
  generalize area AX AY BX BY CX CY = A at *
  have m1 := mul_bound (u := BX - AX) (v := CY - AY) (by omega) (by omega) (by omega) (by omega)
  have m2 := mul_bound (u := CX - AX) (v := BY - AY) (by omega) (by omega) (by omega) (by omega)
  go_enter Try.func49, Try.ntmps49
  go_wp2_with (first
    | (go_at_call 32; refine (HC1.out wC).mono ?_; rintro e w1 ⟨rfl, hb1⟩; replace HPA := hid (HPA.out.below hb1 HPA.out.lt); replace HPB := hid (HPB.out.below hb1 HPB.out.lt); replace HPC := hid (HPC.out.below hb1 HPC.out.lt); have e10 := HPA.out.c0; have e11 := HPA.out.c1; have e12 := HPA.out.f0; have e13 := HPA.out.f1; obtain ⟨W1, hW1⟩ : ∃ W1, (w1.setCell ⟨w.heap.size, 0, none⟩ (.int .i64 AX)).setCell ⟨w.heap.size, 1, none⟩ (.int .i64 AY) = W1 := ⟨_, rfl⟩; replace HPA := hid (show Pt W1 w.heap.size AX AY by rw [← hW1]; exact HPA.out.set _ _); replace HPB := hid (show Pt W1 (w.heap.size + 1) bx by' by rw [← hW1]; exact HPB.out.far (by omega) _ _); replace HPC := hid (show Pt W1 (w.heap.size + 2) cx cy by rw [← hW1]; exact HPC.out.far (by omega) _ _); replace HB := hid (show Below w.heap.size w W1 by rw [← hW1]; exact below_set2 (HB.out.trans (hb1.mono HB.out.size)) (by omega)); have a01 := HPA.out.c0; have a11 := HPA.out.c1; have b01 := HPB.out.c0; have b11 := HPB.out.c1; have c01 := HPC.out.c0; have c11 := HPC.out.c1; clear hb1; clear HC1)
    | (go_at_call 32; refine (HC2.out W1).mono ?_; rintro e w2 ⟨rfl, hb2⟩; replace HPA := hid (HPA.out.below hb2 HPA.out.lt); replace HPB := hid (HPB.out.below hb2 HPB.out.lt); replace HPC := hid (HPC.out.below hb2 HPC.out.lt); have e20 := HPB.out.c0; have e21 := HPB.out.c1; have e22 := HPB.out.f0; have e23 := HPB.out.f1; obtain ⟨W2, hW2⟩ : ∃ W2, (w2.setCell ⟨w.heap.size + 1, 0, none⟩ (.int .i64 BX)).setCell ⟨w.heap.size + 1, 1, none⟩ (.int .i64 BY) = W2 := ⟨_, rfl⟩; replace HPA := hid (show Pt W2 w.heap.size AX AY by rw [← hW2]; exact HPA.out.far (by omega) _ _); replace HPB := hid (show Pt W2 (w.heap.size + 1) BX BY by rw [← hW2]; exact HPB.out.set _ _); replace HPC := hid (show Pt W2 (w.heap.size + 2) cx cy by rw [← hW2]; exact HPC.out.far (by omega) _ _); replace HB := hid (show Below w.heap.size w W2 by rw [← hW2]; exact below_set2 (HB.out.trans (hb2.mono HB.out.size)) (by omega)); have a02 := HPA.out.c0; have a12 := HPA.out.c1; have b02 := HPB.out.c0; have b12 := HPB.out.c1; have c02 := HPC.out.c0; have c12 := HPC.out.c1; clear hb2; clear HC2)
    | (go_at_call 32; refine (HC3.out W2).mono ?_; rintro e w3 ⟨rfl, hb3⟩; replace HPA := hid (HPA.out.below hb3 HPA.out.lt); replace HPB := hid (HPB.out.below hb3 HPB.out.lt); replace HPC := hid (HPC.out.below hb3 HPC.out.lt); have e30 := HPC.out.c0; have e31 := HPC.out.c1; have e32 := HPC.out.f0; have e33 := HPC.out.f1; obtain ⟨W3, hW3⟩ : ∃ W3, (w3.setCell ⟨w.heap.size + 2, 0, none⟩ (.int .i64 CX)).setCell ⟨w.heap.size + 2, 1, none⟩ (.int .i64 CY) = W3 := ⟨_, rfl⟩; replace HPA := hid (show Pt W3 w.heap.size AX AY by rw [← hW3]; exact HPA.out.far (by omega) _ _); replace HPB := hid (show Pt W3 (w.heap.size + 1) BX BY by rw [← hW3]; exact HPB.out.far (by omega) _ _); replace HPC := hid (show Pt W3 (w.heap.size + 2) CX CY by rw [← hW3]; exact HPC.out.set _ _); replace HB := hid (show Below w.heap.size w W3 by rw [← hW3]; exact below_set2 (HB.out.trans (hb3.mono HB.out.size)) (by omega)); have a03 := HPA.out.c0; have a13 := HPA.out.c1; have b03 := HPB.out.c0; have b13 := HPB.out.c1; have c03 := HPC.out.c0; have c13 := HPC.out.c1; clear hb3; clear HC3))
  go_ret
  exact ⟨by rw [HAR.out]; rfl, HB.out⟩



theorem refTurn_any (ax ay bx by' cx cy : Int) (w : World) :
    Calls Try.prog 35 #[pv ax ay, pv bx by', pv cx cy] w fun e w' => e = .returned (.int .i64 (sgn (area (near ax) (near ay) (near bx) (near by') (near cx) (near cy)))) ∧ Below w.heap.size w w' := by
  obtain ⟨wA, hwA⟩ : ∃ wA, w.alloc (.cells #[.int .i64 ax, .int .i64 ay] 24) = wA := ⟨_, rfl⟩
  obtain ⟨wB, hwB⟩ : ∃ wB, wA.alloc (.cells #[.int .i64 bx, .int .i64 by'] 24) = wB := ⟨_, rfl⟩
  obtain ⟨wC, hwC⟩ : ∃ wC, wB.alloc (.cells #[.int .i64 cx, .int .i64 cy] 24) = wC := ⟨_, rfl⟩
  have hszA : wA.heap.size = w.heap.size + 1 := by rw [← hwA]; simp
  have hszB : wB.heap.size = w.heap.size + 2 := by rw [← hwB]; simp [hszA]
  have hA : Pt wC w.heap.size ax ay := by rw [← hwC, ← hwB, ← hwA]; exact ((Pt.new w ax ay).alloc _).alloc _
  have hB : Pt wC (w.heap.size + 1) bx by' := by rw [← hwC, ← hwB, ← hszA]; exact (Pt.new wA bx by').alloc _
  have hC : Pt wC (w.heap.size + 2) cx cy := by rw [← hwC, ← hszB]; exact Pt.new wB cx cy
  have HBL := hid (show Below w.heap.size w wC by rw [← hwC, ← hwB, ← hwA]; exact (((Below.refl _ w).alloc (Nat.le_refl _) _).alloc (by simp) _).alloc (by simp; omega) _)
  have a0 := hA.c0; have a1 := hA.c1; have p0 := hB.c0; have p1 := hB.c1; have q0 := hC.c0; have q1 := hC.c1
  have HC := hid (refArea2_any ax ay bx by' cx cy wC)
  generalize area (near ax) (near ay) (near bx) (near by') (near cx) (near cy) = A at *
  clear hA hB hC
  go_enter Try.func35, Try.ntmps35
  go_wp2_with (first | (go_at_call 49; refine HC.out.mono ?_; rintro e w1 ⟨rfl, hb1⟩; have HB1 := hid (HBL.out.trans (hb1.mono HBL.out.size)); clear hb1) | (go_at_call 48; refine (refSign_any A w1).mono ?_; rintro e w2 ⟨rfl, hw2⟩; subst hw2))
  go_ret
  exact ⟨rfl, HB1.out⟩





















































/-- Does a number lie between two, or is it one? -/
def btw (x a b : Int) : Bool := decide (min a b ≤ x) && decide (x ≤ max a b)

theorem refBetween_any (x a b : Int) (w : World) :
    Calls Try.prog 47 #[.int .i64 x, .int .i64 a, .int .i64 b] w fun e w' => e = .returned (.bool (btw x a b)) ∧ w' = w := by
  have hw : btw x a b = (decide (min a b ≤ x) && decide (x ≤ max a b)) := rfl
  generalize btw x a b = R at *
  have HW := hid hw
  clear hw
  rcases (show a < b ∨ a = b ∨ b < a by omega) with h | h | h
  · rcases (show x < a ∨ (a ≤ x ∧ x ≤ b) ∨ (a ≤ x ∧ b < x) by omega) with g | ⟨g, g'⟩ | ⟨g, g'⟩
    · have HE := hid (show R = false by rw [HW.out, show decide (min a b ≤ x) = false from decide_eq_false (by omega)]; rfl)
      go_enter Try.func47, Try.ntmps47
      go_wp2
      go_ret
      exact ⟨by rw [HE.out]; first | rfl | (show Ending.returned (Value.bool (decide _)) = _; first | rw [decide_eq_false (by omega)] | rw [decide_eq_true (by omega)]), rfl⟩
    · have HE := hid (show R = true by rw [HW.out, show decide (min a b ≤ x) = true from decide_eq_true (by omega), show decide (x ≤ max a b) = true from decide_eq_true (by omega)]; rfl)
      go_enter Try.func47, Try.ntmps47
      go_wp2
      go_ret
      exact ⟨by rw [HE.out]; first | rfl | (show Ending.returned (Value.bool (decide _)) = _; first | rw [decide_eq_false (by omega)] | rw [decide_eq_true (by omega)]), rfl⟩
    · have HE := hid (show R = false by rw [HW.out, show decide (min a b ≤ x) = true from decide_eq_true (by omega), show decide (x ≤ max a b) = false from decide_eq_false (by omega)]; rfl)
      go_enter Try.func47, Try.ntmps47
      go_wp2
      go_ret
      exact ⟨by rw [HE.out]; first | rfl | (show Ending.returned (Value.bool (decide _)) = _; first | rw [decide_eq_false (by omega)] | rw [decide_eq_true (by omega)]), rfl⟩
  · subst h
    rcases (show x < a ∨ (a ≤ x ∧ x ≤ a) ∨ (a ≤ x ∧ a < x) by omega) with g | ⟨g, g'⟩ | ⟨g, g'⟩
    · have HE := hid (show R = false by rw [HW.out, show decide (min a a ≤ x) = false from decide_eq_false (by omega)]; rfl)
      go_enter Try.func47, Try.ntmps47
      go_wp2
      go_ret
      exact ⟨by rw [HE.out]; first | rfl | (show Ending.returned (Value.bool (decide _)) = _; first | rw [decide_eq_false (by omega)] | rw [decide_eq_true (by omega)]), rfl⟩
    · have HE := hid (show R = true by rw [HW.out, show decide (min a a ≤ x) = true from decide_eq_true (by omega), show decide (x ≤ max a a) = true from decide_eq_true (by omega)]; rfl)
      go_enter Try.func47, Try.ntmps47
      go_wp2
      go_ret
      exact ⟨by rw [HE.out]; first | rfl | (show Ending.returned (Value.bool (decide _)) = _; first | rw [decide_eq_false (by omega)] | rw [decide_eq_true (by omega)]), rfl⟩
    · have HE := hid (show R = false by rw [HW.out, show decide (min a a ≤ x) = true from decide_eq_true (by omega), show decide (x ≤ max a a) = false from decide_eq_false (by omega)]; rfl)
      go_enter Try.func47, Try.ntmps47
      go_wp2
      go_ret
      exact ⟨by rw [HE.out]; first | rfl | (show Ending.returned (Value.bool (decide _)) = _; first | rw [decide_eq_false (by omega)] | rw [decide_eq_true (by omega)]), rfl⟩
  · rcases (show x < b ∨ (b ≤ x ∧ x ≤ a) ∨ (b ≤ x ∧ a < x) by omega) with g | ⟨g, g'⟩ | ⟨g, g'⟩
    · have HE := hid (show R = false by rw [HW.out, show decide (min a b ≤ x) = false from decide_eq_false (by omega)]; rfl)
      go_enter Try.func47, Try.ntmps47
      go_wp2
      go_ret
      exact ⟨by rw [HE.out]; first | rfl | (show Ending.returned (Value.bool (decide _)) = _; first | rw [decide_eq_false (by omega)] | rw [decide_eq_true (by omega)]), rfl⟩
    · have HE := hid (show R = true by rw [HW.out, show decide (min a b ≤ x) = true from decide_eq_true (by omega), show decide (x ≤ max a b) = true from decide_eq_true (by omega)]; rfl)
      go_enter Try.func47, Try.ntmps47
      go_wp2
      go_ret
      exact ⟨by rw [HE.out]; first | rfl | (show Ending.returned (Value.bool (decide _)) = _; first | rw [decide_eq_false (by omega)] | rw [decide_eq_true (by omega)]), rfl⟩
    · have HE := hid (show R = false by rw [HW.out, show decide (min a b ≤ x) = true from decide_eq_true (by omega), show decide (x ≤ max a b) = false from decide_eq_false (by omega)]; rfl)
      go_enter Try.func47, Try.ntmps47
      go_wp2
      go_ret
      exact ⟨by rw [HE.out]; first | rfl | (show Ending.returned (Value.bool (decide _)) = _; first | rw [decide_eq_false (by omega)] | rw [decide_eq_true (by omega)]), rfl⟩


theorem inBox_btw {ax ay bx by' px py : Int} : inBox ax ay bx by' px py = (btw px ax bx && btw py ay by') := by
  rw [Bool.eq_iff_iff]
  simp only [inBox, ovl, btw, Bool.and_eq_true, decide_eq_true_eq]
  omega


theorem refOn_any (ax ay bx by' cx cy : Int) (w : World) :
    Calls Try.prog 34 #[pv ax ay, pv bx by', pv cx cy] w fun e w' => e = .returned (.bool (onP (near ax) (near ay) (near bx) (near by') (near cx) (near cy))) ∧ Below w.heap.size w w' := by
  obtain ⟨wA, hwA⟩ : ∃ wA, w.alloc (.cells #[.int .i64 ax, .int .i64 ay] 24) = wA := ⟨_, rfl⟩
  obtain ⟨wB, hwB⟩ : ∃ wB, wA.alloc (.cells #[.int .i64 bx, .int .i64 by'] 24) = wB := ⟨_, rfl⟩
  obtain ⟨wC, hwC⟩ : ∃ wC, wB.alloc (.cells #[.int .i64 cx, .int .i64 cy] 24) = wC := ⟨_, rfl⟩
  obtain ⟨hA, hB, hC, hBL, hszC, hszA, hszB⟩ := box3 hwA hwB hwC
  have HPA := hid hA
  have HPB := hid hB
  have HPC := hid hC
  have HB := hid hBL
  have a0 := hA.c0; have a1 := hA.c1
  have b0 := hB.c0; have b1 := hB.c1
  have c0 := hC.c0; have c1 := hC.c1
  clear hA hB hC hBL
  have HC1 := hid (fun W => refClean_any ax ay W)
  have HC2 := hid (fun W => refClean_any bx by' W)
  have HC3 := hid (fun W => refClean_any cx cy W)
  have HT : Hid (∀ W, Calls Try.prog 35 #[pv (near ax) (near ay), pv (near bx) (near by'), pv (near cx) (near cy)] W fun e w' => e = .returned (.int .i64 (sgn (area (near ax) (near ay) (near bx) (near by') (near cx) (near cy)))) ∧ Below W.heap.size W w') := fun W => by
    have := refTurn_any (near ax) (near ay) (near bx) (near by') (near cx) (near cy) W
    simp only [near_near] at this
    exact this
  have hon : onP (near ax) (near ay) (near bx) (near by') (near cx) (near cy) = ((sgn (area (near ax) (near ay) (near bx) (near by') (near cx) (near cy)) == 0) && btw (near cx) (near ax) (near bx) && btw (near cy) (near ay) (near by')) := by rw [sgn_zero, Bool.and_assoc, ← inBox_btw]; rfl
  generalize onP (near ax) (near ay) (near bx) (near by') (near cx) (near cy) = R at *
  generalize sgn (area (near ax) (near ay) (near bx) (near by') (near cx) (near cy)) = S at *
  have HX := hid (fun W => refBetween_any (near cx) (near ax) (near bx) W)
  have HY := hid (fun W => refBetween_any (near cy) (near ay) (near by') W)
  generalize btw (near cx) (near ax) (near bx) = TX at *
  generalize btw (near cy) (near ay) (near by') = TY at *
  generalize near ax = AX at *
  generalize near ay = AY at *
  generalize near bx = BX at *
  generalize near by' = BY at *
  generalize near cx = CX at *
  generalize near cy = CY at *
  cases hS : (S == 0) with
  | false =>
    rw [hS] at hon
    have HON := hid hon
    clear hon
    go_enter Try.func34, Try.ntmps34
    go_wp2_with (first
      | (go_at_call 32; refine (HC1.out wC).mono ?_; rintro e w1 ⟨rfl, hb1⟩; replace HPA := hid (HPA.out.below hb1 HPA.out.lt); replace HPB := hid (HPB.out.below hb1 HPB.out.lt); replace HPC := hid (HPC.out.below hb1 HPC.out.lt); have e10 := HPA.out.c0; have e11 := HPA.out.c1; have e12 := HPA.out.f0; have e13 := HPA.out.f1; obtain ⟨W1, hW1⟩ : ∃ W1, (w1.setCell ⟨w.heap.size, 0, none⟩ (.int .i64 AX)).setCell ⟨w.heap.size, 1, none⟩ (.int .i64 AY) = W1 := ⟨_, rfl⟩; replace HPA := hid (show Pt W1 w.heap.size AX AY by rw [← hW1]; exact HPA.out.set _ _); replace HPB := hid (show Pt W1 (w.heap.size + 1) bx by' by rw [← hW1]; exact HPB.out.far (by omega) _ _); replace HPC := hid (show Pt W1 (w.heap.size + 2) cx cy by rw [← hW1]; exact HPC.out.far (by omega) _ _); replace HB := hid (show Below w.heap.size w W1 by rw [← hW1]; exact below_set2 (HB.out.trans (hb1.mono HB.out.size)) (by omega)); have a01 := HPA.out.c0; have a11 := HPA.out.c1; have b01 := HPB.out.c0; have b11 := HPB.out.c1; have c01 := HPC.out.c0; have c11 := HPC.out.c1; clear hb1; clear HC1)
      | (go_at_call 32; refine (HC2.out W1).mono ?_; rintro e w2 ⟨rfl, hb2⟩; replace HPA := hid (HPA.out.below hb2 HPA.out.lt); replace HPB := hid (HPB.out.below hb2 HPB.out.lt); replace HPC := hid (HPC.out.below hb2 HPC.out.lt); have e20 := HPB.out.c0; have e21 := HPB.out.c1; have e22 := HPB.out.f0; have e23 := HPB.out.f1; obtain ⟨W2, hW2⟩ : ∃ W2, (w2.setCell ⟨w.heap.size + 1, 0, none⟩ (.int .i64 BX)).setCell ⟨w.heap.size + 1, 1, none⟩ (.int .i64 BY) = W2 := ⟨_, rfl⟩; replace HPA := hid (show Pt W2 w.heap.size AX AY by rw [← hW2]; exact HPA.out.far (by omega) _ _); replace HPB := hid (show Pt W2 (w.heap.size + 1) BX BY by rw [← hW2]; exact HPB.out.set _ _); replace HPC := hid (show Pt W2 (w.heap.size + 2) cx cy by rw [← hW2]; exact HPC.out.far (by omega) _ _); replace HB := hid (show Below w.heap.size w W2 by rw [← hW2]; exact below_set2 (HB.out.trans (hb2.mono HB.out.size)) (by omega)); have a02 := HPA.out.c0; have a12 := HPA.out.c1; have b02 := HPB.out.c0; have b12 := HPB.out.c1; have c02 := HPC.out.c0; have c12 := HPC.out.c1; clear hb2; clear HC2)
      | (go_at_call 32; refine (HC3.out W2).mono ?_; rintro e w3 ⟨rfl, hb3⟩; replace HPA := hid (HPA.out.below hb3 HPA.out.lt); replace HPB := hid (HPB.out.below hb3 HPB.out.lt); replace HPC := hid (HPC.out.below hb3 HPC.out.lt); have e30 := HPC.out.c0; have e31 := HPC.out.c1; have e32 := HPC.out.f0; have e33 := HPC.out.f1; obtain ⟨W3, hW3⟩ : ∃ W3, (w3.setCell ⟨w.heap.size + 2, 0, none⟩ (.int .i64 CX)).setCell ⟨w.heap.size + 2, 1, none⟩ (.int .i64 CY) = W3 := ⟨_, rfl⟩; replace HPA := hid (show Pt W3 w.heap.size AX AY by rw [← hW3]; exact HPA.out.far (by omega) _ _); replace HPB := hid (show Pt W3 (w.heap.size + 1) BX BY by rw [← hW3]; exact HPB.out.far (by omega) _ _); replace HPC := hid (show Pt W3 (w.heap.size + 2) CX CY by rw [← hW3]; exact HPC.out.set _ _); replace HB := hid (show Below w.heap.size w W3 by rw [← hW3]; exact below_set2 (HB.out.trans (hb3.mono HB.out.size)) (by omega)); have a03 := HPA.out.c0; have a13 := HPA.out.c1; have b03 := HPB.out.c0; have b13 := HPB.out.c1; have c03 := HPC.out.c0; have c13 := HPC.out.c1; clear hb3; clear HC3)
      | (go_at_call 35; refine (HT.out W3).mono ?_; rintro e w4 ⟨rfl, hb4⟩; replace HPA := hid (HPA.out.below hb4 HPA.out.lt); replace HPB := hid (HPB.out.below hb4 HPB.out.lt); replace HPC := hid (HPC.out.below hb4 HPC.out.lt); replace HB := hid (HB.out.trans (hb4.mono HB.out.size)); have a04 := HPA.out.c0; have a14 := HPA.out.c1; have b04 := HPB.out.c0; have b14 := HPB.out.c1; have c04 := HPC.out.c0; have c14 := HPC.out.c1; clear hb4))
    go_ret
    exact ⟨by rw [HON.out]; rfl, HB.out⟩
  | true =>
    rw [hS] at hon
    have HON := hid hon
    clear hon
    cases TX with
    | false =>
      go_enter Try.func34, Try.ntmps34
      go_wp2_with (first
        | (go_at_call 32; refine (HC1.out wC).mono ?_; rintro e w1 ⟨rfl, hb1⟩; replace HPA := hid (HPA.out.below hb1 HPA.out.lt); replace HPB := hid (HPB.out.below hb1 HPB.out.lt); replace HPC := hid (HPC.out.below hb1 HPC.out.lt); have e10 := HPA.out.c0; have e11 := HPA.out.c1; have e12 := HPA.out.f0; have e13 := HPA.out.f1; obtain ⟨W1, hW1⟩ : ∃ W1, (w1.setCell ⟨w.heap.size, 0, none⟩ (.int .i64 AX)).setCell ⟨w.heap.size, 1, none⟩ (.int .i64 AY) = W1 := ⟨_, rfl⟩; replace HPA := hid (show Pt W1 w.heap.size AX AY by rw [← hW1]; exact HPA.out.set _ _); replace HPB := hid (show Pt W1 (w.heap.size + 1) bx by' by rw [← hW1]; exact HPB.out.far (by omega) _ _); replace HPC := hid (show Pt W1 (w.heap.size + 2) cx cy by rw [← hW1]; exact HPC.out.far (by omega) _ _); replace HB := hid (show Below w.heap.size w W1 by rw [← hW1]; exact below_set2 (HB.out.trans (hb1.mono HB.out.size)) (by omega)); have a01 := HPA.out.c0; have a11 := HPA.out.c1; have b01 := HPB.out.c0; have b11 := HPB.out.c1; have c01 := HPC.out.c0; have c11 := HPC.out.c1; clear hb1; clear HC1)
        | (go_at_call 32; refine (HC2.out W1).mono ?_; rintro e w2 ⟨rfl, hb2⟩; replace HPA := hid (HPA.out.below hb2 HPA.out.lt); replace HPB := hid (HPB.out.below hb2 HPB.out.lt); replace HPC := hid (HPC.out.below hb2 HPC.out.lt); have e20 := HPB.out.c0; have e21 := HPB.out.c1; have e22 := HPB.out.f0; have e23 := HPB.out.f1; obtain ⟨W2, hW2⟩ : ∃ W2, (w2.setCell ⟨w.heap.size + 1, 0, none⟩ (.int .i64 BX)).setCell ⟨w.heap.size + 1, 1, none⟩ (.int .i64 BY) = W2 := ⟨_, rfl⟩; replace HPA := hid (show Pt W2 w.heap.size AX AY by rw [← hW2]; exact HPA.out.far (by omega) _ _); replace HPB := hid (show Pt W2 (w.heap.size + 1) BX BY by rw [← hW2]; exact HPB.out.set _ _); replace HPC := hid (show Pt W2 (w.heap.size + 2) cx cy by rw [← hW2]; exact HPC.out.far (by omega) _ _); replace HB := hid (show Below w.heap.size w W2 by rw [← hW2]; exact below_set2 (HB.out.trans (hb2.mono HB.out.size)) (by omega)); have a02 := HPA.out.c0; have a12 := HPA.out.c1; have b02 := HPB.out.c0; have b12 := HPB.out.c1; have c02 := HPC.out.c0; have c12 := HPC.out.c1; clear hb2; clear HC2)
        | (go_at_call 32; refine (HC3.out W2).mono ?_; rintro e w3 ⟨rfl, hb3⟩; replace HPA := hid (HPA.out.below hb3 HPA.out.lt); replace HPB := hid (HPB.out.below hb3 HPB.out.lt); replace HPC := hid (HPC.out.below hb3 HPC.out.lt); have e30 := HPC.out.c0; have e31 := HPC.out.c1; have e32 := HPC.out.f0; have e33 := HPC.out.f1; obtain ⟨W3, hW3⟩ : ∃ W3, (w3.setCell ⟨w.heap.size + 2, 0, none⟩ (.int .i64 CX)).setCell ⟨w.heap.size + 2, 1, none⟩ (.int .i64 CY) = W3 := ⟨_, rfl⟩; replace HPA := hid (show Pt W3 w.heap.size AX AY by rw [← hW3]; exact HPA.out.far (by omega) _ _); replace HPB := hid (show Pt W3 (w.heap.size + 1) BX BY by rw [← hW3]; exact HPB.out.far (by omega) _ _); replace HPC := hid (show Pt W3 (w.heap.size + 2) CX CY by rw [← hW3]; exact HPC.out.set _ _); replace HB := hid (show Below w.heap.size w W3 by rw [← hW3]; exact below_set2 (HB.out.trans (hb3.mono HB.out.size)) (by omega)); have a03 := HPA.out.c0; have a13 := HPA.out.c1; have b03 := HPB.out.c0; have b13 := HPB.out.c1; have c03 := HPC.out.c0; have c13 := HPC.out.c1; clear hb3; clear HC3)
        | (go_at_call 35; refine (HT.out W3).mono ?_; rintro e w4 ⟨rfl, hb4⟩; replace HPA := hid (HPA.out.below hb4 HPA.out.lt); replace HPB := hid (HPB.out.below hb4 HPB.out.lt); replace HPC := hid (HPC.out.below hb4 HPC.out.lt); replace HB := hid (HB.out.trans (hb4.mono HB.out.size)); have a04 := HPA.out.c0; have a14 := HPA.out.c1; have b04 := HPB.out.c0; have b14 := HPB.out.c1; have c04 := HPC.out.c0; have c14 := HPC.out.c1; clear hb4)
        | (go_at_call 47; refine (HX.out w4).mono ?_; rintro e w5 ⟨rfl, hw5⟩; subst hw5; clear HX)
        | (go_at_call 47; refine (HY.out w5).mono ?_; rintro e w6 ⟨rfl, hw6⟩; subst hw6; clear HY))
      go_ret
      exact ⟨by rw [HON.out]; rfl, HB.out⟩
    | true =>
      go_enter Try.func34, Try.ntmps34
      go_wp2_with (first
        | (go_at_call 32; refine (HC1.out wC).mono ?_; rintro e w1 ⟨rfl, hb1⟩; replace HPA := hid (HPA.out.below hb1 HPA.out.lt); replace HPB := hid (HPB.out.below hb1 HPB.out.lt); replace HPC := hid (HPC.out.below hb1 HPC.out.lt); have e10 := HPA.out.c0; have e11 := HPA.out.c1; have e12 := HPA.out.f0; have e13 := HPA.out.f1; obtain ⟨W1, hW1⟩ : ∃ W1, (w1.setCell ⟨w.heap.size, 0, none⟩ (.int .i64 AX)).setCell ⟨w.heap.size, 1, none⟩ (.int .i64 AY) = W1 := ⟨_, rfl⟩; replace HPA := hid (show Pt W1 w.heap.size AX AY by rw [← hW1]; exact HPA.out.set _ _); replace HPB := hid (show Pt W1 (w.heap.size + 1) bx by' by rw [← hW1]; exact HPB.out.far (by omega) _ _); replace HPC := hid (show Pt W1 (w.heap.size + 2) cx cy by rw [← hW1]; exact HPC.out.far (by omega) _ _); replace HB := hid (show Below w.heap.size w W1 by rw [← hW1]; exact below_set2 (HB.out.trans (hb1.mono HB.out.size)) (by omega)); have a01 := HPA.out.c0; have a11 := HPA.out.c1; have b01 := HPB.out.c0; have b11 := HPB.out.c1; have c01 := HPC.out.c0; have c11 := HPC.out.c1; clear hb1; clear HC1)
        | (go_at_call 32; refine (HC2.out W1).mono ?_; rintro e w2 ⟨rfl, hb2⟩; replace HPA := hid (HPA.out.below hb2 HPA.out.lt); replace HPB := hid (HPB.out.below hb2 HPB.out.lt); replace HPC := hid (HPC.out.below hb2 HPC.out.lt); have e20 := HPB.out.c0; have e21 := HPB.out.c1; have e22 := HPB.out.f0; have e23 := HPB.out.f1; obtain ⟨W2, hW2⟩ : ∃ W2, (w2.setCell ⟨w.heap.size + 1, 0, none⟩ (.int .i64 BX)).setCell ⟨w.heap.size + 1, 1, none⟩ (.int .i64 BY) = W2 := ⟨_, rfl⟩; replace HPA := hid (show Pt W2 w.heap.size AX AY by rw [← hW2]; exact HPA.out.far (by omega) _ _); replace HPB := hid (show Pt W2 (w.heap.size + 1) BX BY by rw [← hW2]; exact HPB.out.set _ _); replace HPC := hid (show Pt W2 (w.heap.size + 2) cx cy by rw [← hW2]; exact HPC.out.far (by omega) _ _); replace HB := hid (show Below w.heap.size w W2 by rw [← hW2]; exact below_set2 (HB.out.trans (hb2.mono HB.out.size)) (by omega)); have a02 := HPA.out.c0; have a12 := HPA.out.c1; have b02 := HPB.out.c0; have b12 := HPB.out.c1; have c02 := HPC.out.c0; have c12 := HPC.out.c1; clear hb2; clear HC2)
        | (go_at_call 32; refine (HC3.out W2).mono ?_; rintro e w3 ⟨rfl, hb3⟩; replace HPA := hid (HPA.out.below hb3 HPA.out.lt); replace HPB := hid (HPB.out.below hb3 HPB.out.lt); replace HPC := hid (HPC.out.below hb3 HPC.out.lt); have e30 := HPC.out.c0; have e31 := HPC.out.c1; have e32 := HPC.out.f0; have e33 := HPC.out.f1; obtain ⟨W3, hW3⟩ : ∃ W3, (w3.setCell ⟨w.heap.size + 2, 0, none⟩ (.int .i64 CX)).setCell ⟨w.heap.size + 2, 1, none⟩ (.int .i64 CY) = W3 := ⟨_, rfl⟩; replace HPA := hid (show Pt W3 w.heap.size AX AY by rw [← hW3]; exact HPA.out.far (by omega) _ _); replace HPB := hid (show Pt W3 (w.heap.size + 1) BX BY by rw [← hW3]; exact HPB.out.far (by omega) _ _); replace HPC := hid (show Pt W3 (w.heap.size + 2) CX CY by rw [← hW3]; exact HPC.out.set _ _); replace HB := hid (show Below w.heap.size w W3 by rw [← hW3]; exact below_set2 (HB.out.trans (hb3.mono HB.out.size)) (by omega)); have a03 := HPA.out.c0; have a13 := HPA.out.c1; have b03 := HPB.out.c0; have b13 := HPB.out.c1; have c03 := HPC.out.c0; have c13 := HPC.out.c1; clear hb3; clear HC3)
        | (go_at_call 35; refine (HT.out W3).mono ?_; rintro e w4 ⟨rfl, hb4⟩; replace HPA := hid (HPA.out.below hb4 HPA.out.lt); replace HPB := hid (HPB.out.below hb4 HPB.out.lt); replace HPC := hid (HPC.out.below hb4 HPC.out.lt); replace HB := hid (HB.out.trans (hb4.mono HB.out.size)); have a04 := HPA.out.c0; have a14 := HPA.out.c1; have b04 := HPB.out.c0; have b14 := HPB.out.c1; have c04 := HPC.out.c0; have c14 := HPC.out.c1; clear hb4)
        | (go_at_call 47; refine (HX.out w4).mono ?_; rintro e w5 ⟨rfl, hw5⟩; subst hw5; clear HX)
        | (go_at_call 47; refine (HY.out w5).mono ?_; rintro e w6 ⟨rfl, hw6⟩; subst hw6; clear HY))
      go_ret
      exact ⟨by rw [HON.out]; rfl, HB.out⟩































































































































































































































































end Go.Proofs.Ytlnjjkgjknheiaa
