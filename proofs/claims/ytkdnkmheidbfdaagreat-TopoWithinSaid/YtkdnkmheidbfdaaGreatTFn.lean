/-
  turn's none, Half, rank, Cmp, Between; the library's cmp.Compare.
-/
import Derived.Test.YtkdnkmheidbfdaaGreatMA
namespace Go.Proofs.YtkdnkmheidbfdaaGreat
open Go.RowKit Go.Sort

set_option maxHeartbeats 1600000 in
theorem turnNone_any (x y : Int) (w : World) :
    Calls Tryz.prog 203 #[pv x y] w fun e w' => e = .returned (.bool (noneD (x, y))) ∧ Below w.heap.size w w' := by
  obtain ⟨wA, hwA⟩ : ∃ wA, w.alloc (.cells #[.int .i64 x, .int .i64 y] 155) = wA := ⟨_, rfl⟩
  obtain ⟨hA, hBL, hszA⟩ := dbox1 hwA
  have HBL := hid hBL
  have a0 := hA.c0; have a1 := hA.c1
  have HN := hid (noneD_is x y)
  generalize noneD (x, y) = R at *
  clear hA hBL
  cases kx : (x == 0) <;> cases ky : (y == 0)
  · rcases (show (y < x ∧ ¬ x < y) ∨ (¬ y < x ∧ x < y) ∨ (¬ y < x ∧ ¬ x < y) by omega) with ⟨g1, g2⟩ | ⟨g1, g2⟩ | ⟨g1, g2⟩
    · have HP := hid (show R = (decide (y < -4194304) || decide (4194304 < x)) by
        have h := HN.out
        have hz : ¬ (x = 0 ∧ y = 0) := fun g => beq_eq_false_iff_ne.1 kx g.1
        rw [Bool.eq_iff_iff, Bool.or_eq_true, decide_eq_true_eq, decide_eq_true_eq, h]
        omega)
      clear HN
      cases k1 : decide (y < -4194304) <;> cases k2 : decide (4194304 < x) <;> (
        have K1 := hid k1
        have K2 := hid k2
        go_enter Tryz.func203, Tryz.ntmps203
        go_wp2
        go_ret
        exact ⟨by rw [HP.out, K1.out, K2.out]; rfl, HBL.out⟩)
    · have HP := hid (show R = (decide (x < -4194304) || decide (4194304 < y)) by
        have h := HN.out
        have hz : ¬ (x = 0 ∧ y = 0) := fun g => beq_eq_false_iff_ne.1 kx g.1
        rw [Bool.eq_iff_iff, Bool.or_eq_true, decide_eq_true_eq, decide_eq_true_eq, h]
        omega)
      clear HN
      cases k1 : decide (x < -4194304) <;> cases k2 : decide (4194304 < y) <;> (
        have K1 := hid k1
        have K2 := hid k2
        go_enter Tryz.func203, Tryz.ntmps203
        go_wp2
        go_ret
        exact ⟨by rw [HP.out, K1.out, K2.out]; rfl, HBL.out⟩)
    · have HP := hid (show R = (decide (x < -4194304) || decide (4194304 < x)) by
        have h := HN.out
        have hz : ¬ (x = 0 ∧ y = 0) := fun g => beq_eq_false_iff_ne.1 kx g.1
        rw [Bool.eq_iff_iff, Bool.or_eq_true, decide_eq_true_eq, decide_eq_true_eq, h]
        omega)
      clear HN
      cases k1 : decide (x < -4194304) <;> cases k2 : decide (4194304 < x) <;> (
        have K1 := hid k1
        have K2 := hid k2
        go_enter Tryz.func203, Tryz.ntmps203
        go_wp2
        go_ret
        exact ⟨by rw [HP.out, K1.out, K2.out]; rfl, HBL.out⟩)
  · rcases (show (y < x ∧ ¬ x < y) ∨ (¬ y < x ∧ x < y) ∨ (¬ y < x ∧ ¬ x < y) by omega) with ⟨g1, g2⟩ | ⟨g1, g2⟩ | ⟨g1, g2⟩
    · have HP := hid (show R = (decide (y < -4194304) || decide (4194304 < x)) by
        have h := HN.out
        have hz : ¬ (x = 0 ∧ y = 0) := fun g => beq_eq_false_iff_ne.1 kx g.1
        rw [Bool.eq_iff_iff, Bool.or_eq_true, decide_eq_true_eq, decide_eq_true_eq, h]
        omega)
      clear HN
      cases k1 : decide (y < -4194304) <;> cases k2 : decide (4194304 < x) <;> (
        have K1 := hid k1
        have K2 := hid k2
        go_enter Tryz.func203, Tryz.ntmps203
        go_wp2
        go_ret
        exact ⟨by rw [HP.out, K1.out, K2.out]; rfl, HBL.out⟩)
    · have HP := hid (show R = (decide (x < -4194304) || decide (4194304 < y)) by
        have h := HN.out
        have hz : ¬ (x = 0 ∧ y = 0) := fun g => beq_eq_false_iff_ne.1 kx g.1
        rw [Bool.eq_iff_iff, Bool.or_eq_true, decide_eq_true_eq, decide_eq_true_eq, h]
        omega)
      clear HN
      cases k1 : decide (x < -4194304) <;> cases k2 : decide (4194304 < y) <;> (
        have K1 := hid k1
        have K2 := hid k2
        go_enter Tryz.func203, Tryz.ntmps203
        go_wp2
        go_ret
        exact ⟨by rw [HP.out, K1.out, K2.out]; rfl, HBL.out⟩)
    · have HP := hid (show R = (decide (x < -4194304) || decide (4194304 < x)) by
        have h := HN.out
        have hz : ¬ (x = 0 ∧ y = 0) := fun g => beq_eq_false_iff_ne.1 kx g.1
        rw [Bool.eq_iff_iff, Bool.or_eq_true, decide_eq_true_eq, decide_eq_true_eq, h]
        omega)
      clear HN
      cases k1 : decide (x < -4194304) <;> cases k2 : decide (4194304 < x) <;> (
        have K1 := hid k1
        have K2 := hid k2
        go_enter Tryz.func203, Tryz.ntmps203
        go_wp2
        go_ret
        exact ⟨by rw [HP.out, K1.out, K2.out]; rfl, HBL.out⟩)
  · rcases (show (y < x ∧ ¬ x < y) ∨ (¬ y < x ∧ x < y) ∨ (¬ y < x ∧ ¬ x < y) by omega) with ⟨g1, g2⟩ | ⟨g1, g2⟩ | ⟨g1, g2⟩
    · have HP := hid (show R = (decide (y < -4194304) || decide (4194304 < x)) by
        have h := HN.out
        have hz : ¬ (x = 0 ∧ y = 0) := fun g => beq_eq_false_iff_ne.1 ky g.2
        rw [Bool.eq_iff_iff, Bool.or_eq_true, decide_eq_true_eq, decide_eq_true_eq, h]
        omega)
      clear HN
      cases k1 : decide (y < -4194304) <;> cases k2 : decide (4194304 < x) <;> (
        have K1 := hid k1
        have K2 := hid k2
        go_enter Tryz.func203, Tryz.ntmps203
        go_wp2
        go_ret
        exact ⟨by rw [HP.out, K1.out, K2.out]; rfl, HBL.out⟩)
    · have HP := hid (show R = (decide (x < -4194304) || decide (4194304 < y)) by
        have h := HN.out
        have hz : ¬ (x = 0 ∧ y = 0) := fun g => beq_eq_false_iff_ne.1 ky g.2
        rw [Bool.eq_iff_iff, Bool.or_eq_true, decide_eq_true_eq, decide_eq_true_eq, h]
        omega)
      clear HN
      cases k1 : decide (x < -4194304) <;> cases k2 : decide (4194304 < y) <;> (
        have K1 := hid k1
        have K2 := hid k2
        go_enter Tryz.func203, Tryz.ntmps203
        go_wp2
        go_ret
        exact ⟨by rw [HP.out, K1.out, K2.out]; rfl, HBL.out⟩)
    · have HP := hid (show R = (decide (x < -4194304) || decide (4194304 < x)) by
        have h := HN.out
        have hz : ¬ (x = 0 ∧ y = 0) := fun g => beq_eq_false_iff_ne.1 ky g.2
        rw [Bool.eq_iff_iff, Bool.or_eq_true, decide_eq_true_eq, decide_eq_true_eq, h]
        omega)
      clear HN
      cases k1 : decide (x < -4194304) <;> cases k2 : decide (4194304 < x) <;> (
        have K1 := hid k1
        have K2 := hid k2
        go_enter Tryz.func203, Tryz.ntmps203
        go_wp2
        go_ret
        exact ⟨by rw [HP.out, K1.out, K2.out]; rfl, HBL.out⟩)
  · have HR : Hid (R = true) := hid (by
      have h := HN.out
      have := beq_iff_eq.1 kx
      have := beq_iff_eq.1 ky
      cases R <;> simp at h ⊢ <;> omega)
    clear HN
    go_enter Tryz.func203, Tryz.ntmps203
    go_wp2
    go_ret
    exact ⟨by rw [HR.out]; rfl, HBL.out⟩

theorem turnHalf_any (x y : Int) (w : World) :
    Calls Tryz.prog 216 #[pv x y] w fun e w' => e = .returned (.int .i64 (halfD (x, y))) ∧ Below w.heap.size w w' := by
  obtain ⟨wA, hwA⟩ : ∃ wA, w.alloc (.cells #[.int .i64 x, .int .i64 y] 155) = wA := ⟨_, rfl⟩
  obtain ⟨hA, hBL, hszA⟩ := dbox1 hwA
  have HB := hid hBL
  have HA := hid hA
  have a0 := hA.c0; have a1 := hA.c1
  have HN := hid (turnNone_any x y wA)
  have HH := hid (halfD_is x y)
  generalize halfD (x, y) = R at *
  generalize noneD (x, y) = N at *
  clear hA hBL
  cases N with
  | true =>
    have HR : Hid (R = -1) := hid (by
      have h := HH.out
      rw [if_pos rfl] at h
      exact h)
    clear HH
    go_enter Tryz.func216, Tryz.ntmps216
    go_wp2_with (go_at_call 203; refine HN.out.mono ?_; rintro e w1 ⟨rfl, hb1⟩; replace HA := hid (HA.out.below hb1 HA.out.lt); replace HB := hid (HB.out.trans (hb1.mono HB.out.size)); have c0 := HA.out.c0; have c1 := HA.out.c1; clear hb1 HN)
    go_ret
    exact ⟨by rw [HR.out]; rfl, HB.out⟩
  | false =>
    rcases (show 0 < y ∨ (¬ 0 < y ∧ y = 0 ∧ 0 < x) ∨ (¬ 0 < y ∧ y = 0 ∧ ¬ 0 < x) ∨ (¬ 0 < y ∧ ¬ y = 0) by omega) with g0 | ⟨g0, g1, g2⟩ | ⟨g0, g1, g2⟩ | ⟨g0, g1⟩
    · have HR : Hid (R = 0) := hid (by
        have h := HH.out
        rw [if_neg (by simp), if_pos (by omega)] at h
        exact h)
      clear HH
      go_enter Tryz.func216, Tryz.ntmps216
      go_wp2_with (go_at_call 203; refine HN.out.mono ?_; rintro e w1 ⟨rfl, hb1⟩; replace HA := hid (HA.out.below hb1 HA.out.lt); replace HB := hid (HB.out.trans (hb1.mono HB.out.size)); have c0 := HA.out.c0; have c1 := HA.out.c1; clear hb1 HN)
      go_ret
      exact ⟨by rw [HR.out]; rfl, HB.out⟩
    · have HR : Hid (R = 0) := hid (by
        have h := HH.out
        rw [if_neg (by simp), if_pos (by omega)] at h
        exact h)
      clear HH
      have k1 : (y == 0) = true := by simp [g1]
      clear g1
      go_enter Tryz.func216, Tryz.ntmps216
      go_wp2_with (go_at_call 203; refine HN.out.mono ?_; rintro e w1 ⟨rfl, hb1⟩; replace HA := hid (HA.out.below hb1 HA.out.lt); replace HB := hid (HB.out.trans (hb1.mono HB.out.size)); have c0 := HA.out.c0; have c1 := HA.out.c1; clear hb1 HN)
      go_ret
      exact ⟨by rw [HR.out]; rfl, HB.out⟩
    · have HR : Hid (R = 1) := hid (by
        have h := HH.out
        rw [if_neg (by simp), if_neg (by omega)] at h
        exact h)
      clear HH
      have k1 : (y == 0) = true := by simp [g1]
      clear g1
      go_enter Tryz.func216, Tryz.ntmps216
      go_wp2_with (go_at_call 203; refine HN.out.mono ?_; rintro e w1 ⟨rfl, hb1⟩; replace HA := hid (HA.out.below hb1 HA.out.lt); replace HB := hid (HB.out.trans (hb1.mono HB.out.size)); have c0 := HA.out.c0; have c1 := HA.out.c1; clear hb1 HN)
      go_ret
      exact ⟨by rw [HR.out]; rfl, HB.out⟩
    · have HR : Hid (R = 1) := hid (by
        have h := HH.out
        rw [if_neg (by simp), if_neg (by omega)] at h
        exact h)
      clear HH
      have k1 : (y == 0) = false := by simp [g1]
      clear g1
      go_enter Tryz.func216, Tryz.ntmps216
      go_wp2_with (go_at_call 203; refine HN.out.mono ?_; rintro e w1 ⟨rfl, hb1⟩; replace HA := hid (HA.out.below hb1 HA.out.lt); replace HB := hid (HB.out.trans (hb1.mono HB.out.size)); have c0 := HA.out.c0; have c1 := HA.out.c1; clear hb1 HN)
      go_ret
      exact ⟨by rw [HR.out]; rfl, HB.out⟩


/-- The half, or what is behind both. -/
def rankD (d : Pp) : Int := if noneD d = true then 2 else halfD d
theorem rank_any (x y : Int) (w : World) :
    Calls Tryz.prog 202 #[pv x y] w fun e w' => e = .returned (.int .i64 (rankD (x, y))) ∧ Below w.heap.size w w' := by
  obtain ⟨wA, hwA⟩ : ∃ wA, w.alloc (.cells #[.int .i64 x, .int .i64 y] 155) = wA := ⟨_, rfl⟩
  obtain ⟨hA, hBL, hszA⟩ := dbox1 hwA
  have HB := hid hBL
  have HA := hid hA
  have a0 := hA.c0; have a1 := hA.c1
  have HN := hid (turnNone_any x y wA)
  have HH := hid (fun W => turnHalf_any x y W)
  have HR := hid (show rankD (x, y) = if noneD (x, y) = true then 2 else halfD (x, y) from rfl)
  generalize rankD (x, y) = R at *
  generalize halfD (x, y) = H at *
  generalize noneD (x, y) = N at *
  clear hA hBL
  cases N <;> (
    go_enter Tryz.func202, Tryz.ntmps202
    go_wp2_with (first
      | (go_at_call 203; refine HN.out.mono ?_; rintro e w1 ⟨rfl, hb1⟩; replace HA := hid (HA.out.below hb1 HA.out.lt); replace HB := hid (HB.out.trans (hb1.mono HB.out.size)); have c0 := HA.out.c0; have c1 := HA.out.c1; clear hb1 HN)
      | (go_at_call 216; refine (HH.out _).mono ?_; rintro e w1 ⟨rfl, hb1⟩; replace HB := hid (HB.out.trans (hb1.mono HB.out.size)); clear hb1 HH))
    go_ret
    exact ⟨by rw [HR.out]; rfl, HB.out⟩)

theorem compareI_any (x y : Int) (w : World) : Calls Tryz.prog 102 #[.int .i64 x, .int .i64 y] w fun e w' => e = .returned (.int .i64 (sgn (x - y))) ∧ Below w.heap.size w w' := by
  have HS := hid (sgn_is (x - y))
  generalize sgn (x - y) = S at *
  have HN := hid (fun (z : Int) (W : World) => (show Calls Tryz.prog 126 #[.int .i64 z] W fun e w' => e = .returned (.bool false) ∧ w' = W by
    go_enter Tryz.func126, Tryz.ntmps126
    go_wp2
    go_ret
    exact ⟨rfl, rfl⟩))
  rcases (show x < y ∨ (¬ x < y ∧ y < x) ∨ (¬ x < y ∧ ¬ y < x) by omega) with g | ⟨g, g2⟩ | ⟨g, g2⟩
  · have HR := hid (show S = -1 by have := HS.out; omega)
    go_enter Tryz.func102, Tryz.ntmps102
    go_wp2_with (go_at_call 126; refine (HN.out _ _).mono ?_; rintro e w1 ⟨rfl, rfl⟩)
    go_ret
    exact ⟨by rw [HR.out]; rfl, Below.refl _ _⟩
  · have HR := hid (show S = 1 by have := HS.out; omega)
    go_enter Tryz.func102, Tryz.ntmps102
    go_wp2_with (go_at_call 126; refine (HN.out _ _).mono ?_; rintro e w1 ⟨rfl, rfl⟩)
    go_ret
    exact ⟨by rw [HR.out]; rfl, Below.refl _ _⟩
  · have HR := hid (show S = 0 by have := HS.out; omega)
    go_enter Tryz.func102, Tryz.ntmps102
    go_wp2_with (go_at_call 126; refine (HN.out _ _).mono ?_; rintro e w1 ⟨rfl, rfl⟩)
    go_ret
    exact ⟨by rw [HR.out]; rfl, Below.refl _ _⟩
theorem compareL_any (x y : Int) (w : World) : Calls Tryz.prog 94 #[.int .i64 x, .int .i64 y] w fun e w' => e = .returned (.int .i64 (sgn (x - y))) ∧ Below w.heap.size w w' := by
  have HS := hid (sgn_is (x - y))
  generalize sgn (x - y) = S at *
  have HN := hid (fun (z : Int) (W : World) => (show Calls Tryz.prog 123 #[.int .i64 z] W fun e w' => e = .returned (.bool false) ∧ w' = W by
    go_enter Tryz.func123, Tryz.ntmps123
    go_wp2
    go_ret
    exact ⟨rfl, rfl⟩))
  rcases (show x < y ∨ (¬ x < y ∧ y < x) ∨ (¬ x < y ∧ ¬ y < x) by omega) with g | ⟨g, g2⟩ | ⟨g, g2⟩
  · have HR := hid (show S = -1 by have := HS.out; omega)
    go_enter Tryz.func94, Tryz.ntmps94
    go_wp2_with (go_at_call 123; refine (HN.out _ _).mono ?_; rintro e w1 ⟨rfl, rfl⟩)
    go_ret
    exact ⟨by rw [HR.out]; rfl, Below.refl _ _⟩
  · have HR := hid (show S = 1 by have := HS.out; omega)
    go_enter Tryz.func94, Tryz.ntmps94
    go_wp2_with (go_at_call 123; refine (HN.out _ _).mono ?_; rintro e w1 ⟨rfl, rfl⟩)
    go_ret
    exact ⟨by rw [HR.out]; rfl, Below.refl _ _⟩
  · have HR := hid (show S = 0 by have := HS.out; omega)
    go_enter Tryz.func94, Tryz.ntmps94
    go_wp2_with (go_at_call 123; refine (HN.out _ _).mono ?_; rintro e w1 ⟨rfl, rfl⟩)
    go_ret
    exact ⟨by rw [HR.out]; rfl, Below.refl _ _⟩

theorem cmp_rank (a b : Pp) : cmpD a b = if sgn (rankD a - rankD b) ≠ 0 ∨ noneD a = true then sgn (rankD a - rankD b) else sgn (a.2 * b.1 - a.1 * b.2) := by
  rw [cmpD_is]
  have e : sgn (a.2 * b.1 - a.1 * b.2) = -sgn (crossD a b) := by
    rw [← sgn_neg]
    unfold crossD
    rw [Int.mul_comm b.1 a.2]
    congr 1
    omega
  rw [e]
  have ka : noneD a = true → halfD a = -1 := fun h => by unfold halfD; rw [h]; rfl
  have kb : noneD b = true → halfD b = -1 := fun h => by unfold halfD; rw [h]; rfl
  have la : noneD a = false → halfD a = 0 ∨ halfD a = 1 := half_ok
  have lb : noneD b = false → halfD b = 0 ∨ halfD b = 1 := half_ok
  unfold rankD
  generalize sgn (crossD a b) = X at *
  generalize halfD a = x at *
  generalize halfD b = y at *
  cases hna : noneD a <;> cases hnb : noneD b
  · rcases la hna with rfl | rfl <;> rcases lb hnb with rfl | rfl <;> simp [sgn]
  · rcases la hna with rfl | rfl <;> rw [kb hnb] <;> simp [sgn]
  · rcases lb hnb with rfl | rfl <;> rw [ka hna] <;> simp [sgn]
  · rw [ka hna, kb hnb]
    simp [sgn]

set_option maxHeartbeats 1600000 in
theorem turnCmp_any (ax ay bx by' : Int) (w : World) :
    Calls Tryz.prog 190 #[pv ax ay, pv bx by'] w fun e w' => e = .returned (.int .i64 (cmpD (ax, ay) (bx, by'))) ∧ Below w.heap.size w w' := by
  obtain ⟨wA, hwA⟩ : ∃ wA, w.alloc (.cells #[.int .i64 ax, .int .i64 ay] 155) = wA := ⟨_, rfl⟩
  obtain ⟨wB, hwB⟩ : ∃ wB, wA.alloc (.cells #[.int .i64 bx, .int .i64 by'] 155) = wB := ⟨_, rfl⟩
  obtain ⟨hA, hB, hBL, hszB, hszA⟩ := dbox2 hwA hwB
  have HBL := hid hBL
  have HA := hid hA; have HB := hid hB
  have ka0 := cell_regrown hA.c0; have ka1 := cell_regrown hA.c1; have kb0 := cell_regrown hB.c0; have kb1 := cell_regrown hB.c1
  have ca := fun d os => rank_any ax ay (grow (redrawn wB d) os)
  have cb := fun d os => rank_any bx by' (grow (redrawn wB d) os)
  have cc := fun d os => compareI_any (rankD (ax, ay)) (rankD (bx, by')) (grow (redrawn wB d) os)
  have HN := hid (fun W => turnNone_any ax ay W)
  have HL := hid (fun p q W => compareL_any p q W)
  have HR := hid (cmp_rank (ax, ay) (bx, by'))
  have HSM := hid (show ¬ (sgn (rankD (ax, ay) - rankD (bx, by')) ≠ 0 ∨ noneD (ax, ay) = true) → (-4194304 ≤ ax ∧ ax ≤ 4194304 ∧ -4194304 ≤ ay ∧ ay ≤ 4194304) ∧ (-4194304 ≤ bx ∧ bx ≤ 4194304 ∧ -4194304 ≤ by' ∧ by' ≤ 4194304) from fun h => by
    have ha : noneD (ax, ay) = false := Bool.eq_false_iff.2 fun g => h (.inr g)
    have hs : rankD (ax, ay) - rankD (bx, by') = 0 := sgn_zero_iff.1 (Classical.byContradiction fun g => h (.inl g))
    have h1 := half_ok ha
    refine ⟨half_small (by omega), half_small fun g => ?_⟩
    have hb : noneD (bx, by') = true := by
      cases hb : noneD (bx, by')
      · have := half_ok hb
        omega
      · rfl
    unfold rankD at hs
    rw [ha, hb] at hs
    simp at hs
    omega)
  dsimp only at HR
  generalize cmpD (ax, ay) (bx, by') = R at *
  generalize rankD (ax, ay) = x at *
  generalize rankD (bx, by') = y at *
  generalize sgn (x - y) = S at *
  generalize noneD (ax, ay) = N at *
  clear hA hB hBL
  go_enter Tryz.func190, Tryz.ntmps190
  go_wp2
  refine wp_region_quiet_below (by kernel_rfl) (by kernel_rfl) ?_
  go_big_quiet_step (fail)
  go_big_quiet_step (exact Calls.regrown_of (ca _ _))
  go_big_quiet_step (fail)
  go_big_quiet_step (exact Calls.regrown_of (cb _ _))
  go_big_quiet_step (exact Calls.regrown_of (cc _ _))
  go_big_quiet_step (fail)
  refine wpQuiet_nil ?_
  intro W hW'
  obtain ⟨⟨dq, osq⟩, hW⟩ := hW'
  have hb : Below wB.heap.size wB W := by rw [hW]; exact below_regrown _ _ _
  clear hW ka0 ka1 kb0 kb1 ca cb cc
  replace HA := hid (HA.out.below hb HA.out.lt)
  replace HB := hid (HB.out.below hb HB.out.lt)
  have HW := hid (HBL.out.trans (hb.mono HBL.out.size))
  have a0 := HA.out.c0; have a1 := HA.out.c1; have b0 := HB.out.c0; have b1 := HB.out.c1
  clear hb HBL
  by_cases kS : S = 0
  rotate_left
  · have HV := hid (HR.out.trans (if_pos (.inl kS)))
    have kS2 : (S == 0) = false := beq_eq_false_iff_ne.2 kS
    clear HR HSM
    go_wp2
    go_ret
    exact ⟨by rw [HV.out]; rfl, HW.out⟩
  · subst kS
    cases N with
    | true =>
      have HV := hid (HR.out.trans (if_pos (.inr rfl)))
      clear HR HSM
      go_wp2_with (go_at_call 203; refine (HN.out _).mono ?_; rintro e w2 ⟨rfl, hb2⟩; replace HA := hid (HA.out.below hb2 HA.out.lt); replace HB := hid (HB.out.below hb2 HB.out.lt); replace HW := hid (HW.out.trans (hb2.mono HW.out.size)); have c0 := HA.out.c0; have c1 := HA.out.c1; have e0 := HB.out.c0; have e1 := HB.out.c1; clear hb2 HN)
      go_ret
      exact ⟨by rw [HV.out]; rfl, HW.out⟩
    | false =>
      have hng : ¬ ((0 : Int) ≠ 0 ∨ false = true) := fun h => h.elim (fun g => g rfl) (fun g => nomatch g)
      have HV := hid (HR.out.trans (if_neg hng))
      obtain ⟨hsx, hsy⟩ := HSM.out hng
      have m1 := mul22 (u := ay) (v := bx) (by omega) (by omega) (by omega) (by omega)
      have m2 := mul22 (u := ax) (v := by') (by omega) (by omega) (by omega) (by omega)
      clear HR HSM hng
      generalize hP : ay * bx = PP at *
      generalize hQ : ax * by' = QQ at *
      generalize hS : sgn (PP - QQ) = SS at *
      have HL2 := hid (fun W => (show Calls Tryz.prog 94 #[.int .i64 PP, .int .i64 QQ] W fun e w' => e = .returned (.int .i64 SS) ∧ Below W.heap.size W w' by rw [← hS]; exact HL.out PP QQ W))
      clear hS HL
      go_wp2_with (first
        | (go_at_call 203; refine (HN.out _).mono ?_; rintro e w2 ⟨rfl, hb2⟩; replace HA := hid (HA.out.below hb2 HA.out.lt); replace HB := hid (HB.out.below hb2 HB.out.lt); replace HW := hid (HW.out.trans (hb2.mono HW.out.size)); have c0 := HA.out.c0; have c1 := HA.out.c1; have e0 := HB.out.c0; have e1 := HB.out.c1; clear hb2 HN)
        | (go_at_call 94; refine (HL2.out _).mono ?_; rintro e w3 ⟨rfl, hb3⟩; replace HW := hid (HW.out.trans (hb3.mono HW.out.size)); clear hb3))
      go_ret
      exact ⟨by rw [HV.out]; rfl, HW.out⟩
end Go.Proofs.YtkdnkmheidbfdaaGreat
