/-
  The document's none, Half, Cmp, after, Between, Of.
-/
import Derived.Test.YtccbjohiaboipaaTRow
import Derived.Test.YtccbjohiaboipaaTTurn
import Derived.Test.YtccbjohiaboipaaQRefN
namespace Go.Proofs.Ytccbjohiaboipaa
open Go.RowKit Go.Sort

theorem noneD_is (x y : Int) : noneD (x, y) = true ↔ (x = 0 ∧ y = 0) ∨ 4194304 < x ∨ x < -4194304 ∨ 4194304 < y ∨ y < -4194304 := by
  unfold noneD
  simp only [Bool.or_eq_true, Bool.and_eq_true, beq_iff_eq, decide_eq_true_eq, or_assoc]

theorem refNone_any (x y : Int) (w : World) :
    Calls Try.prog 32 #[pv x y] w fun e w' => e = .returned (.bool (noneD (x, y))) ∧ Below w.heap.size w w' := by
  obtain ⟨wA, hwA⟩ : ∃ wA, w.alloc (.cells #[.int .i64 x, .int .i64 y] 37) = wA := ⟨_, rfl⟩
  obtain ⟨hA, hBL, hszA⟩ := dbox1 hwA
  have HBL := hid hBL
  have a0 := hA.c0; have a1 := hA.c1
  have HN := hid (noneD_is x y)
  generalize noneD (x, y) = R at *
  clear hA hBL
  rcases (show (x = 0 ∧ y = 0) ∨ (x = 0 ∧ ¬ y = 0 ∧ 4194304 < y) ∨ (x = 0 ∧ ¬ y = 0 ∧ ¬ 4194304 < y ∧ y < -4194304) ∨ (x = 0 ∧ ¬ y = 0 ∧ ¬ 4194304 < y ∧ ¬ y < -4194304) ∨ (¬ x = 0 ∧ 4194304 < x) ∨ (¬ x = 0 ∧ ¬ 4194304 < x ∧ x < -4194304) ∨ (¬ x = 0 ∧ ¬ 4194304 < x ∧ ¬ x < -4194304 ∧ 4194304 < y) ∨ (¬ x = 0 ∧ ¬ 4194304 < x ∧ ¬ x < -4194304 ∧ ¬ 4194304 < y ∧ y < -4194304) ∨ (¬ x = 0 ∧ ¬ 4194304 < x ∧ ¬ x < -4194304 ∧ ¬ 4194304 < y ∧ ¬ y < -4194304) by omega) with ⟨g0, g1⟩ | ⟨g0, g1, g2⟩ | ⟨g0, g1, g2, g3⟩ | ⟨g0, g1, g2, g3⟩ | ⟨g0, g1⟩ | ⟨g0, g1, g2⟩ | ⟨g0, g1, g2, g3⟩ | ⟨g0, g1, g2, g3, g4⟩ | ⟨g0, g1, g2, g3, g4⟩
  · have HR : Hid (R = true) := hid (by
      have h := HN.out
      cases R <;> simp at h ⊢ <;> omega)
    clear HN
    have kg0 : (x == 0) = true := by simp [g0]
    have kg1 : (y == 0) = true := by simp [g1]
    clear g0 g1
    go_enter Try.func32, Try.ntmps32
    go_wp2
    go_ret
    exact ⟨by rw [HR.out]; rfl, HBL.out⟩
  · have HR : Hid (R = true) := hid (by
      have h := HN.out
      cases R <;> simp at h ⊢ <;> omega)
    clear HN
    have kg0 : (x == 0) = true := by simp [g0]
    have kg1 : (y == 0) = false := by simp [g1]
    have l1 : ¬ 4194304 < x := by omega
    have l2 : ¬ x < -4194304 := by omega
    clear g0 g1
    go_enter Try.func32, Try.ntmps32
    go_wp2
    go_ret
    exact ⟨by rw [HR.out]; rfl, HBL.out⟩
  · have HR : Hid (R = true) := hid (by
      have h := HN.out
      cases R <;> simp at h ⊢ <;> omega)
    clear HN
    have kg0 : (x == 0) = true := by simp [g0]
    have kg1 : (y == 0) = false := by simp [g1]
    have l1 : ¬ 4194304 < x := by omega
    have l2 : ¬ x < -4194304 := by omega
    clear g0 g1
    go_enter Try.func32, Try.ntmps32
    go_wp2
    go_ret
    exact ⟨by rw [HR.out]; rfl, HBL.out⟩
  · have HR : Hid (R = false) := hid (by
      have h := HN.out
      cases R <;> simp at h ⊢ <;> omega)
    clear HN
    have kg0 : (x == 0) = true := by simp [g0]
    have kg1 : (y == 0) = false := by simp [g1]
    have l1 : ¬ 4194304 < x := by omega
    have l2 : ¬ x < -4194304 := by omega
    clear g0 g1
    go_enter Try.func32, Try.ntmps32
    go_wp2
    go_ret
    exact ⟨by rw [HR.out]; rfl, HBL.out⟩
  · have HR : Hid (R = true) := hid (by
      have h := HN.out
      cases R <;> simp at h ⊢ <;> omega)
    clear HN
    have kg0 : (x == 0) = false := by simp [g0]
    clear g0
    go_enter Try.func32, Try.ntmps32
    go_wp2
    go_ret
    exact ⟨by rw [HR.out]; rfl, HBL.out⟩
  · have HR : Hid (R = true) := hid (by
      have h := HN.out
      cases R <;> simp at h ⊢ <;> omega)
    clear HN
    have kg0 : (x == 0) = false := by simp [g0]
    clear g0
    go_enter Try.func32, Try.ntmps32
    go_wp2
    go_ret
    exact ⟨by rw [HR.out]; rfl, HBL.out⟩
  · have HR : Hid (R = true) := hid (by
      have h := HN.out
      cases R <;> simp at h ⊢ <;> omega)
    clear HN
    have kg0 : (x == 0) = false := by simp [g0]
    clear g0
    go_enter Try.func32, Try.ntmps32
    go_wp2
    go_ret
    exact ⟨by rw [HR.out]; rfl, HBL.out⟩
  · have HR : Hid (R = true) := hid (by
      have h := HN.out
      cases R <;> simp at h ⊢ <;> omega)
    clear HN
    have kg0 : (x == 0) = false := by simp [g0]
    clear g0
    go_enter Try.func32, Try.ntmps32
    go_wp2
    go_ret
    exact ⟨by rw [HR.out]; rfl, HBL.out⟩
  · have HR : Hid (R = false) := hid (by
      have h := HN.out
      cases R <;> simp at h ⊢ <;> omega)
    clear HN
    have kg0 : (x == 0) = false := by simp [g0]
    clear g0
    go_enter Try.func32, Try.ntmps32
    go_wp2
    go_ret
    exact ⟨by rw [HR.out]; rfl, HBL.out⟩

theorem halfD_is (x y : Int) : halfD (x, y) = if noneD (x, y) = true then -1 else if 0 < y ∨ (y = 0 ∧ 0 < x) then 0 else 1 := rfl
theorem refHalf_any (x y : Int) (w : World) :
    Calls Try.prog 15 #[pv x y] w fun e w' => e = .returned (.int .i64 (halfD (x, y))) ∧ Below w.heap.size w w' := by
  obtain ⟨wA, hwA⟩ : ∃ wA, w.alloc (.cells #[.int .i64 x, .int .i64 y] 37) = wA := ⟨_, rfl⟩
  obtain ⟨hA, hBL, hszA⟩ := dbox1 hwA
  have HB := hid hBL
  have HA := hid hA
  have a0 := hA.c0; have a1 := hA.c1
  have HN := hid (refNone_any x y wA)
  have HH := hid (halfD_is x y)
  generalize halfD (x, y) = R at *
  generalize noneD (x, y) = N at *
  clear hA hBL
  cases N with
  | true =>
    have HR : Hid (R = -1) := hid (by
      have h := HH.out
      rw [if_pos rfl] at h
      exact h)
    clear HH
    go_enter Try.func15, Try.ntmps15
    go_wp2_with (go_at_call 32; refine HN.out.mono ?_; rintro e w1 ⟨rfl, hb1⟩; replace HA := hid (HA.out.below hb1 HA.out.lt); replace HB := hid (HB.out.trans (hb1.mono HB.out.size)); have c0 := HA.out.c0; have c1 := HA.out.c1; clear hb1 HN)
    go_ret
    exact ⟨by rw [HR.out]; rfl, HB.out⟩
  | false =>
    rcases (show 0 < y ∨ (¬ 0 < y ∧ y = 0 ∧ 0 < x) ∨ (¬ 0 < y ∧ y = 0 ∧ ¬ 0 < x) ∨ (¬ 0 < y ∧ ¬ y = 0) by omega) with g0 | ⟨g0, g1, g2⟩ | ⟨g0, g1, g2⟩ | ⟨g0, g1⟩
    · have HR : Hid (R = 0) := hid (by
        have h := HH.out
        rw [if_neg (by simp), if_pos (by omega)] at h
        exact h)
      clear HH
      go_enter Try.func15, Try.ntmps15
      go_wp2_with (go_at_call 32; refine HN.out.mono ?_; rintro e w1 ⟨rfl, hb1⟩; replace HA := hid (HA.out.below hb1 HA.out.lt); replace HB := hid (HB.out.trans (hb1.mono HB.out.size)); have c0 := HA.out.c0; have c1 := HA.out.c1; clear hb1 HN)
      go_ret
      exact ⟨by rw [HR.out]; rfl, HB.out⟩
    · have HR : Hid (R = 0) := hid (by
        have h := HH.out
        rw [if_neg (by simp), if_pos (by omega)] at h
        exact h)
      clear HH
      have k1 : (y == 0) = true := by simp [g1]
      clear g1
      go_enter Try.func15, Try.ntmps15
      go_wp2_with (go_at_call 32; refine HN.out.mono ?_; rintro e w1 ⟨rfl, hb1⟩; replace HA := hid (HA.out.below hb1 HA.out.lt); replace HB := hid (HB.out.trans (hb1.mono HB.out.size)); have c0 := HA.out.c0; have c1 := HA.out.c1; clear hb1 HN)
      go_ret
      exact ⟨by rw [HR.out]; rfl, HB.out⟩
    · have HR : Hid (R = 1) := hid (by
        have h := HH.out
        rw [if_neg (by simp), if_neg (by omega)] at h
        exact h)
      clear HH
      have k1 : (y == 0) = true := by simp [g1]
      clear g1
      go_enter Try.func15, Try.ntmps15
      go_wp2_with (go_at_call 32; refine HN.out.mono ?_; rintro e w1 ⟨rfl, hb1⟩; replace HA := hid (HA.out.below hb1 HA.out.lt); replace HB := hid (HB.out.trans (hb1.mono HB.out.size)); have c0 := HA.out.c0; have c1 := HA.out.c1; clear hb1 HN)
      go_ret
      exact ⟨by rw [HR.out]; rfl, HB.out⟩
    · have HR : Hid (R = 1) := hid (by
        have h := HH.out
        rw [if_neg (by simp), if_neg (by omega)] at h
        exact h)
      clear HH
      have k1 : (y == 0) = false := by simp [g1]
      clear g1
      go_enter Try.func15, Try.ntmps15
      go_wp2_with (go_at_call 32; refine HN.out.mono ?_; rintro e w1 ⟨rfl, hb1⟩; replace HA := hid (HA.out.below hb1 HA.out.lt); replace HB := hid (HB.out.trans (hb1.mono HB.out.size)); have c0 := HA.out.c0; have c1 := HA.out.c1; clear hb1 HN)
      go_ret
      exact ⟨by rw [HR.out]; rfl, HB.out⟩

theorem mul22 {u v : Int} (hu0 : -4194304 ≤ u) (hu1 : u ≤ 4194304) (hv0 : -4194304 ≤ v) (hv1 : v ≤ 4194304) : -17592186044416 ≤ u * v ∧ u * v ≤ 17592186044416 := by
  have h := Int.natAbs_mul u v
  have h1 : u.natAbs ≤ 4194304 := by omega
  have h2 : v.natAbs ≤ 4194304 := by omega
  have h3 := Nat.mul_le_mul h1 h2
  omega
theorem half_small {x y : Int} (h : halfD (x, y) ≠ -1) : -4194304 ≤ x ∧ x ≤ 4194304 ∧ -4194304 ≤ y ∧ y ≤ 4194304 := by
  rw [halfD_is] at h
  split at h
  · exact absurd rfl h
  · rename_i g
    rw [noneD_is] at g
    omega
theorem cmpD_is (a b : Pp) : cmpD a b = if halfD a < 0 ∧ halfD b < 0 then 0 else if halfD a < 0 then 1 else if halfD b < 0 then -1 else if halfD a ≠ halfD b then sgn (halfD a - halfD b) else -sgn (crossD a b) := rfl
theorem cmpD_in (a b : Pp) : -1 ≤ cmpD a b ∧ cmpD a b ≤ 1 := by
  rw [cmpD_is]
  have h1 := sgn_is (halfD a - halfD b)
  have h2 := sgn_is (crossD a b)
  repeat' split
  all_goals omega
set_option maxHeartbeats 1600000 in
theorem refCmp_any (ax ay bx by' : Int) (w : World) :
    Calls Try.prog 14 #[pv ax ay, pv bx by'] w fun e w' => e = .returned (.int .i64 (cmpD (ax, ay) (bx, by'))) ∧ Below w.heap.size w w' := by
  obtain ⟨wA, hwA⟩ : ∃ wA, w.alloc (.cells #[.int .i64 ax, .int .i64 ay] 37) = wA := ⟨_, rfl⟩
  obtain ⟨wB, hwB⟩ : ∃ wB, wA.alloc (.cells #[.int .i64 bx, .int .i64 by'] 37) = wB := ⟨_, rfl⟩
  obtain ⟨hA, hB, hBL, hszB, hszA⟩ := dbox2 hwA hwB
  have HBL := hid hBL
  have HA := hid hA; have HB := hid hB
  have ka0 := cell_regrown hA.c0; have ka1 := cell_regrown hA.c1; have kb0 := cell_regrown hB.c0; have kb1 := cell_regrown hB.c1
  have ca := fun d os => refHalf_any ax ay (grow (redrawn wB d) os)
  have cb := fun d os => refHalf_any bx by' (grow (redrawn wB d) os)
  have HR := hid (cmpD_is (ax, ay) (bx, by'))
  have hx := halfD_in (ax, ay)
  have hy := halfD_in (bx, by')
  have HSX := hid (@half_small ax ay)
  have HSY := hid (@half_small bx by')
  have HX := hid (show crossD (ax, ay) (bx, by') = ax * by' - bx * ay from rfl)
  generalize cmpD (ax, ay) (bx, by') = R at *
  generalize crossD (ax, ay) (bx, by') = X at *
  generalize halfD (ax, ay) = x at *
  generalize halfD (bx, by') = y at *
  clear hA hB hBL
  go_enter Try.func14, Try.ntmps14
  go_wp2
  refine wp_region_quiet_below (by kernel_rfl) (by kernel_rfl) ?_
  go_big_quiet_step (fail)
  go_big_quiet_step (exact Calls.regrown_of (ca _ _))
  go_big_quiet_step (fail)
  go_big_quiet_step (exact Calls.regrown_of (cb _ _))
  go_big_quiet_step (fail)
  go_big_quiet_step (fail)
  refine wpQuiet_nil ?_
  intro W hW'
  obtain ⟨⟨dq, osq⟩, hW⟩ := hW'
  have hb : Below wB.heap.size wB W := by rw [hW]; exact below_regrown _ _ _
  clear hW ka0 ka1 kb0 kb1 ca cb
  have hA := HA.out.below hb HA.out.lt
  have hB := HB.out.below hb HB.out.lt
  have HW := hid (HBL.out.trans (hb.mono HBL.out.size))
  have a0 := hA.c0; have a1 := hA.c1; have b0 := hB.c0; have b1 := hB.c1
  clear hb hA hB HA HB HBL
  rcases hx with rfl | rfl | rfl <;> rcases hy with rfl | rfl | rfl
  · have HV : Hid (R = 0) := hid (by rw [HR.out]; rfl)
    clear HR HX HSX HSY
    go_wp2
    go_ret
    exact ⟨by rw [HV.out]; rfl, HW.out⟩
  · have HV : Hid (R = 1) := hid (by rw [HR.out]; rfl)
    clear HR HX HSX HSY
    go_wp2
    go_ret
    exact ⟨by rw [HV.out]; rfl, HW.out⟩
  · have HV : Hid (R = 1) := hid (by rw [HR.out]; rfl)
    clear HR HX HSX HSY
    go_wp2
    go_ret
    exact ⟨by rw [HV.out]; rfl, HW.out⟩
  · have HV : Hid (R = -1) := hid (by rw [HR.out]; rfl)
    clear HR HX HSX HSY
    go_wp2
    go_ret
    exact ⟨by rw [HV.out]; rfl, HW.out⟩
  · have HV : Hid (R = -sgn X) := hid (by rw [HR.out]; rfl)
    have hsx := HSX.out (by decide)
    have hsy := HSY.out (by decide)
    have m1 := mul22 (u := ax) (v := by') (by omega) (by omega) (by omega) (by omega)
    have m2 := mul22 (u := bx) (v := ay) (by omega) (by omega) (by omega) (by omega)
    have hsg := sgn_is X
    rw [HX.out] at HV hsg
    clear HR HX HSX HSY
    generalize hP : ax * by' = PP at *
    generalize hQ : bx * ay = QQ at *
    generalize hS : sgn (PP - QQ) = S at *
    go_wp2_with (go_at_call 31; refine (refSign_any (PP - QQ) _).mono ?_; rintro e w2 ⟨rfl, hw2⟩; subst hw2)
    go_ret
    exact ⟨by rw [HV.out]; rfl, HW.out⟩
  · have HV : Hid (R = -1) := hid (by rw [HR.out]; rfl)
    clear HR HX HSX HSY
    have hs : sgn (-1) = -1 := rfl
    go_wp2_with (go_at_call 31; refine (refSign_any (-1) _).mono ?_; rintro e w2 ⟨rfl, hw2⟩; subst hw2)
    go_ret
    exact ⟨by rw [HV.out]; rfl, HW.out⟩
  · have HV : Hid (R = -1) := hid (by rw [HR.out]; rfl)
    clear HR HX HSX HSY
    go_wp2
    go_ret
    exact ⟨by rw [HV.out]; rfl, HW.out⟩
  · have HV : Hid (R = 1) := hid (by rw [HR.out]; rfl)
    clear HR HX HSX HSY
    have hs : sgn (1) = 1 := rfl
    go_wp2_with (go_at_call 31; refine (refSign_any (1) _).mono ?_; rintro e w2 ⟨rfl, hw2⟩; subst hw2)
    go_ret
    exact ⟨by rw [HV.out]; rfl, HW.out⟩
  · have HV : Hid (R = -sgn X) := hid (by rw [HR.out]; rfl)
    have hsx := HSX.out (by decide)
    have hsy := HSY.out (by decide)
    have m1 := mul22 (u := ax) (v := by') (by omega) (by omega) (by omega) (by omega)
    have m2 := mul22 (u := bx) (v := ay) (by omega) (by omega) (by omega) (by omega)
    have hsg := sgn_is X
    rw [HX.out] at HV hsg
    clear HR HX HSX HSY
    generalize hP : ax * by' = PP at *
    generalize hQ : bx * ay = QQ at *
    generalize hS : sgn (PP - QQ) = S at *
    go_wp2_with (go_at_call 31; refine (refSign_any (PP - QQ) _).mono ?_; rintro e w2 ⟨rfl, hw2⟩; subst hw2)
    go_ret
    exact ⟨by rw [HV.out]; rfl, HW.out⟩
end Go.Proofs.Ytccbjohiaboipaa
