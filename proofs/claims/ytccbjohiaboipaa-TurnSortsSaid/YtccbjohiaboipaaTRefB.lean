/-
  The document's Of, after, Between.
-/
import Derived.Test.YtccbjohiaboipaaTRef
namespace Go.Proofs.Ytccbjohiaboipaa
open Go.RowKit Go.Sort


/-- From one point to another; are they unlike? -/
def ofD (a b : Pp) : Pp × Bool := ((b.1 - a.1, b.2 - a.2), !(a.1 == b.1 && a.2 == b.2))
set_option maxHeartbeats 800000 in
theorem refOf_any (ax ay bx by' : Int) (w : World) :
    Calls Try.prog 17 #[pv ax ay, pv bx by'] w fun e w' => e = .returned (.tuple #[pv (ofD (near ax, near ay) (near bx, near by')).1.1 (ofD (near ax, near ay) (near bx, near by')).1.2, .bool (ofD (near ax, near ay) (near bx, near by')).2]) ∧ Below w.heap.size w w' := by
  obtain ⟨wA, hwA⟩ : ∃ wA, w.alloc (.cells #[.int .i64 ax, .int .i64 ay] 30) = wA := ⟨_, rfl⟩
  obtain ⟨wB, hwB⟩ : ∃ wB, wA.alloc (.cells #[.int .i64 bx, .int .i64 by'] 30) = wB := ⟨_, rfl⟩
  obtain ⟨hA, hB, hBL, hszB, hszA⟩ := box2 hwA hwB
  obtain ⟨wC, hwC⟩ : ∃ wC, wB.alloc (.cells #[.int .i64 0, .int .i64 0] 37) = wC := ⟨_, rfl⟩
  have hC : Dt 37 wC (w.heap.size + 2) 0 0 := by rw [← hwC, ← hszB]; exact Dt.new _ wB 0 0
  replace hA : Pt wC w.heap.size ax ay := by rw [← hwC]; exact hA.alloc _
  replace hB : Pt wC (w.heap.size + 1) bx by' := by rw [← hwC]; exact hB.alloc _
  have HBL := hid (show Below w.heap.size w wC by rw [← hwC]; exact hBL.alloc (by omega) _)
  have HA := hid hA; have HB := hid hB; have HC := hid hC
  have ka0 := cell_regrown hA.c0; have ka1 := cell_regrown hA.c1; have kb0 := cell_regrown hB.c0; have kb1 := cell_regrown hB.c1
  have ca := fun d os => refClean_any ax ay (grow (redrawn wC d) os)
  have cb := fun d os => refClean_any bx by' (grow (redrawn wC d) os)
  have n1 := near_lo ax; have n2 := near_hi ax; have n3 := near_lo ay; have n4 := near_hi ay
  have n5 := near_lo bx; have n6 := near_hi bx; have n7 := near_lo by'; have n8 := near_hi by'
  generalize near ax = AX at *
  generalize near ay = AY at *
  generalize near bx = BX at *
  generalize near by' = BY at *
  clear hA hB hC hBL
  go_enter Try.func17, Try.ntmps17
  go_wp2
  refine wp_region_tail (C := fun w' => ∃ p : Regrown, w' = grow (redrawn wC p.d) p.os) 4 (by kernel_rfl) (by kernel_rfl) ⟨⟨wC.drawn + 1, #[]⟩, by rw [grow_empty]; rfl⟩ ?_
  simp only [List.take, List.drop]
  go_big_quiet_step (fail)
  go_big_quiet_step (exact Calls.regrown_of (ca _ _))
  go_big_quiet_step (fail)
  go_big_quiet_step (exact Calls.regrown_of (cb _ _))
  refine wpQuiet_nil ?_
  intro W hW'
  obtain ⟨⟨dq, osq⟩, hW⟩ := hW'
  have hb : Below wC.heap.size wC W := by rw [hW]; exact below_regrown _ _ _
  clear hW ka0 ka1 kb0 kb1 ca cb
  have hA := HA.out.below hb HA.out.lt
  have hB := HB.out.below hb HB.out.lt
  have hC := HC.out.below hb HC.out.lt
  have a0 := hA.c0; have a1 := hA.c1; have a2 := hA.f0; have a3 := hA.f1
  have b2 := hB.f0; have b3 := hB.f1
  obtain ⟨V1, hV1⟩ : ∃ V, (W.setCell ⟨w.heap.size, 0, none⟩ (.int .i64 AX)).setCell ⟨w.heap.size, 1, none⟩ (.int .i64 AY) = V := ⟨_, rfl⟩
  replace hA : Pt V1 w.heap.size AX AY := by rw [← hV1]; exact hA.set _ _
  replace hB : Pt V1 (w.heap.size + 1) bx by' := by rw [← hV1]; exact hB.far (by omega) _ _
  replace hC : Dt 37 V1 (w.heap.size + 2) 0 0 := by rw [← hV1]; exact hC.far (by omega) _ _
  have d0 := hB.c0; have d1 := hB.c1; have d2 := hB.f0; have d3 := hB.f1
  obtain ⟨V2, hV2⟩ : ∃ V, (V1.setCell ⟨w.heap.size + 1, 0, none⟩ (.int .i64 BX)).setCell ⟨w.heap.size + 1, 1, none⟩ (.int .i64 BY) = V := ⟨_, rfl⟩
  replace hA : Pt V2 w.heap.size AX AY := by rw [← hV2]; exact hA.far (by omega) _ _
  replace hB : Pt V2 (w.heap.size + 1) BX BY := by rw [← hV2]; exact hB.set _ _
  replace hC : Dt 37 V2 (w.heap.size + 2) 0 0 := by rw [← hV2]; exact hC.far (by omega) _ _
  have HVL := hid (show Below w.heap.size w V2 by rw [← hV2, ← hV1]; exact below_set2 (below_set2 (HBL.out.trans (hb.mono HBL.out.size)) (Nat.le_refl _)) (Nat.le_add_right _ _))
  have r0 := hA.c0; have r1 := hA.c1; have s0 := hB.c0; have s1 := hB.c1
  have ee0 := hC.c0; have ee1 := hC.c1; have ee2 := hC.f0; have ee3 := hC.f1
  have m1 : w.heap.size + 2 ≠ w.heap.size := by omega
  have m2 : w.heap.size + 2 ≠ w.heap.size + 1 := by omega
  clear hb hA hB hC HA HB HC HBL
  go_wp2
  have u1 : IntKind.i64.wrap (BX - AX) = BX - AX := by rw [IntKind.wrap_i64]; omega
  have u2 : IntKind.i64.wrap (BY - AY) = BY - AY := by rw [IntKind.wrap_i64]; omega
  have fin : ∀ r1 r2, (AX == BX) = r1 → (AY == BY) = r2 → (!(AX == BX && AY == BY)) = !(r1 && r2) := fun r1 r2 h1 h2 => by rw [h1, h2]
  cases h1 : (AX == BX) <;> cases h2 : (AY == BY) <;> (
    have HF := hid (fin _ _ h1 h2)
    go_region_held (fun w' => w'.cell? ⟨w.heap.size, 0, none⟩ = some (.int .i64 AX) ∧ w'.cell? ⟨w.heap.size, 1, none⟩ = some (.int .i64 AY) ∧ w'.cell? ⟨w.heap.size + 1, 0, none⟩ = some (.int .i64 BX) ∧ w'.cell? ⟨w.heap.size + 1, 1, none⟩ = some (.int .i64 BY)) (simp [go_sem, r0, r1, s0, s1, World.cell?_setCell_far]) (fail)
    go_wp2
    refine bodyPost_ret (v := .tuple #[pv (BX - AX) (BY - AY), .bool (!(AX == BX && AY == BY))]) (by rw [HF.out]; simp [results, Try.results17, go_sem, ee0, ee1]) rfl ⟨rfl, ?_⟩
    exact below_set2 HVL.out.drew (Nat.le_add_right _ _))


theorem afterD_is (d a b : Pp) : afterD d a b = if cmpD a d < 0 ∧ ¬ cmpD b d < 0 then 1 else if ¬ cmpD a d < 0 ∧ cmpD b d < 0 then -1 else cmpD a b := rfl
theorem afterD_in (d a b : Pp) : -1 ≤ afterD d a b ∧ afterD d a b ≤ 1 := by
  rw [afterD_is]
  have := cmpD_in a b
  split
  · omega
  · split <;> omega
set_option maxHeartbeats 800000 in
theorem refAfter_any (dx dy ax ay bx by' : Int) (w : World) :
    Calls Try.prog 35 #[pv dx dy, pv ax ay, pv bx by'] w fun e w' => e = .returned (.int .i64 (afterD (dx, dy) (ax, ay) (bx, by'))) ∧ Below w.heap.size w w' := by
  obtain ⟨wA, hwA⟩ : ∃ wA, w.alloc (.cells #[.int .i64 dx, .int .i64 dy] 37) = wA := ⟨_, rfl⟩
  obtain ⟨wB, hwB⟩ : ∃ wB, wA.alloc (.cells #[.int .i64 ax, .int .i64 ay] 37) = wB := ⟨_, rfl⟩
  obtain ⟨wC, hwC⟩ : ∃ wC, wB.alloc (.cells #[.int .i64 bx, .int .i64 by'] 37) = wC := ⟨_, rfl⟩
  obtain ⟨hA, hB, hC, hBL, hszC, hszA, hszB⟩ := dbox3 hwA hwB hwC
  have HBL := hid hBL
  have HA := hid hA; have HB := hid hB; have HC := hid hC
  have ka0 := cell_regrown hA.c0; have ka1 := cell_regrown hA.c1; have kb0 := cell_regrown hB.c0; have kb1 := cell_regrown hB.c1; have kc0 := cell_regrown hC.c0; have kc1 := cell_regrown hC.c1
  have ca := fun d os => refCmp_any ax ay dx dy (grow (redrawn wC d) os)
  have cb := fun d os => refCmp_any bx by' dx dy (grow (redrawn wC d) os)
  have HAB := hid (fun W => refCmp_any ax ay bx by' W)
  have HR := hid (afterD_is (dx, dy) (ax, ay) (bx, by'))
  generalize afterD (dx, dy) (ax, ay) (bx, by') = R at *
  generalize cmpD (ax, ay) (dx, dy) = x at *
  generalize cmpD (bx, by') (dx, dy) = y at *
  generalize cmpD (ax, ay) (bx, by') = z at *
  clear hA hB hC hBL
  rcases (show (x < 0 ∧ y < 0) ∨ (x < 0 ∧ ¬ y < 0) ∨ (¬ x < 0 ∧ y < 0) ∨ (¬ x < 0 ∧ ¬ y < 0) by omega) with ⟨gx, gy⟩ | ⟨gx, gy⟩ | ⟨gx, gy⟩ | ⟨gx, gy⟩
  · have HV : Hid (R = z) := hid (by rw [HR.out]; rw [if_neg (by omega), if_neg (by omega)])
    clear HR
    have kx : decide (x < 0) = true := by simp; omega
    have ky : decide (y < 0) = true := by simp; omega
    clear gx gy
    go_enter Try.func35, Try.ntmps35
    go_wp2
    refine wp_region_quiet_below (by kernel_rfl) (by kernel_rfl) ?_
    go_big_quiet_step (fail)
    go_big_quiet_step (fail)
    go_big_quiet_step (exact Calls.regrown_of (ca _ _))
    go_big_quiet_step (fail)
    go_big_quiet_step (fail)
    go_big_quiet_step (fail)
    go_big_quiet_step (exact Calls.regrown_of (cb _ _))
    go_big_quiet_step (fail)
    go_big_quiet_step (fail)
    go_big_quiet_step (fail)
    refine wpQuiet_nil ?_
    intro W hW'
    obtain ⟨⟨dq, osq⟩, hW⟩ := hW'
    have hb : Below wC.heap.size wC W := by rw [hW]; exact below_regrown _ _ _
    clear hW ka0 ka1 kb0 kb1 kc0 kc1 ca cb
    have hB := HB.out.below hb HB.out.lt
    have hC := HC.out.below hb HC.out.lt
    have HW := hid (HBL.out.trans (hb.mono HBL.out.size))
    have b0 := hB.c0; have b1 := hB.c1; have c0 := hC.c0; have c1 := hC.c1
    clear hb hB hC HA HB HC HBL
    go_wp2_with (go_at_call 14; refine (HAB.out _).mono ?_; rintro e w2 ⟨rfl, hb2⟩; replace HW := hid (HW.out.trans (hb2.mono HW.out.size)); clear hb2)
    go_ret
    exact ⟨by rw [HV.out]; rfl, HW.out⟩
  · have HV : Hid (R = 1) := hid (by rw [HR.out]; rw [if_pos (by omega)])
    clear HR
    have kx : decide (x < 0) = true := by simp; omega
    have ky : decide (y < 0) = false := by simp; omega
    clear gx gy
    go_enter Try.func35, Try.ntmps35
    go_wp2
    refine wp_region_quiet_below (by kernel_rfl) (by kernel_rfl) ?_
    go_big_quiet_step (fail)
    go_big_quiet_step (fail)
    go_big_quiet_step (exact Calls.regrown_of (ca _ _))
    go_big_quiet_step (fail)
    go_big_quiet_step (fail)
    go_big_quiet_step (fail)
    go_big_quiet_step (exact Calls.regrown_of (cb _ _))
    go_big_quiet_step (fail)
    go_big_quiet_step (fail)
    go_big_quiet_step (fail)
    refine wpQuiet_nil ?_
    intro W hW'
    obtain ⟨⟨dq, osq⟩, hW⟩ := hW'
    have hb : Below wC.heap.size wC W := by rw [hW]; exact below_regrown _ _ _
    clear hW ka0 ka1 kb0 kb1 kc0 kc1 ca cb
    have hB := HB.out.below hb HB.out.lt
    have hC := HC.out.below hb HC.out.lt
    have HW := hid (HBL.out.trans (hb.mono HBL.out.size))
    have b0 := hB.c0; have b1 := hB.c1; have c0 := hC.c0; have c1 := hC.c1
    clear hb hB hC HA HB HC HBL
    go_wp2
    go_ret
    exact ⟨by rw [HV.out]; rfl, HW.out⟩
  · have HV : Hid (R = -1) := hid (by rw [HR.out]; rw [if_neg (by omega), if_pos (by omega)])
    clear HR
    have kx : decide (x < 0) = false := by simp; omega
    have ky : decide (y < 0) = true := by simp; omega
    clear gx gy
    go_enter Try.func35, Try.ntmps35
    go_wp2
    refine wp_region_quiet_below (by kernel_rfl) (by kernel_rfl) ?_
    go_big_quiet_step (fail)
    go_big_quiet_step (fail)
    go_big_quiet_step (exact Calls.regrown_of (ca _ _))
    go_big_quiet_step (fail)
    go_big_quiet_step (fail)
    go_big_quiet_step (fail)
    go_big_quiet_step (exact Calls.regrown_of (cb _ _))
    go_big_quiet_step (fail)
    go_big_quiet_step (fail)
    go_big_quiet_step (fail)
    refine wpQuiet_nil ?_
    intro W hW'
    obtain ⟨⟨dq, osq⟩, hW⟩ := hW'
    have hb : Below wC.heap.size wC W := by rw [hW]; exact below_regrown _ _ _
    clear hW ka0 ka1 kb0 kb1 kc0 kc1 ca cb
    have hB := HB.out.below hb HB.out.lt
    have hC := HC.out.below hb HC.out.lt
    have HW := hid (HBL.out.trans (hb.mono HBL.out.size))
    have b0 := hB.c0; have b1 := hB.c1; have c0 := hC.c0; have c1 := hC.c1
    clear hb hB hC HA HB HC HBL
    go_wp2
    go_ret
    exact ⟨by rw [HV.out]; rfl, HW.out⟩
  · have HV : Hid (R = z) := hid (by rw [HR.out]; rw [if_neg (by omega), if_neg (by omega)])
    clear HR
    have kx : decide (x < 0) = false := by simp; omega
    have ky : decide (y < 0) = false := by simp; omega
    clear gx gy
    go_enter Try.func35, Try.ntmps35
    go_wp2
    refine wp_region_quiet_below (by kernel_rfl) (by kernel_rfl) ?_
    go_big_quiet_step (fail)
    go_big_quiet_step (fail)
    go_big_quiet_step (exact Calls.regrown_of (ca _ _))
    go_big_quiet_step (fail)
    go_big_quiet_step (fail)
    go_big_quiet_step (fail)
    go_big_quiet_step (exact Calls.regrown_of (cb _ _))
    go_big_quiet_step (fail)
    go_big_quiet_step (fail)
    go_big_quiet_step (fail)
    refine wpQuiet_nil ?_
    intro W hW'
    obtain ⟨⟨dq, osq⟩, hW⟩ := hW'
    have hb : Below wC.heap.size wC W := by rw [hW]; exact below_regrown _ _ _
    clear hW ka0 ka1 kb0 kb1 kc0 kc1 ca cb
    have hB := HB.out.below hb HB.out.lt
    have hC := HC.out.below hb HC.out.lt
    have HW := hid (HBL.out.trans (hb.mono HBL.out.size))
    have b0 := hB.c0; have b1 := hB.c1; have c0 := hC.c0; have c1 := hC.c1
    clear hb hB hC HA HB HC HBL
    go_wp2_with (go_at_call 14; refine (HAB.out _).mono ?_; rintro e w2 ⟨rfl, hb2⟩; replace HW := hid (HW.out.trans (hb2.mono HW.out.size)); clear hb2)
    go_ret
    exact ⟨by rw [HV.out]; rfl, HW.out⟩

theorem betwD_is (a b d : Pp) : betwD a b d = (!noneD a && !noneD b && !noneD d && !(cmpD a d == 0) && !(cmpD b d == 0) && (cmpD a b == 0 || decide (afterD a d b < 0))) := rfl
set_option maxHeartbeats 3200000 in
theorem refBetween_any (ax ay bx by' dx dy : Int) (w : World) :
    Calls Try.prog 18 #[pv ax ay, pv bx by', pv dx dy] w fun e w' => e = .returned (.bool (betwD (ax, ay) (bx, by') (dx, dy))) ∧ Below w.heap.size w w' := by
  obtain ⟨wA, hwA⟩ : ∃ wA, w.alloc (.cells #[.int .i64 ax, .int .i64 ay] 37) = wA := ⟨_, rfl⟩
  obtain ⟨wB, hwB⟩ : ∃ wB, wA.alloc (.cells #[.int .i64 bx, .int .i64 by'] 37) = wB := ⟨_, rfl⟩
  obtain ⟨wC, hwC⟩ : ∃ wC, wB.alloc (.cells #[.int .i64 dx, .int .i64 dy] 37) = wC := ⟨_, rfl⟩
  obtain ⟨hA, hB, hC, hBL, hszC, hszA, hszB⟩ := dbox3 hwA hwB hwC
  have HBL := hid hBL
  have HA := hid hA; have HB := hid hB; have HC := hid hC
  have a0 := hA.c0; have a1 := hA.c1; have b0 := hB.c0; have b1 := hB.c1; have c0 := hC.c0; have c1 := hC.c1
  have H1 := hid (fun W => refNone_any ax ay W)
  have H2 := hid (fun W => refNone_any bx by' W)
  have H3 := hid (fun W => refNone_any dx dy W)
  have H4 := hid (fun W => refCmp_any ax ay dx dy W)
  have H5 := hid (fun W => refCmp_any bx by' dx dy W)
  have H6 := hid (fun W => refCmp_any ax ay bx by' W)
  have H7 := hid (fun W => refAfter_any ax ay dx dy bx by' W)
  have HR := hid (betwD_is (ax, ay) (bx, by') (dx, dy))
  generalize betwD (ax, ay) (bx, by') (dx, dy) = R at *
  generalize noneD (ax, ay) = na at *
  generalize noneD (bx, by') = nb at *
  generalize noneD (dx, dy) = nd at *
  generalize cmpD (ax, ay) (dx, dy) = x at *
  generalize cmpD (bx, by') (dx, dy) = y at *
  generalize cmpD (ax, ay) (bx, by') = z at *
  generalize afterD (ax, ay) (dx, dy) (bx, by') = s at *
  clear hA hB hC hBL
  cases na with
  | true =>
    have HV : Hid (R = false) := hid (by rw [HR.out]; rfl)
    clear HR
    go_enter Try.func18, Try.ntmps18
    go_wp2_with (first
      | (go_at_call 32; refine (H1.out _).mono ?_; rintro e w1 ⟨rfl, hb1⟩; replace HA := hid (HA.out.below hb1 HA.out.lt); replace HB := hid (HB.out.below hb1 HB.out.lt); replace HC := hid (HC.out.below hb1 HC.out.lt); replace HBL := hid (HBL.out.trans (hb1.mono HBL.out.size)); have cHA01 := HA.out.c0; have cHA11 := HA.out.c1; have cHB01 := HB.out.c0; have cHB11 := HB.out.c1; have cHC01 := HC.out.c0; have cHC11 := HC.out.c1; clear hb1 H1)
      | (go_at_call 32; refine (H2.out _).mono ?_; rintro e w2 ⟨rfl, hb2⟩; replace HA := hid (HA.out.below hb2 HA.out.lt); replace HB := hid (HB.out.below hb2 HB.out.lt); replace HC := hid (HC.out.below hb2 HC.out.lt); replace HBL := hid (HBL.out.trans (hb2.mono HBL.out.size)); have cHA02 := HA.out.c0; have cHA12 := HA.out.c1; have cHB02 := HB.out.c0; have cHB12 := HB.out.c1; have cHC02 := HC.out.c0; have cHC12 := HC.out.c1; clear hb2 H2)
      | (go_at_call 32; refine (H3.out _).mono ?_; rintro e w3 ⟨rfl, hb3⟩; replace HA := hid (HA.out.below hb3 HA.out.lt); replace HB := hid (HB.out.below hb3 HB.out.lt); replace HC := hid (HC.out.below hb3 HC.out.lt); replace HBL := hid (HBL.out.trans (hb3.mono HBL.out.size)); have cHA03 := HA.out.c0; have cHA13 := HA.out.c1; have cHB03 := HB.out.c0; have cHB13 := HB.out.c1; have cHC03 := HC.out.c0; have cHC13 := HC.out.c1; clear hb3 H3)
      | (go_at_call 14; refine (H4.out _).mono ?_; rintro e w4 ⟨rfl, hb4⟩; replace HA := hid (HA.out.below hb4 HA.out.lt); replace HB := hid (HB.out.below hb4 HB.out.lt); replace HC := hid (HC.out.below hb4 HC.out.lt); replace HBL := hid (HBL.out.trans (hb4.mono HBL.out.size)); have cHA04 := HA.out.c0; have cHA14 := HA.out.c1; have cHB04 := HB.out.c0; have cHB14 := HB.out.c1; have cHC04 := HC.out.c0; have cHC14 := HC.out.c1; clear hb4 H4)
      | (go_at_call 14; refine (H5.out _).mono ?_; rintro e w5 ⟨rfl, hb5⟩; replace HA := hid (HA.out.below hb5 HA.out.lt); replace HB := hid (HB.out.below hb5 HB.out.lt); replace HC := hid (HC.out.below hb5 HC.out.lt); replace HBL := hid (HBL.out.trans (hb5.mono HBL.out.size)); have cHA05 := HA.out.c0; have cHA15 := HA.out.c1; have cHB05 := HB.out.c0; have cHB15 := HB.out.c1; have cHC05 := HC.out.c0; have cHC15 := HC.out.c1; clear hb5 H5)
      | (go_at_call 14; refine (H6.out _).mono ?_; rintro e w6 ⟨rfl, hb6⟩; replace HA := hid (HA.out.below hb6 HA.out.lt); replace HB := hid (HB.out.below hb6 HB.out.lt); replace HC := hid (HC.out.below hb6 HC.out.lt); replace HBL := hid (HBL.out.trans (hb6.mono HBL.out.size)); have cHA06 := HA.out.c0; have cHA16 := HA.out.c1; have cHB06 := HB.out.c0; have cHB16 := HB.out.c1; have cHC06 := HC.out.c0; have cHC16 := HC.out.c1; clear hb6 H6)
      | (go_at_call 35; refine (H7.out _).mono ?_; rintro e w7 ⟨rfl, hb7⟩; replace HA := hid (HA.out.below hb7 HA.out.lt); replace HB := hid (HB.out.below hb7 HB.out.lt); replace HC := hid (HC.out.below hb7 HC.out.lt); replace HBL := hid (HBL.out.trans (hb7.mono HBL.out.size)); have cHA07 := HA.out.c0; have cHA17 := HA.out.c1; have cHB07 := HB.out.c0; have cHB17 := HB.out.c1; have cHC07 := HC.out.c0; have cHC17 := HC.out.c1; clear hb7 H7))
    go_ret
    exact ⟨by rw [HV.out]; rfl, HBL.out⟩
  | false =>
    cases nb with
    | true =>
      have HV : Hid (R = false) := hid (by rw [HR.out]; rfl)
      clear HR
      go_enter Try.func18, Try.ntmps18
      go_wp2_with (first
        | (go_at_call 32; refine (H1.out _).mono ?_; rintro e w1 ⟨rfl, hb1⟩; replace HA := hid (HA.out.below hb1 HA.out.lt); replace HB := hid (HB.out.below hb1 HB.out.lt); replace HC := hid (HC.out.below hb1 HC.out.lt); replace HBL := hid (HBL.out.trans (hb1.mono HBL.out.size)); have cHA01 := HA.out.c0; have cHA11 := HA.out.c1; have cHB01 := HB.out.c0; have cHB11 := HB.out.c1; have cHC01 := HC.out.c0; have cHC11 := HC.out.c1; clear hb1 H1)
        | (go_at_call 32; refine (H2.out _).mono ?_; rintro e w2 ⟨rfl, hb2⟩; replace HA := hid (HA.out.below hb2 HA.out.lt); replace HB := hid (HB.out.below hb2 HB.out.lt); replace HC := hid (HC.out.below hb2 HC.out.lt); replace HBL := hid (HBL.out.trans (hb2.mono HBL.out.size)); have cHA02 := HA.out.c0; have cHA12 := HA.out.c1; have cHB02 := HB.out.c0; have cHB12 := HB.out.c1; have cHC02 := HC.out.c0; have cHC12 := HC.out.c1; clear hb2 H2)
        | (go_at_call 32; refine (H3.out _).mono ?_; rintro e w3 ⟨rfl, hb3⟩; replace HA := hid (HA.out.below hb3 HA.out.lt); replace HB := hid (HB.out.below hb3 HB.out.lt); replace HC := hid (HC.out.below hb3 HC.out.lt); replace HBL := hid (HBL.out.trans (hb3.mono HBL.out.size)); have cHA03 := HA.out.c0; have cHA13 := HA.out.c1; have cHB03 := HB.out.c0; have cHB13 := HB.out.c1; have cHC03 := HC.out.c0; have cHC13 := HC.out.c1; clear hb3 H3)
        | (go_at_call 14; refine (H4.out _).mono ?_; rintro e w4 ⟨rfl, hb4⟩; replace HA := hid (HA.out.below hb4 HA.out.lt); replace HB := hid (HB.out.below hb4 HB.out.lt); replace HC := hid (HC.out.below hb4 HC.out.lt); replace HBL := hid (HBL.out.trans (hb4.mono HBL.out.size)); have cHA04 := HA.out.c0; have cHA14 := HA.out.c1; have cHB04 := HB.out.c0; have cHB14 := HB.out.c1; have cHC04 := HC.out.c0; have cHC14 := HC.out.c1; clear hb4 H4)
        | (go_at_call 14; refine (H5.out _).mono ?_; rintro e w5 ⟨rfl, hb5⟩; replace HA := hid (HA.out.below hb5 HA.out.lt); replace HB := hid (HB.out.below hb5 HB.out.lt); replace HC := hid (HC.out.below hb5 HC.out.lt); replace HBL := hid (HBL.out.trans (hb5.mono HBL.out.size)); have cHA05 := HA.out.c0; have cHA15 := HA.out.c1; have cHB05 := HB.out.c0; have cHB15 := HB.out.c1; have cHC05 := HC.out.c0; have cHC15 := HC.out.c1; clear hb5 H5)
        | (go_at_call 14; refine (H6.out _).mono ?_; rintro e w6 ⟨rfl, hb6⟩; replace HA := hid (HA.out.below hb6 HA.out.lt); replace HB := hid (HB.out.below hb6 HB.out.lt); replace HC := hid (HC.out.below hb6 HC.out.lt); replace HBL := hid (HBL.out.trans (hb6.mono HBL.out.size)); have cHA06 := HA.out.c0; have cHA16 := HA.out.c1; have cHB06 := HB.out.c0; have cHB16 := HB.out.c1; have cHC06 := HC.out.c0; have cHC16 := HC.out.c1; clear hb6 H6)
        | (go_at_call 35; refine (H7.out _).mono ?_; rintro e w7 ⟨rfl, hb7⟩; replace HA := hid (HA.out.below hb7 HA.out.lt); replace HB := hid (HB.out.below hb7 HB.out.lt); replace HC := hid (HC.out.below hb7 HC.out.lt); replace HBL := hid (HBL.out.trans (hb7.mono HBL.out.size)); have cHA07 := HA.out.c0; have cHA17 := HA.out.c1; have cHB07 := HB.out.c0; have cHB17 := HB.out.c1; have cHC07 := HC.out.c0; have cHC17 := HC.out.c1; clear hb7 H7))
      go_ret
      exact ⟨by rw [HV.out]; rfl, HBL.out⟩
    | false =>
      cases nd with
      | true =>
        have HV : Hid (R = false) := hid (by rw [HR.out]; rfl)
        clear HR
        go_enter Try.func18, Try.ntmps18
        go_wp2_with (first
          | (go_at_call 32; refine (H1.out _).mono ?_; rintro e w1 ⟨rfl, hb1⟩; replace HA := hid (HA.out.below hb1 HA.out.lt); replace HB := hid (HB.out.below hb1 HB.out.lt); replace HC := hid (HC.out.below hb1 HC.out.lt); replace HBL := hid (HBL.out.trans (hb1.mono HBL.out.size)); have cHA01 := HA.out.c0; have cHA11 := HA.out.c1; have cHB01 := HB.out.c0; have cHB11 := HB.out.c1; have cHC01 := HC.out.c0; have cHC11 := HC.out.c1; clear hb1 H1)
          | (go_at_call 32; refine (H2.out _).mono ?_; rintro e w2 ⟨rfl, hb2⟩; replace HA := hid (HA.out.below hb2 HA.out.lt); replace HB := hid (HB.out.below hb2 HB.out.lt); replace HC := hid (HC.out.below hb2 HC.out.lt); replace HBL := hid (HBL.out.trans (hb2.mono HBL.out.size)); have cHA02 := HA.out.c0; have cHA12 := HA.out.c1; have cHB02 := HB.out.c0; have cHB12 := HB.out.c1; have cHC02 := HC.out.c0; have cHC12 := HC.out.c1; clear hb2 H2)
          | (go_at_call 32; refine (H3.out _).mono ?_; rintro e w3 ⟨rfl, hb3⟩; replace HA := hid (HA.out.below hb3 HA.out.lt); replace HB := hid (HB.out.below hb3 HB.out.lt); replace HC := hid (HC.out.below hb3 HC.out.lt); replace HBL := hid (HBL.out.trans (hb3.mono HBL.out.size)); have cHA03 := HA.out.c0; have cHA13 := HA.out.c1; have cHB03 := HB.out.c0; have cHB13 := HB.out.c1; have cHC03 := HC.out.c0; have cHC13 := HC.out.c1; clear hb3 H3)
          | (go_at_call 14; refine (H4.out _).mono ?_; rintro e w4 ⟨rfl, hb4⟩; replace HA := hid (HA.out.below hb4 HA.out.lt); replace HB := hid (HB.out.below hb4 HB.out.lt); replace HC := hid (HC.out.below hb4 HC.out.lt); replace HBL := hid (HBL.out.trans (hb4.mono HBL.out.size)); have cHA04 := HA.out.c0; have cHA14 := HA.out.c1; have cHB04 := HB.out.c0; have cHB14 := HB.out.c1; have cHC04 := HC.out.c0; have cHC14 := HC.out.c1; clear hb4 H4)
          | (go_at_call 14; refine (H5.out _).mono ?_; rintro e w5 ⟨rfl, hb5⟩; replace HA := hid (HA.out.below hb5 HA.out.lt); replace HB := hid (HB.out.below hb5 HB.out.lt); replace HC := hid (HC.out.below hb5 HC.out.lt); replace HBL := hid (HBL.out.trans (hb5.mono HBL.out.size)); have cHA05 := HA.out.c0; have cHA15 := HA.out.c1; have cHB05 := HB.out.c0; have cHB15 := HB.out.c1; have cHC05 := HC.out.c0; have cHC15 := HC.out.c1; clear hb5 H5)
          | (go_at_call 14; refine (H6.out _).mono ?_; rintro e w6 ⟨rfl, hb6⟩; replace HA := hid (HA.out.below hb6 HA.out.lt); replace HB := hid (HB.out.below hb6 HB.out.lt); replace HC := hid (HC.out.below hb6 HC.out.lt); replace HBL := hid (HBL.out.trans (hb6.mono HBL.out.size)); have cHA06 := HA.out.c0; have cHA16 := HA.out.c1; have cHB06 := HB.out.c0; have cHB16 := HB.out.c1; have cHC06 := HC.out.c0; have cHC16 := HC.out.c1; clear hb6 H6)
          | (go_at_call 35; refine (H7.out _).mono ?_; rintro e w7 ⟨rfl, hb7⟩; replace HA := hid (HA.out.below hb7 HA.out.lt); replace HB := hid (HB.out.below hb7 HB.out.lt); replace HC := hid (HC.out.below hb7 HC.out.lt); replace HBL := hid (HBL.out.trans (hb7.mono HBL.out.size)); have cHA07 := HA.out.c0; have cHA17 := HA.out.c1; have cHB07 := HB.out.c0; have cHB17 := HB.out.c1; have cHC07 := HC.out.c0; have cHC17 := HC.out.c1; clear hb7 H7))
        go_ret
        exact ⟨by rw [HV.out]; rfl, HBL.out⟩
      | false =>
        cases hx : (x == 0) with
        | true =>
          have HV : Hid (R = false) := hid (by rw [HR.out, hx]; rfl)
          clear HR
          go_enter Try.func18, Try.ntmps18
          go_wp2_with (first
            | (go_at_call 32; refine (H1.out _).mono ?_; rintro e w1 ⟨rfl, hb1⟩; replace HA := hid (HA.out.below hb1 HA.out.lt); replace HB := hid (HB.out.below hb1 HB.out.lt); replace HC := hid (HC.out.below hb1 HC.out.lt); replace HBL := hid (HBL.out.trans (hb1.mono HBL.out.size)); have cHA01 := HA.out.c0; have cHA11 := HA.out.c1; have cHB01 := HB.out.c0; have cHB11 := HB.out.c1; have cHC01 := HC.out.c0; have cHC11 := HC.out.c1; clear hb1 H1)
            | (go_at_call 32; refine (H2.out _).mono ?_; rintro e w2 ⟨rfl, hb2⟩; replace HA := hid (HA.out.below hb2 HA.out.lt); replace HB := hid (HB.out.below hb2 HB.out.lt); replace HC := hid (HC.out.below hb2 HC.out.lt); replace HBL := hid (HBL.out.trans (hb2.mono HBL.out.size)); have cHA02 := HA.out.c0; have cHA12 := HA.out.c1; have cHB02 := HB.out.c0; have cHB12 := HB.out.c1; have cHC02 := HC.out.c0; have cHC12 := HC.out.c1; clear hb2 H2)
            | (go_at_call 32; refine (H3.out _).mono ?_; rintro e w3 ⟨rfl, hb3⟩; replace HA := hid (HA.out.below hb3 HA.out.lt); replace HB := hid (HB.out.below hb3 HB.out.lt); replace HC := hid (HC.out.below hb3 HC.out.lt); replace HBL := hid (HBL.out.trans (hb3.mono HBL.out.size)); have cHA03 := HA.out.c0; have cHA13 := HA.out.c1; have cHB03 := HB.out.c0; have cHB13 := HB.out.c1; have cHC03 := HC.out.c0; have cHC13 := HC.out.c1; clear hb3 H3)
            | (go_at_call 14; refine (H4.out _).mono ?_; rintro e w4 ⟨rfl, hb4⟩; replace HA := hid (HA.out.below hb4 HA.out.lt); replace HB := hid (HB.out.below hb4 HB.out.lt); replace HC := hid (HC.out.below hb4 HC.out.lt); replace HBL := hid (HBL.out.trans (hb4.mono HBL.out.size)); have cHA04 := HA.out.c0; have cHA14 := HA.out.c1; have cHB04 := HB.out.c0; have cHB14 := HB.out.c1; have cHC04 := HC.out.c0; have cHC14 := HC.out.c1; clear hb4 H4)
            | (go_at_call 14; refine (H5.out _).mono ?_; rintro e w5 ⟨rfl, hb5⟩; replace HA := hid (HA.out.below hb5 HA.out.lt); replace HB := hid (HB.out.below hb5 HB.out.lt); replace HC := hid (HC.out.below hb5 HC.out.lt); replace HBL := hid (HBL.out.trans (hb5.mono HBL.out.size)); have cHA05 := HA.out.c0; have cHA15 := HA.out.c1; have cHB05 := HB.out.c0; have cHB15 := HB.out.c1; have cHC05 := HC.out.c0; have cHC15 := HC.out.c1; clear hb5 H5)
            | (go_at_call 14; refine (H6.out _).mono ?_; rintro e w6 ⟨rfl, hb6⟩; replace HA := hid (HA.out.below hb6 HA.out.lt); replace HB := hid (HB.out.below hb6 HB.out.lt); replace HC := hid (HC.out.below hb6 HC.out.lt); replace HBL := hid (HBL.out.trans (hb6.mono HBL.out.size)); have cHA06 := HA.out.c0; have cHA16 := HA.out.c1; have cHB06 := HB.out.c0; have cHB16 := HB.out.c1; have cHC06 := HC.out.c0; have cHC16 := HC.out.c1; clear hb6 H6)
            | (go_at_call 35; refine (H7.out _).mono ?_; rintro e w7 ⟨rfl, hb7⟩; replace HA := hid (HA.out.below hb7 HA.out.lt); replace HB := hid (HB.out.below hb7 HB.out.lt); replace HC := hid (HC.out.below hb7 HC.out.lt); replace HBL := hid (HBL.out.trans (hb7.mono HBL.out.size)); have cHA07 := HA.out.c0; have cHA17 := HA.out.c1; have cHB07 := HB.out.c0; have cHB17 := HB.out.c1; have cHC07 := HC.out.c0; have cHC17 := HC.out.c1; clear hb7 H7))
          go_ret
          exact ⟨by rw [HV.out]; rfl, HBL.out⟩
        | false =>
          cases hy : (y == 0) with
          | true =>
            have HV : Hid (R = false) := hid (by rw [HR.out, hx, hy]; rfl)
            clear HR
            go_enter Try.func18, Try.ntmps18
            go_wp2_with (first
              | (go_at_call 32; refine (H1.out _).mono ?_; rintro e w1 ⟨rfl, hb1⟩; replace HA := hid (HA.out.below hb1 HA.out.lt); replace HB := hid (HB.out.below hb1 HB.out.lt); replace HC := hid (HC.out.below hb1 HC.out.lt); replace HBL := hid (HBL.out.trans (hb1.mono HBL.out.size)); have cHA01 := HA.out.c0; have cHA11 := HA.out.c1; have cHB01 := HB.out.c0; have cHB11 := HB.out.c1; have cHC01 := HC.out.c0; have cHC11 := HC.out.c1; clear hb1 H1)
              | (go_at_call 32; refine (H2.out _).mono ?_; rintro e w2 ⟨rfl, hb2⟩; replace HA := hid (HA.out.below hb2 HA.out.lt); replace HB := hid (HB.out.below hb2 HB.out.lt); replace HC := hid (HC.out.below hb2 HC.out.lt); replace HBL := hid (HBL.out.trans (hb2.mono HBL.out.size)); have cHA02 := HA.out.c0; have cHA12 := HA.out.c1; have cHB02 := HB.out.c0; have cHB12 := HB.out.c1; have cHC02 := HC.out.c0; have cHC12 := HC.out.c1; clear hb2 H2)
              | (go_at_call 32; refine (H3.out _).mono ?_; rintro e w3 ⟨rfl, hb3⟩; replace HA := hid (HA.out.below hb3 HA.out.lt); replace HB := hid (HB.out.below hb3 HB.out.lt); replace HC := hid (HC.out.below hb3 HC.out.lt); replace HBL := hid (HBL.out.trans (hb3.mono HBL.out.size)); have cHA03 := HA.out.c0; have cHA13 := HA.out.c1; have cHB03 := HB.out.c0; have cHB13 := HB.out.c1; have cHC03 := HC.out.c0; have cHC13 := HC.out.c1; clear hb3 H3)
              | (go_at_call 14; refine (H4.out _).mono ?_; rintro e w4 ⟨rfl, hb4⟩; replace HA := hid (HA.out.below hb4 HA.out.lt); replace HB := hid (HB.out.below hb4 HB.out.lt); replace HC := hid (HC.out.below hb4 HC.out.lt); replace HBL := hid (HBL.out.trans (hb4.mono HBL.out.size)); have cHA04 := HA.out.c0; have cHA14 := HA.out.c1; have cHB04 := HB.out.c0; have cHB14 := HB.out.c1; have cHC04 := HC.out.c0; have cHC14 := HC.out.c1; clear hb4 H4)
              | (go_at_call 14; refine (H5.out _).mono ?_; rintro e w5 ⟨rfl, hb5⟩; replace HA := hid (HA.out.below hb5 HA.out.lt); replace HB := hid (HB.out.below hb5 HB.out.lt); replace HC := hid (HC.out.below hb5 HC.out.lt); replace HBL := hid (HBL.out.trans (hb5.mono HBL.out.size)); have cHA05 := HA.out.c0; have cHA15 := HA.out.c1; have cHB05 := HB.out.c0; have cHB15 := HB.out.c1; have cHC05 := HC.out.c0; have cHC15 := HC.out.c1; clear hb5 H5)
              | (go_at_call 14; refine (H6.out _).mono ?_; rintro e w6 ⟨rfl, hb6⟩; replace HA := hid (HA.out.below hb6 HA.out.lt); replace HB := hid (HB.out.below hb6 HB.out.lt); replace HC := hid (HC.out.below hb6 HC.out.lt); replace HBL := hid (HBL.out.trans (hb6.mono HBL.out.size)); have cHA06 := HA.out.c0; have cHA16 := HA.out.c1; have cHB06 := HB.out.c0; have cHB16 := HB.out.c1; have cHC06 := HC.out.c0; have cHC16 := HC.out.c1; clear hb6 H6)
              | (go_at_call 35; refine (H7.out _).mono ?_; rintro e w7 ⟨rfl, hb7⟩; replace HA := hid (HA.out.below hb7 HA.out.lt); replace HB := hid (HB.out.below hb7 HB.out.lt); replace HC := hid (HC.out.below hb7 HC.out.lt); replace HBL := hid (HBL.out.trans (hb7.mono HBL.out.size)); have cHA07 := HA.out.c0; have cHA17 := HA.out.c1; have cHB07 := HB.out.c0; have cHB17 := HB.out.c1; have cHC07 := HC.out.c0; have cHC17 := HC.out.c1; clear hb7 H7))
            go_ret
            exact ⟨by rw [HV.out]; rfl, HBL.out⟩
          | false =>
            cases hz : (z == 0) with
            | true =>
              have HV : Hid (R = true) := hid (by rw [HR.out, hx, hy, hz]; rfl)
              clear HR
              go_enter Try.func18, Try.ntmps18
              go_wp2_with (first
                | (go_at_call 32; refine (H1.out _).mono ?_; rintro e w1 ⟨rfl, hb1⟩; replace HA := hid (HA.out.below hb1 HA.out.lt); replace HB := hid (HB.out.below hb1 HB.out.lt); replace HC := hid (HC.out.below hb1 HC.out.lt); replace HBL := hid (HBL.out.trans (hb1.mono HBL.out.size)); have cHA01 := HA.out.c0; have cHA11 := HA.out.c1; have cHB01 := HB.out.c0; have cHB11 := HB.out.c1; have cHC01 := HC.out.c0; have cHC11 := HC.out.c1; clear hb1 H1)
                | (go_at_call 32; refine (H2.out _).mono ?_; rintro e w2 ⟨rfl, hb2⟩; replace HA := hid (HA.out.below hb2 HA.out.lt); replace HB := hid (HB.out.below hb2 HB.out.lt); replace HC := hid (HC.out.below hb2 HC.out.lt); replace HBL := hid (HBL.out.trans (hb2.mono HBL.out.size)); have cHA02 := HA.out.c0; have cHA12 := HA.out.c1; have cHB02 := HB.out.c0; have cHB12 := HB.out.c1; have cHC02 := HC.out.c0; have cHC12 := HC.out.c1; clear hb2 H2)
                | (go_at_call 32; refine (H3.out _).mono ?_; rintro e w3 ⟨rfl, hb3⟩; replace HA := hid (HA.out.below hb3 HA.out.lt); replace HB := hid (HB.out.below hb3 HB.out.lt); replace HC := hid (HC.out.below hb3 HC.out.lt); replace HBL := hid (HBL.out.trans (hb3.mono HBL.out.size)); have cHA03 := HA.out.c0; have cHA13 := HA.out.c1; have cHB03 := HB.out.c0; have cHB13 := HB.out.c1; have cHC03 := HC.out.c0; have cHC13 := HC.out.c1; clear hb3 H3)
                | (go_at_call 14; refine (H4.out _).mono ?_; rintro e w4 ⟨rfl, hb4⟩; replace HA := hid (HA.out.below hb4 HA.out.lt); replace HB := hid (HB.out.below hb4 HB.out.lt); replace HC := hid (HC.out.below hb4 HC.out.lt); replace HBL := hid (HBL.out.trans (hb4.mono HBL.out.size)); have cHA04 := HA.out.c0; have cHA14 := HA.out.c1; have cHB04 := HB.out.c0; have cHB14 := HB.out.c1; have cHC04 := HC.out.c0; have cHC14 := HC.out.c1; clear hb4 H4)
                | (go_at_call 14; refine (H5.out _).mono ?_; rintro e w5 ⟨rfl, hb5⟩; replace HA := hid (HA.out.below hb5 HA.out.lt); replace HB := hid (HB.out.below hb5 HB.out.lt); replace HC := hid (HC.out.below hb5 HC.out.lt); replace HBL := hid (HBL.out.trans (hb5.mono HBL.out.size)); have cHA05 := HA.out.c0; have cHA15 := HA.out.c1; have cHB05 := HB.out.c0; have cHB15 := HB.out.c1; have cHC05 := HC.out.c0; have cHC15 := HC.out.c1; clear hb5 H5)
                | (go_at_call 14; refine (H6.out _).mono ?_; rintro e w6 ⟨rfl, hb6⟩; replace HA := hid (HA.out.below hb6 HA.out.lt); replace HB := hid (HB.out.below hb6 HB.out.lt); replace HC := hid (HC.out.below hb6 HC.out.lt); replace HBL := hid (HBL.out.trans (hb6.mono HBL.out.size)); have cHA06 := HA.out.c0; have cHA16 := HA.out.c1; have cHB06 := HB.out.c0; have cHB16 := HB.out.c1; have cHC06 := HC.out.c0; have cHC16 := HC.out.c1; clear hb6 H6)
                | (go_at_call 35; refine (H7.out _).mono ?_; rintro e w7 ⟨rfl, hb7⟩; replace HA := hid (HA.out.below hb7 HA.out.lt); replace HB := hid (HB.out.below hb7 HB.out.lt); replace HC := hid (HC.out.below hb7 HC.out.lt); replace HBL := hid (HBL.out.trans (hb7.mono HBL.out.size)); have cHA07 := HA.out.c0; have cHA17 := HA.out.c1; have cHB07 := HB.out.c0; have cHB17 := HB.out.c1; have cHC07 := HC.out.c0; have cHC17 := HC.out.c1; clear hb7 H7))
              go_ret
              exact ⟨by rw [HV.out]; rfl, HBL.out⟩
            | false =>
              cases gs : decide (s < 0) with
              | true =>
                have HV : Hid (R = true) := hid (by rw [HR.out, hx, hy, hz, gs]; rfl)
                clear HR
                go_enter Try.func18, Try.ntmps18
                go_wp2_with (first
                  | (go_at_call 32; refine (H1.out _).mono ?_; rintro e w1 ⟨rfl, hb1⟩; replace HA := hid (HA.out.below hb1 HA.out.lt); replace HB := hid (HB.out.below hb1 HB.out.lt); replace HC := hid (HC.out.below hb1 HC.out.lt); replace HBL := hid (HBL.out.trans (hb1.mono HBL.out.size)); have cHA01 := HA.out.c0; have cHA11 := HA.out.c1; have cHB01 := HB.out.c0; have cHB11 := HB.out.c1; have cHC01 := HC.out.c0; have cHC11 := HC.out.c1; clear hb1 H1)
                  | (go_at_call 32; refine (H2.out _).mono ?_; rintro e w2 ⟨rfl, hb2⟩; replace HA := hid (HA.out.below hb2 HA.out.lt); replace HB := hid (HB.out.below hb2 HB.out.lt); replace HC := hid (HC.out.below hb2 HC.out.lt); replace HBL := hid (HBL.out.trans (hb2.mono HBL.out.size)); have cHA02 := HA.out.c0; have cHA12 := HA.out.c1; have cHB02 := HB.out.c0; have cHB12 := HB.out.c1; have cHC02 := HC.out.c0; have cHC12 := HC.out.c1; clear hb2 H2)
                  | (go_at_call 32; refine (H3.out _).mono ?_; rintro e w3 ⟨rfl, hb3⟩; replace HA := hid (HA.out.below hb3 HA.out.lt); replace HB := hid (HB.out.below hb3 HB.out.lt); replace HC := hid (HC.out.below hb3 HC.out.lt); replace HBL := hid (HBL.out.trans (hb3.mono HBL.out.size)); have cHA03 := HA.out.c0; have cHA13 := HA.out.c1; have cHB03 := HB.out.c0; have cHB13 := HB.out.c1; have cHC03 := HC.out.c0; have cHC13 := HC.out.c1; clear hb3 H3)
                  | (go_at_call 14; refine (H4.out _).mono ?_; rintro e w4 ⟨rfl, hb4⟩; replace HA := hid (HA.out.below hb4 HA.out.lt); replace HB := hid (HB.out.below hb4 HB.out.lt); replace HC := hid (HC.out.below hb4 HC.out.lt); replace HBL := hid (HBL.out.trans (hb4.mono HBL.out.size)); have cHA04 := HA.out.c0; have cHA14 := HA.out.c1; have cHB04 := HB.out.c0; have cHB14 := HB.out.c1; have cHC04 := HC.out.c0; have cHC14 := HC.out.c1; clear hb4 H4)
                  | (go_at_call 14; refine (H5.out _).mono ?_; rintro e w5 ⟨rfl, hb5⟩; replace HA := hid (HA.out.below hb5 HA.out.lt); replace HB := hid (HB.out.below hb5 HB.out.lt); replace HC := hid (HC.out.below hb5 HC.out.lt); replace HBL := hid (HBL.out.trans (hb5.mono HBL.out.size)); have cHA05 := HA.out.c0; have cHA15 := HA.out.c1; have cHB05 := HB.out.c0; have cHB15 := HB.out.c1; have cHC05 := HC.out.c0; have cHC15 := HC.out.c1; clear hb5 H5)
                  | (go_at_call 14; refine (H6.out _).mono ?_; rintro e w6 ⟨rfl, hb6⟩; replace HA := hid (HA.out.below hb6 HA.out.lt); replace HB := hid (HB.out.below hb6 HB.out.lt); replace HC := hid (HC.out.below hb6 HC.out.lt); replace HBL := hid (HBL.out.trans (hb6.mono HBL.out.size)); have cHA06 := HA.out.c0; have cHA16 := HA.out.c1; have cHB06 := HB.out.c0; have cHB16 := HB.out.c1; have cHC06 := HC.out.c0; have cHC16 := HC.out.c1; clear hb6 H6)
                  | (go_at_call 35; refine (H7.out _).mono ?_; rintro e w7 ⟨rfl, hb7⟩; replace HA := hid (HA.out.below hb7 HA.out.lt); replace HB := hid (HB.out.below hb7 HB.out.lt); replace HC := hid (HC.out.below hb7 HC.out.lt); replace HBL := hid (HBL.out.trans (hb7.mono HBL.out.size)); have cHA07 := HA.out.c0; have cHA17 := HA.out.c1; have cHB07 := HB.out.c0; have cHB17 := HB.out.c1; have cHC07 := HC.out.c0; have cHC17 := HC.out.c1; clear hb7 H7))
                go_ret
                exact ⟨by rw [HV.out]; rfl, HBL.out⟩
              | false =>
                have HV : Hid (R = false) := hid (by rw [HR.out, hx, hy, hz, gs]; rfl)
                clear HR
                go_enter Try.func18, Try.ntmps18
                go_wp2_with (first
                  | (go_at_call 32; refine (H1.out _).mono ?_; rintro e w1 ⟨rfl, hb1⟩; replace HA := hid (HA.out.below hb1 HA.out.lt); replace HB := hid (HB.out.below hb1 HB.out.lt); replace HC := hid (HC.out.below hb1 HC.out.lt); replace HBL := hid (HBL.out.trans (hb1.mono HBL.out.size)); have cHA01 := HA.out.c0; have cHA11 := HA.out.c1; have cHB01 := HB.out.c0; have cHB11 := HB.out.c1; have cHC01 := HC.out.c0; have cHC11 := HC.out.c1; clear hb1 H1)
                  | (go_at_call 32; refine (H2.out _).mono ?_; rintro e w2 ⟨rfl, hb2⟩; replace HA := hid (HA.out.below hb2 HA.out.lt); replace HB := hid (HB.out.below hb2 HB.out.lt); replace HC := hid (HC.out.below hb2 HC.out.lt); replace HBL := hid (HBL.out.trans (hb2.mono HBL.out.size)); have cHA02 := HA.out.c0; have cHA12 := HA.out.c1; have cHB02 := HB.out.c0; have cHB12 := HB.out.c1; have cHC02 := HC.out.c0; have cHC12 := HC.out.c1; clear hb2 H2)
                  | (go_at_call 32; refine (H3.out _).mono ?_; rintro e w3 ⟨rfl, hb3⟩; replace HA := hid (HA.out.below hb3 HA.out.lt); replace HB := hid (HB.out.below hb3 HB.out.lt); replace HC := hid (HC.out.below hb3 HC.out.lt); replace HBL := hid (HBL.out.trans (hb3.mono HBL.out.size)); have cHA03 := HA.out.c0; have cHA13 := HA.out.c1; have cHB03 := HB.out.c0; have cHB13 := HB.out.c1; have cHC03 := HC.out.c0; have cHC13 := HC.out.c1; clear hb3 H3)
                  | (go_at_call 14; refine (H4.out _).mono ?_; rintro e w4 ⟨rfl, hb4⟩; replace HA := hid (HA.out.below hb4 HA.out.lt); replace HB := hid (HB.out.below hb4 HB.out.lt); replace HC := hid (HC.out.below hb4 HC.out.lt); replace HBL := hid (HBL.out.trans (hb4.mono HBL.out.size)); have cHA04 := HA.out.c0; have cHA14 := HA.out.c1; have cHB04 := HB.out.c0; have cHB14 := HB.out.c1; have cHC04 := HC.out.c0; have cHC14 := HC.out.c1; clear hb4 H4)
                  | (go_at_call 14; refine (H5.out _).mono ?_; rintro e w5 ⟨rfl, hb5⟩; replace HA := hid (HA.out.below hb5 HA.out.lt); replace HB := hid (HB.out.below hb5 HB.out.lt); replace HC := hid (HC.out.below hb5 HC.out.lt); replace HBL := hid (HBL.out.trans (hb5.mono HBL.out.size)); have cHA05 := HA.out.c0; have cHA15 := HA.out.c1; have cHB05 := HB.out.c0; have cHB15 := HB.out.c1; have cHC05 := HC.out.c0; have cHC15 := HC.out.c1; clear hb5 H5)
                  | (go_at_call 14; refine (H6.out _).mono ?_; rintro e w6 ⟨rfl, hb6⟩; replace HA := hid (HA.out.below hb6 HA.out.lt); replace HB := hid (HB.out.below hb6 HB.out.lt); replace HC := hid (HC.out.below hb6 HC.out.lt); replace HBL := hid (HBL.out.trans (hb6.mono HBL.out.size)); have cHA06 := HA.out.c0; have cHA16 := HA.out.c1; have cHB06 := HB.out.c0; have cHB16 := HB.out.c1; have cHC06 := HC.out.c0; have cHC16 := HC.out.c1; clear hb6 H6)
                  | (go_at_call 35; refine (H7.out _).mono ?_; rintro e w7 ⟨rfl, hb7⟩; replace HA := hid (HA.out.below hb7 HA.out.lt); replace HB := hid (HB.out.below hb7 HB.out.lt); replace HC := hid (HC.out.below hb7 HC.out.lt); replace HBL := hid (HBL.out.trans (hb7.mono HBL.out.size)); have cHA07 := HA.out.c0; have cHA17 := HA.out.c1; have cHB07 := HB.out.c0; have cHB17 := HB.out.c1; have cHC07 := HC.out.c0; have cHC17 := HC.out.c1; clear hb7 H7))
                go_ret
                exact ⟨by rw [HV.out]; rfl, HBL.out⟩
end Go.Proofs.Ytccbjohiaboipaa
