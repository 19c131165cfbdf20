/-
  The document's Relate and Shared.
-/
import Derived.Test.YtlnjjkgjknheiaaSRel
namespace Go.Proofs.Ytlnjjkgjknheiaa
open Go.RowKit Go.Sort

theorem sgn_in (t : Int) : sgn t = -1 ∨ sgn t = 0 ∨ sgn t = 1 := by unfold sgn; split <;> (try split) <;> simp
theorem tr_mul (a b c d e f : Pp) : -1 ≤ tr2 a b c * tr2 d e f ∧ tr2 a b c * tr2 d e f ≤ 1 := by
  unfold tr2
  rcases sgn_in (area a.1 a.2 b.1 b.2 c.1 c.2) with h | h | h <;> rcases sgn_in (area d.1 d.2 e.1 e.2 f.1 f.2) with g | g | g <;> rw [h, g] <;> decide


theorem refRelate_any (ax ay bx by' cx cy dx dy : Int) (w : World) :
    Calls Try.prog 19 #[pv ax ay, pv bx by', pv cx cy, pv dx dy] w fun e w' => e = .returned (.int .i64 (relP (near ax, near ay) (near bx, near by') (near cx, near cy) (near dx, near dy))) ∧ Below w.heap.size w w' := by
  have hn : ∀ q ∈ ([(near ax, near ay), (near bx, near by'), (near cx, near cy), (near dx, near dy)] : List Pp), near q.1 = q.1 ∧ near q.2 = q.2 := by
    intro q hq
    simp only [List.mem_cons, List.not_mem_nil, or_false] at hq
    rcases hq with rfl | rfl | rfl | rfl <;> exact ⟨near_near _, near_near _⟩
  have h := refRelate_core w ax ay bx by' cx cy dx dy (near ax) (near ay) (near bx) (near by') (near cx) (near cy) (near dx) (near dy) (tr2 (near ax, near ay) (near bx, near by') (near cx, near cy)) (tr2 (near ax, near ay) (near bx, near by') (near dx, near dy)) (tr2 (near cx, near cy) (near dx, near dy) (near ax, near ay)) (tr2 (near cx, near cy) (near dx, near dy) (near bx, near by')) _ _ _ (hid rfl)
    (hid fun W => refClean_any ax ay W) (hid fun W => refClean_any bx by' W) (hid fun W => refClean_any cx cy W) (hid fun W => refClean_any dx dy W)
    (hid fun q hq W => by
      have := refOn_any (near ax) (near ay) (near bx) (near by') q.1 q.2 W
      rwa [near_near, near_near, near_near, near_near, (hn q hq).1, (hn q hq).2] at this)
    (hid fun q hq W => by
      have := refOn_any (near cx) (near cy) (near dx) (near dy) q.1 q.2 W
      rwa [near_near, near_near, near_near, near_near, (hn q hq).1, (hn q hq).2] at this)
    (hid fun W => by
      have := refTurn_any (near ax) (near ay) (near bx) (near by') (near cx) (near cy) W
      simp only [near_near] at this
      exact this)
    (hid fun W => by
      have := refTurn_any (near ax) (near ay) (near bx) (near by') (near dx) (near dy) W
      simp only [near_near] at this
      exact this)
    (hid fun W => by
      have := refTurn_any (near cx) (near cy) (near dx) (near dy) (near ax) (near ay) W
      simp only [near_near] at this
      exact this)
    (hid fun W => by
      have := refTurn_any (near cx) (near cy) (near dx) (near dy) (near bx) (near by') W
      simp only [near_near] at this
      exact this)
    rfl rfl (tr_mul _ _ _ _ _ _) (tr_mul _ _ _ _ _ _) (hid rfl)
  rw [relL_eq] at h
  exact h


/-- The end that two segments share. -/
def shdP (a b c d : Pp) : Pp × Bool := if relP a b c d = 1 then (if eqp a c || eqp a d then a else b, true) else ((0, 0), false)


set_option maxHeartbeats 3200000 in
theorem refShared_any (ax ay bx by' cx cy dx dy : Int) (w : World) :
    Calls Try.prog 20 #[pv ax ay, pv bx by', pv cx cy, pv dx dy] w fun e w' => e = .returned (.tuple #[pv (shdP (near ax, near ay) (near bx, near by') (near cx, near cy) (near dx, near dy)).1.1 (shdP (near ax, near ay) (near bx, near by') (near cx, near cy) (near dx, near dy)).1.2, .bool (shdP (near ax, near ay) (near bx, near by') (near cx, near cy) (near dx, near dy)).2]) ∧ Below w.heap.size w w' := by
  obtain ⟨wA, hwA⟩ : ∃ wA, w.alloc (.cells #[.int .i64 ax, .int .i64 ay] 24) = wA := ⟨_, rfl⟩
  obtain ⟨wB, hwB⟩ : ∃ wB, wA.alloc (.cells #[.int .i64 bx, .int .i64 by'] 24) = wB := ⟨_, rfl⟩
  obtain ⟨wC, hwC⟩ : ∃ wC, wB.alloc (.cells #[.int .i64 cx, .int .i64 cy] 24) = wC := ⟨_, rfl⟩
  obtain ⟨wD, hwD⟩ : ∃ wD, wC.alloc (.cells #[.int .i64 dx, .int .i64 dy] 24) = wD := ⟨_, rfl⟩
  obtain ⟨hA, hB, hC, hD, hBL, hszD, hszA, hszB, hszC⟩ := box4 hwA hwB hwC hwD
  obtain ⟨wE, hwE⟩ : ∃ wE, wD.alloc (.cells #[.int .i64 0, .int .i64 0] 24) = wE := ⟨_, rfl⟩
  have hszE : wE.heap.size = w.heap.size + 5 := by rw [← hwE]; simp [hszD]
  have hE : Pt wE (w.heap.size + 4) 0 0 := by rw [← hwE, ← hszD]; exact Pt.new wD 0 0
  replace hA : Pt wE w.heap.size ax ay := by rw [← hwE]; exact hA.alloc _
  replace hB : Pt wE (w.heap.size + 1) bx by' := by rw [← hwE]; exact hB.alloc _
  replace hC : Pt wE (w.heap.size + 2) cx cy := by rw [← hwE]; exact hC.alloc _
  replace hD : Pt wE (w.heap.size + 3) dx dy := by rw [← hwE]; exact hD.alloc _
  have HBL := hid (show Below w.heap.size w wE by rw [← hwE]; exact hBL.alloc (by omega) _)
  have HR := hid (refRelate_any ax ay bx by' cx cy dx dy wE)
  have HCa := hid (fun W => refClean_any ax ay W)
  have HCb := hid (fun W => refClean_any bx by' W)
  have HCc := hid (fun W => refClean_any cx cy W)
  have HCd := hid (fun W => refClean_any dx dy W)
  have hs : shdP (near ax, near ay) (near bx, near by') (near cx, near cy) (near dx, near dy) = if relP (near ax, near ay) (near bx, near by') (near cx, near cy) (near dx, near dy) = 1 then (if eqp (near ax, near ay) (near cx, near cy) || eqp (near ax, near ay) (near dx, near dy) then (near ax, near ay) else (near bx, near by'), true) else ((0, 0), false) := rfl
  generalize shdP (near ax, near ay) (near bx, near by') (near cx, near cy) (near dx, near dy) = S at *
  generalize relP (near ax, near ay) (near bx, near by') (near cx, near cy) (near dx, near dy) = K at *
  generalize near ax = AX at *
  generalize near ay = AY at *
  generalize near bx = BX at *
  generalize near by' = BY at *
  generalize near cx = CX at *
  generalize near cy = CY at *
  generalize near dx = DX at *
  generalize near dy = DY at *
  have HS := hid hs
  have HA := hid hA; have HB := hid hB; have HC := hid hC; have HD := hid hD; have HE := hid hE
  have a0 := hA.c0; have a1 := hA.c1; have b0 := hB.c0; have b1 := hB.c1; have c0 := hC.c0; have c1 := hC.c1; have d0 := hD.c0; have d1 := hD.c1
  clear hA hB hC hD hE hBL hs
  obtain ⟨⟨SX, SY⟩, SB⟩ := S
  by_cases hk : K = 1
  · have hkB : (K == 1) = true := by simp [hk]
    have HK := hid hk
    clear hk
    go_enter Try.func20, Try.ntmps20
    go_wp2_with (go_at_call 19; refine HR.out.mono ?_; rintro e w1 ⟨rfl, hb1⟩; replace HA := hid (HA.out.below hb1 HA.out.lt); replace HB := hid (HB.out.below hb1 HB.out.lt); replace HC := hid (HC.out.below hb1 HC.out.lt); replace HD := hid (HD.out.below hb1 HD.out.lt); replace HE := hid (HE.out.below hb1 HE.out.lt); replace HBL := hid (HBL.out.trans (hb1.mono HBL.out.size)); clear hb1 HR)
    have ka0 := cell_regrown HA.out.c0; have ka1 := cell_regrown HA.out.c1; have kb0 := cell_regrown HB.out.c0; have kb1 := cell_regrown HB.out.c1
    have kc0 := cell_regrown HC.out.c0; have kc1 := cell_regrown HC.out.c1; have kd0 := cell_regrown HD.out.c0; have kd1 := cell_regrown HD.out.c1
    have ca := fun d os => HCa.out (grow (redrawn w1 d) os)
    have cb := fun d os => HCb.out (grow (redrawn w1 d) os)
    have cc := fun d os => HCc.out (grow (redrawn w1 d) os)
    have cd := fun d os => HCd.out (grow (redrawn w1 d) os)
    refine wp_region_tail (C := fun w' => ∃ p : Regrown, w' = grow (redrawn w1 p.d) p.os) 8 (by kernel_rfl) (by kernel_rfl) ⟨⟨w1.drawn + 1, #[]⟩, by rw [grow_empty]; rfl⟩ ?_
    simp only [List.take, List.drop]
    go_big_quiet_step (fail)
    go_big_quiet_step (exact Calls.regrown_of (ca _ _))
    go_big_quiet_step (fail)
    go_big_quiet_step (exact Calls.regrown_of (cb _ _))
    go_big_quiet_step (fail)
    go_big_quiet_step (exact Calls.regrown_of (cc _ _))
    go_big_quiet_step (fail)
    go_big_quiet_step (exact Calls.regrown_of (cd _ _))
    refine wpQuiet_nil ?_
    intro W hW'
    obtain ⟨⟨dq, osq⟩, hW⟩ := hW'
    have hb : Below w1.heap.size w1 W := by rw [hW]; exact below_regrown _ _ _
    clear hW ka0 ka1 kb0 kb1 kc0 kc1 kd0 kd1 ca cb cc cd HCa HCb HCc HCd a0 a1 b0 b1 c0 c1 d0 d1
    have hA := HA.out.below hb HA.out.lt
    have hB := HB.out.below hb HB.out.lt
    have hC := HC.out.below hb HC.out.lt
    have hD := HD.out.below hb HD.out.lt
    have hE := HE.out.below hb HE.out.lt
    clear HA HB HC HD HE
    have aa0 := hA.c0; have aa1 := hA.c1; have aa2 := hA.f0; have aa3 := hA.f1
    obtain ⟨V1, hV1⟩ : ∃ V, (W.setCell ⟨w.heap.size, 0, none⟩ (.int .i64 AX)).setCell ⟨w.heap.size, 1, none⟩ (.int .i64 AY) = V := ⟨_, rfl⟩
    replace hA : Pt V1 (w.heap.size) AX AY := by rw [← hV1]; exact hA.set _ _
    replace hB : Pt V1 (w.heap.size + 1) bx by' := by rw [← hV1]; exact hB.far (by omega) _ _
    replace hC : Pt V1 (w.heap.size + 2) cx cy := by rw [← hV1]; exact hC.far (by omega) _ _
    replace hD : Pt V1 (w.heap.size + 3) dx dy := by rw [← hV1]; exact hD.far (by omega) _ _
    replace hE : Pt V1 (w.heap.size + 4) 0 0 := by rw [← hV1]; exact hE.far (by omega) _ _
    have bb0 := hB.c0; have bb1 := hB.c1; have bb2 := hB.f0; have bb3 := hB.f1
    obtain ⟨V2, hV2⟩ : ∃ V, (V1.setCell ⟨w.heap.size + 1, 0, none⟩ (.int .i64 BX)).setCell ⟨w.heap.size + 1, 1, none⟩ (.int .i64 BY) = V := ⟨_, rfl⟩
    replace hA : Pt V2 (w.heap.size) AX AY := by rw [← hV2]; exact hA.far (by omega) _ _
    replace hB : Pt V2 (w.heap.size + 1) BX BY := by rw [← hV2]; exact hB.set _ _
    replace hC : Pt V2 (w.heap.size + 2) cx cy := by rw [← hV2]; exact hC.far (by omega) _ _
    replace hD : Pt V2 (w.heap.size + 3) dx dy := by rw [← hV2]; exact hD.far (by omega) _ _
    replace hE : Pt V2 (w.heap.size + 4) 0 0 := by rw [← hV2]; exact hE.far (by omega) _ _
    have cc0 := hC.c0; have cc1 := hC.c1; have cc2 := hC.f0; have cc3 := hC.f1
    obtain ⟨V3, hV3⟩ : ∃ V, (V2.setCell ⟨w.heap.size + 2, 0, none⟩ (.int .i64 CX)).setCell ⟨w.heap.size + 2, 1, none⟩ (.int .i64 CY) = V := ⟨_, rfl⟩
    replace hA : Pt V3 (w.heap.size) AX AY := by rw [← hV3]; exact hA.far (by omega) _ _
    replace hB : Pt V3 (w.heap.size + 1) BX BY := by rw [← hV3]; exact hB.far (by omega) _ _
    replace hC : Pt V3 (w.heap.size + 2) CX CY := by rw [← hV3]; exact hC.set _ _
    replace hD : Pt V3 (w.heap.size + 3) dx dy := by rw [← hV3]; exact hD.far (by omega) _ _
    replace hE : Pt V3 (w.heap.size + 4) 0 0 := by rw [← hV3]; exact hE.far (by omega) _ _
    have dd0 := hD.c0; have dd1 := hD.c1; have dd2 := hD.f0; have dd3 := hD.f1
    obtain ⟨V4, hV4⟩ : ∃ V, (V3.setCell ⟨w.heap.size + 3, 0, none⟩ (.int .i64 DX)).setCell ⟨w.heap.size + 3, 1, none⟩ (.int .i64 DY) = V := ⟨_, rfl⟩
    replace hA : Pt V4 (w.heap.size) AX AY := by rw [← hV4]; exact hA.far (by omega) _ _
    replace hB : Pt V4 (w.heap.size + 1) BX BY := by rw [← hV4]; exact hB.far (by omega) _ _
    replace hC : Pt V4 (w.heap.size + 2) CX CY := by rw [← hV4]; exact hC.far (by omega) _ _
    replace hD : Pt V4 (w.heap.size + 3) DX DY := by rw [← hV4]; exact hD.set _ _
    replace hE : Pt V4 (w.heap.size + 4) 0 0 := by rw [← hV4]; exact hE.far (by omega) _ _
    have HVL := hid (show Below w.heap.size w V4 by rw [← hV4, ← hV3, ← hV2, ← hV1]; exact below_set2 (below_set2 (below_set2 (below_set2 (HBL.out.trans (hb.mono HBL.out.size)) (Nat.le_refl _)) (Nat.le_add_right _ _)) (Nat.le_add_right _ _)) (Nat.le_add_right _ _))
    have r0 := hA.c0; have r1 := hA.c1; have s0 := hB.c0; have s1 := hB.c1; have t0 := hC.c0; have t1 := hC.c1; have u0 := hD.c0; have u1 := hD.c1
    have ee0 := hE.c0; have ee1 := hE.c1; have ee2 := hE.f0; have ee3 := hE.f1
    clear hb hA hB hC hD hE
    cases f1 : (AX == CX && AY == CY) with
    | true =>
      have rf1 := fun x y => ite2_yes f1 (α := Result Next) x y
      have sf1 := fun x y => ite2_yes f1 (α := Prop) x y
      have F1 := hid f1
      clear f1
      have HEV : Hid (SX = AX ∧ SY = AY ∧ SB = true) := by
        have h := HS.out
        rw [if_pos HK.out] at h
        simp only [eqp, F1.out, Bool.true_or, if_true, Prod.mk.injEq] at h
        exact hid ⟨h.1.1, h.1.2, h.2⟩
      go_wp2
      refine bodyPost_ret (v := .tuple #[pv AX AY, .bool true]) (by simp [results, Try.results20, go_sem, ee0, ee1]) rfl ⟨?_, ?_⟩
      · rw [HEV.out.1, HEV.out.2.1, HEV.out.2.2]
      · exact below_set2 HVL.out (Nat.le_add_right _ _)
    | false =>
      have rf1 := fun x y => ite2_no f1 (α := Result Next) x y
      have sf1 := fun x y => ite2_no f1 (α := Prop) x y
      have F1 := hid f1
      clear f1
      cases f2 : (AX == DX && AY == DY) with
      | true =>
        have rf2 := fun x y => ite2_yes f2 (α := Result Next) x y
        have sf2 := fun x y => ite2_yes f2 (α := Prop) x y
        have F2 := hid f2
        clear f2
        have HEV : Hid (SX = AX ∧ SY = AY ∧ SB = true) := by
          have h := HS.out
          rw [if_pos HK.out] at h
          simp only [eqp, F1.out, F2.out, Bool.false_or, if_true, Prod.mk.injEq] at h
          exact hid ⟨h.1.1, h.1.2, h.2⟩
        go_wp2
        refine bodyPost_ret (v := .tuple #[pv AX AY, .bool true]) (by simp [results, Try.results20, go_sem, ee0, ee1]) rfl ⟨?_, ?_⟩
        · rw [HEV.out.1, HEV.out.2.1, HEV.out.2.2]
        · exact below_set2 HVL.out (Nat.le_add_right _ _)
      | false =>
        have rf2 := fun x y => ite2_no f2 (α := Result Next) x y
        have sf2 := fun x y => ite2_no f2 (α := Prop) x y
        have F2 := hid f2
        clear f2
        have HEV : Hid (SX = BX ∧ SY = BY ∧ SB = true) := by
          have h := HS.out
          rw [if_pos HK.out] at h
          simp only [eqp, F1.out, F2.out, Bool.false_or, Bool.false_eq_true, if_false, Prod.mk.injEq] at h
          exact hid ⟨h.1.1, h.1.2, h.2⟩
        go_wp2
        refine bodyPost_ret (v := .tuple #[pv BX BY, .bool true]) (by simp [results, Try.results20, go_sem, ee0, ee1]) rfl ⟨?_, ?_⟩
        · rw [HEV.out.1, HEV.out.2.1, HEV.out.2.2]
        · exact below_set2 HVL.out (Nat.le_add_right _ _)
  · have hkB : (K == 1) = false := by simp [hk]
    have HEV : Hid (SX = 0 ∧ SY = 0 ∧ SB = false) := by
      have h := HS.out
      rw [if_neg hk] at h
      simp only [Prod.mk.injEq] at h
      exact hid ⟨h.1.1, h.1.2, h.2⟩
    clear hk
    go_enter Try.func20, Try.ntmps20
    go_wp2_with (go_at_call 19; refine HR.out.mono ?_; rintro e w1 ⟨rfl, hb1⟩; have hE := HE.out.below hb1 HE.out.lt; have ee0 := hE.c0; have ee1 := hE.c1; have ee2 := hE.f0; have ee3 := hE.f1; replace HBL := hid (HBL.out.trans (hb1.mono HBL.out.size)); clear hb1 HR hE)
    refine bodyPost_ret (v := .tuple #[pv 0 0, .bool false]) (by simp [results, Try.results20, go_sem, ee0, ee1]) rfl ⟨?_, ?_⟩
    · rw [HEV.out.1, HEV.out.2.1, HEV.out.2.2]
    · exact below_set2 HBL.out (Nat.le_add_right _ _)

end Go.Proofs.Ytlnjjkgjknheiaa
