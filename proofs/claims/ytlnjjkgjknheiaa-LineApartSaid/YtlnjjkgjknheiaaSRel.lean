/-
  The document's Relate.
-/
import Derived.Test.YtlnjjkgjknheiaaMC
import Derived.Test.YtlnjjkgjknheiaaMD
namespace Go.Proofs.Ytlnjjkgjknheiaa
open Go.RowKit Go.Sort

universe u
theorem ite2_yes {a b c d : Int} (h : (a == b && c == d) = true) {α : Sort u} (x y : α) : (if a = b then if c = d then x else y else y) = x := by
  simp at h
  rw [if_pos h.1, if_pos h.2]
theorem ite2_no {a b c d : Int} (h : (a == b && c == d) = false) {α : Sort u} (x y : α) : (if a = b then if c = d then x else y else y) = y := by
  by_cases h1 : a = b
  · by_cases h2 : c = d
    · simp [h1, h2] at h
    · rw [if_pos h1, if_neg h2]
  · rw [if_neg h1]
theorem shL_succ {a b c d : Pp} {ps : List Pp} {k : Nat} {p : Pp} (h : ps[k]? = some p) : shL a b c d (ps.take (k + 1)) = shAdd a b c d (shL a b c d (ps.take k)) p := by
  unfold shL
  rw [List.take_add_one, h]
  simp
theorem any_succ {l : List Pp} {f : Pp → Bool} {k : Nat} {q : Pp} (h : l[k]? = some q) : (l.take (k + 1)).any f = ((l.take k).any f || f q) := by
  rw [List.take_add_one, h]
  simp
theorem shL_len (a b c d : Pp) (ps : List Pp) : (shL a b c d ps).length ≤ ps.length := by
  have : ∀ (ps l : List Pp), (ps.foldl (shAdd a b c d) l).length ≤ l.length + ps.length := by
    intro ps
    induction ps with
    | nil => intro l; simp
    | cons p ps ih =>
      intro l
      rw [List.foldl_cons]
      have h1 := ih (shAdd a b c d l p)
      have h2 : (shAdd a b c d l p).length ≤ l.length + 1 := by unfold shAdd; split <;> simp
      simp only [List.length_cons]
      omega
  simpa [shL] using this ps []


set_option maxRecDepth 100000 in
set_option maxHeartbeats 8000000 in
theorem refRelate_core (w : World) (ax ay bx by' cx cy dx dy AX AY BX BY CX CY DX DY T1 T2 T3 T4 M1 M2 : Int) (ps : List Pp) (HPS : Hid (ps = [(AX, AY), (BX, BY), (CX, CY), (DX, DY)]))
    (HCa : Hid (∀ W, Calls Try.prog 32 #[pv ax ay] W fun e w' => e = .returned (pv AX AY) ∧ Below W.heap.size W w'))
    (HCb : Hid (∀ W, Calls Try.prog 32 #[pv bx by'] W fun e w' => e = .returned (pv BX BY) ∧ Below W.heap.size W w'))
    (HCc : Hid (∀ W, Calls Try.prog 32 #[pv cx cy] W fun e w' => e = .returned (pv CX CY) ∧ Below W.heap.size W w'))
    (HCd : Hid (∀ W, Calls Try.prog 32 #[pv dx dy] W fun e w' => e = .returned (pv DX DY) ∧ Below W.heap.size W w'))
    (HO : Hid (∀ q ∈ ps, ∀ W, Calls Try.prog 34 #[pv AX AY, pv BX BY, pv q.1 q.2] W fun e w' => e = .returned (.bool (on2 (AX, AY) (BX, BY) q)) ∧ Below W.heap.size W w'))
    (HP : Hid (∀ q ∈ ps, ∀ W, Calls Try.prog 34 #[pv CX CY, pv DX DY, pv q.1 q.2] W fun e w' => e = .returned (.bool (on2 (CX, CY) (DX, DY) q)) ∧ Below W.heap.size W w'))
    (HT1 : Hid (∀ W, Calls Try.prog 35 #[pv AX AY, pv BX BY, pv CX CY] W fun e w' => e = .returned (.int .i64 T1) ∧ Below W.heap.size W w'))
    (HT2 : Hid (∀ W, Calls Try.prog 35 #[pv AX AY, pv BX BY, pv DX DY] W fun e w' => e = .returned (.int .i64 T2) ∧ Below W.heap.size W w'))
    (HT3 : Hid (∀ W, Calls Try.prog 35 #[pv CX CY, pv DX DY, pv AX AY] W fun e w' => e = .returned (.int .i64 T3) ∧ Below W.heap.size W w'))
    (HT4 : Hid (∀ W, Calls Try.prog 35 #[pv CX CY, pv DX DY, pv BX BY] W fun e w' => e = .returned (.int .i64 T4) ∧ Below W.heap.size W w'))
    (hM1 : T1 * T2 = M1) (hM2 : T3 * T4 = M2) (bM1 : -1 ≤ M1 ∧ M1 ≤ 1) (bM2 : -1 ≤ M2 ∧ M2 ≤ 1)
    (HX : Hid (crs (AX, AY) (BX, BY) (CX, CY) (DX, DY) = (!eqp (AX, AY) (BX, BY) && !eqp (CX, CY) (DX, DY) && decide (M1 < 0) && decide (M2 < 0)))) :
    Calls Try.prog 19 #[pv ax ay, pv bx by', pv cx cy, pv dx dy] w fun e w' => e = .returned (.int .i64 (relL (AX, AY) (BX, BY) (CX, CY) (DX, DY) (shL (AX, AY) (BX, BY) (CX, CY) (DX, DY) ps))) ∧ Below w.heap.size w w' := by
  obtain ⟨wA, hwA⟩ : ∃ wA, w.alloc (.cells #[.int .i64 ax, .int .i64 ay] 24) = wA := ⟨_, rfl⟩
  obtain ⟨wB, hwB⟩ : ∃ wB, wA.alloc (.cells #[.int .i64 bx, .int .i64 by'] 24) = wB := ⟨_, rfl⟩
  obtain ⟨wC, hwC⟩ : ∃ wC, wB.alloc (.cells #[.int .i64 cx, .int .i64 cy] 24) = wC := ⟨_, rfl⟩
  obtain ⟨wD, hwD⟩ : ∃ wD, wC.alloc (.cells #[.int .i64 dx, .int .i64 dy] 24) = wD := ⟨_, rfl⟩
  obtain ⟨hA, hB, hC, hD, hBL, hszD, hszA, hszB, hszC⟩ := box4 hwA hwB hwC hwD
  have HBL := hid hBL
  have ka0 := cell_regrown hA.c0
  have ka1 := cell_regrown hA.c1
  have ca := fun d os => HCa.out (grow (redrawn wD d) os)
  have HA := hid hA
  have kb0 := cell_regrown hB.c0
  have kb1 := cell_regrown hB.c1
  have cb := fun d os => HCb.out (grow (redrawn wD d) os)
  have HB := hid hB
  have kc0 := cell_regrown hC.c0
  have kc1 := cell_regrown hC.c1
  have cc := fun d os => HCc.out (grow (redrawn wD d) os)
  have HC := hid hC
  have kd0 := cell_regrown hD.c0
  have kd1 := cell_regrown hD.c1
  have cd := fun d os => HCd.out (grow (redrawn wD d) os)
  have HD := hid hD
  clear hA hB hC hD hBL
  go_enter Try.func19, Try.ntmps19
  go_wp2
  refine wp_region_tail (C := fun w' => ∃ p : Regrown, w' = grow (redrawn wD p.d) p.os) 8 (by kernel_rfl) (by kernel_rfl) ⟨⟨wD.drawn + 1, #[]⟩, by rw [grow_empty]; rfl⟩ ?_
  simp only [List.take, List.drop]
  go_big_quiet_step (fail)
  go_big_quiet_step (exact Calls.regrown_of (ca _ _))
  go_big_quiet_step (fail)
  go_big_quiet_step (exact Calls.regrown_of (cb _ _))
  go_big_quiet_step (fail)
  go_big_quiet_step (exact Calls.regrown_of (cc _ _))
  go_big_quiet_step (fail)
  go_big_quiet_step (exact Calls.regrown_of (cd _ _))
  refine wpQuiet_nil ?_
  intro W hW'
  obtain ⟨⟨dq, osq⟩, hW⟩ := hW'
  have hb : Below wD.heap.size wD W := by rw [hW]; exact below_regrown _ _ _
  clear hW ka0 ka1 kb0 kb1 kc0 kc1 kd0 kd1 ca cb cc cd HCa HCb HCc HCd
  have hA := HA.out.below hb (by omega)
  have hB := HB.out.below hb (by omega)
  have hC := HC.out.below hb (by omega)
  have hD := HD.out.below hb (by omega)
  clear HA HB HC HD
  have aa0 := hA.c0; have aa1 := hA.c1; have aa2 := hA.f0; have aa3 := hA.f1
  obtain ⟨V1, hV1⟩ : ∃ V, (W.setCell ⟨w.heap.size, 0, none⟩ (.int .i64 AX)).setCell ⟨w.heap.size, 1, none⟩ (.int .i64 AY) = V := ⟨_, rfl⟩
  replace hA : Pt V1 (w.heap.size) AX AY := by rw [← hV1]; exact hA.set _ _
  replace hB : Pt V1 (w.heap.size + 1) bx by' := by rw [← hV1]; exact hB.far (by omega) _ _
  replace hC : Pt V1 (w.heap.size + 2) cx cy := by rw [← hV1]; exact hC.far (by omega) _ _
  replace hD : Pt V1 (w.heap.size + 3) dx dy := by rw [← hV1]; exact hD.far (by omega) _ _
  have bb0 := hB.c0; have bb1 := hB.c1; have bb2 := hB.f0; have bb3 := hB.f1
  obtain ⟨V2, hV2⟩ : ∃ V, (V1.setCell ⟨w.heap.size + 1, 0, none⟩ (.int .i64 BX)).setCell ⟨w.heap.size + 1, 1, none⟩ (.int .i64 BY) = V := ⟨_, rfl⟩
  replace hA : Pt V2 (w.heap.size) AX AY := by rw [← hV2]; exact hA.far (by omega) _ _
  replace hB : Pt V2 (w.heap.size + 1) BX BY := by rw [← hV2]; exact hB.set _ _
  replace hC : Pt V2 (w.heap.size + 2) cx cy := by rw [← hV2]; exact hC.far (by omega) _ _
  replace hD : Pt V2 (w.heap.size + 3) dx dy := by rw [← hV2]; exact hD.far (by omega) _ _
  have cc0 := hC.c0; have cc1 := hC.c1; have cc2 := hC.f0; have cc3 := hC.f1
  obtain ⟨V3, hV3⟩ : ∃ V, (V2.setCell ⟨w.heap.size + 2, 0, none⟩ (.int .i64 CX)).setCell ⟨w.heap.size + 2, 1, none⟩ (.int .i64 CY) = V := ⟨_, rfl⟩
  replace hA : Pt V3 (w.heap.size) AX AY := by rw [← hV3]; exact hA.far (by omega) _ _
  replace hB : Pt V3 (w.heap.size + 1) BX BY := by rw [← hV3]; exact hB.far (by omega) _ _
  replace hC : Pt V3 (w.heap.size + 2) CX CY := by rw [← hV3]; exact hC.set _ _
  replace hD : Pt V3 (w.heap.size + 3) dx dy := by rw [← hV3]; exact hD.far (by omega) _ _
  have dd0 := hD.c0; have dd1 := hD.c1; have dd2 := hD.f0; have dd3 := hD.f1
  obtain ⟨V4, hV4⟩ : ∃ V, (V3.setCell ⟨w.heap.size + 3, 0, none⟩ (.int .i64 DX)).setCell ⟨w.heap.size + 3, 1, none⟩ (.int .i64 DY) = V := ⟨_, rfl⟩
  replace hA : Pt V4 (w.heap.size) AX AY := by rw [← hV4]; exact hA.far (by omega) _ _
  replace hB : Pt V4 (w.heap.size + 1) BX BY := by rw [← hV4]; exact hB.far (by omega) _ _
  replace hC : Pt V4 (w.heap.size + 2) CX CY := by rw [← hV4]; exact hC.far (by omega) _ _
  replace hD : Pt V4 (w.heap.size + 3) DX DY := by rw [← hV4]; exact hD.set _ _
  have hVL : Below w.heap.size w V4 := by rw [← hV4, ← hV3, ← hV2, ← hV1]; exact below_set2 (below_set2 (below_set2 (below_set2 (HBL.out.trans (hb.mono HBL.out.size)) (Nat.le_refl _)) (Nat.le_add_right _ _)) (Nat.le_add_right _ _)) (Nat.le_add_right _ _)
  have r0 := hA.c0; have r1 := hA.c1; have s0 := hB.c0; have s1 := hB.c1; have t0 := hC.c0; have t1 := hC.c1; have u0 := hD.c0; have u1 := hD.c1
  obtain ⟨LB, hLB⟩ : ∃ LB, V4.heap.size = LB := ⟨_, rfl⟩
  obtain ⟨W0, hW0⟩ : ∃ W0, V4.alloc (.cells #[.int .i64 AX, .int .i64 AY, .int .i64 BX, .int .i64 BY, .int .i64 CX, .int .i64 CY, .int .i64 DX, .int .i64 DY] 24) = W0 := ⟨_, rfl⟩
  have hsz0 : W0.heap.size = LB + 1 := by rw [← hW0]; simp [hLB]
  have hLrow : W0.heap[LB]? = some (.cells #[.int .i64 AX, .int .i64 AY, .int .i64 BX, .int .i64 BY, .int .i64 CX, .int .i64 CY, .int .i64 DX, .int .i64 DY] 24 (0, 0)) := by rw [← hW0, ← hLB]; unfold World.alloc; simp
  replace hA : Pt W0 w.heap.size AX AY := by rw [← hW0]; exact hA.alloc _
  replace hB : Pt W0 (w.heap.size + 1) BX BY := by rw [← hW0]; exact hB.alloc _
  replace hC : Pt W0 (w.heap.size + 2) CX CY := by rw [← hW0]; exact hC.alloc _
  replace hD : Pt W0 (w.heap.size + 3) DX DY := by rw [← hW0]; exact hD.alloc _
  have HB0 := hid (show Below w.heap.size w W0 by rw [← hW0]; exact hVL.alloc hVL.size _)
  have HL := hid (show ∀ (k : Nat) (q : Pp), ps[k]? = some q → W0.cell? ⟨LB, k * 2, none⟩ = some (.int .i64 q.1) ∧ W0.cell? ⟨LB, k * 2 + 1, none⟩ = some (.int .i64 q.2) from fun k q hq => by
    rw [HPS.out] at hq
    have hc : ∀ i, W0.cell? ⟨LB, i, none⟩ = (#[.int .i64 AX, .int .i64 AY, .int .i64 BX, .int .i64 BY, .int .i64 CX, .int .i64 CY, .int .i64 DX, .int .i64 DY] : Array Value)[i]? := fun i => by simp [World.cell?, hLrow]
    rw [hc, hc]
    match k, hq with
    | 0, hq => simp at hq; subst hq; exact ⟨rfl, rfl⟩
    | 1, hq => simp at hq; subst hq; exact ⟨rfl, rfl⟩
    | 2, hq => simp at hq; subst hq; exact ⟨rfl, rfl⟩
    | 3, hq => simp at hq; subst hq; exact ⟨rfl, rfl⟩
    | k + 4, hq => simp at hq)
  have HA := hid hA
  have HB := hid hB
  have HC := hid hC
  have HD := hid hD
  clear hb hA hB hC hD hVL hLrow HBL
  go_wp2
  clear aa0 aa1 aa2 aa3 bb0 bb1 bb2 bb3 cc0 cc1 cc2 cc3 dd0 dd1 dd2 dd3 r0 r1 s0 s1 t0 t1 u0 u1
  go_loopw [10, 11, 12, 13] (fun v i _ _ wr => ∃ k : Nat, k ≤ 4 ∧ i = .int .i64 k ∧ (∃ ao cap, v = .slice ao (shL (AX, AY) (BX, BY) (CX, CY) (DX, DY) (ps.take k)).length cap ∧ PtRow wr W0.heap.size (.slice ao (shL (AX, AY) (BX, BY) (CX, CY) (DX, DY) (ps.take k)).length cap) (shL (AX, AY) (BX, BY) (CX, CY) (DX, DY) (ps.take k))) ∧ Below W0.heap.size W0 wr) (fun _ i _ _ _ => 4 - (intOf i).toNat)
  case atStart => exact ⟨0, by omega, rfl, ⟨none, 0, rfl, ⟨rfl, .inl ⟨rfl, rfl⟩⟩⟩, Below.refl _ _⟩
  case round =>
    obtain ⟨k, hk, rfl, ⟨ao, cap, rfl, hrow⟩, hbr⟩ := hrel
    have hlen := shL_len (AX, AY) (BX, BY) (CX, CY) (DX, DY) (ps.take k)
    obtain ⟨sh, hsh⟩ : ∃ sh, shL (AX, AY) (BX, BY) (CX, CY) (DX, DY) (ps.take k) = sh := ⟨_, rfl⟩
    rw [hsh] at hrow hlen ⊢
    obtain ⟨n, hn⟩ : ∃ n, sh.length = n := ⟨_, rfl⟩
    have hn4 : n ≤ 4 := by rw [← hn]; refine Nat.le_trans hlen ?_; simp; omega
    rw [hn] at hrow ⊢
    have HSH := hid hsh
    have HN := hid hn
    have HROW := hid hrow
    have HBR := hid hbr
    have hA := HA.out.below hbr HA.out.lt
    have hB := HB.out.below hbr HB.out.lt
    have hC := HC.out.below hbr HC.out.lt
    have hD := HD.out.below hbr HD.out.lt
    clear hlen hsh hn hrow
    by_cases hlt : k < 4
    · have hkI : (k : Int) < 4 := by omega
      have hpl : ps.length = 4 := by rw [HPS.out]; rfl
      have HK := hid (show ps[k]? = some ps[k] by simp)
      have HM := hid (show ps[k] ∈ ps from List.getElem_mem _)
      generalize ps[k] = p at HK HM
      obtain ⟨px, py⟩ := p
      obtain ⟨l0, l1⟩ := HL.out k _ HK.out
      have m0 := (hbr.cell (p := ⟨LB, k * 2, none⟩) (by show LB < W0.heap.size; omega)).trans l0
      have m1 := (hbr.cell (p := ⟨LB, k * 2 + 1, none⟩) (by show LB < W0.heap.size; omega)).trans l1
      dsimp only at m0 m1
      have g0 := cell_regrown m0; have g1 := cell_regrown m1
      have ka0 := cell_regrown hA.c0; have ka1 := cell_regrown hA.c1; have kb0 := cell_regrown hB.c0; have kb1 := cell_regrown hB.c1
      have kc0 := cell_regrown hC.c0; have kc1 := cell_regrown hC.c1; have kd0 := cell_regrown hD.c0; have kd1 := cell_regrown hD.c1
      have co := fun d os => HO.out _ HM.out (grow (redrawn wr d) os)
      have cp := fun d os => HP.out _ HM.out (grow (redrawn wr d) os)
      dsimp only at co cp
      have HS : Hid (shS (AX, AY) (BX, BY) (CX, CY) (DX, DY) (px, py) = (on2 (AX, AY) (BX, BY) (px, py) && on2 (CX, CY) (DX, DY) (px, py))) := hid rfl
      generalize on2 (AX, AY) (BX, BY) (px, py) = O1 at *
      generalize on2 (CX, CY) (DX, DY) (px, py) = O2 at *
      have HMM := hid (And.intro m0 m1)
      clear l0 l1 m0 m1 hA hB hC hD hbr
      cases O1 with
      | false =>
        go_wp2
        refine wp_region_quiet_below (by kernel_rfl) (by kernel_rfl) ?_
        go_big_quiet_step (fail)
        go_big_quiet_step (fail)
        go_big_quiet_step (fail)
        go_big_quiet_step (fail)
        go_big_quiet_step (fail)
        go_big_quiet_step (fail)
        go_big_quiet_step (exact Calls.regrown_of (co _ _))
        repeat (go_big_quiet_step (fail))
        refine wpQuiet_nil ?_
        intro W7 hW'
        obtain ⟨⟨dq, osq⟩, hW⟩ := hW'
        have HW7 := hid (show Below wr.heap.size wr W7 by rw [hW]; exact below_regrown _ _ _)
        clear hW g0 g1 ka0 ka1 kb0 kb1 kc0 kc1 kd0 kd1 co cp
        go_wp2
        go_loopw [12, 13] (fun o kk wx => ∃ j : Nat, j ≤ n ∧ kk = .int .i64 j ∧ o = .bool true ∧ Below W7.heap.size W7 wx) (fun _ kk _ => n - (intOf kk).toNat)
        case atStart => exact ⟨0, by omega, rfl, rfl, Below.refl _ _⟩
        case round =>
          obtain ⟨j, hj, rfl, rfl, hbx⟩ := hrel
          have HBX := hid hbx
          clear hbx
          by_cases hl2 : j < n
          · have hjI : (j : Int) < (n : Int) := by omega
            go_wp2
            refine wp_region_quiet_below (by kernel_rfl) (by kernel_rfl) ?_
            repeat (go_big_quiet_step (fail))
            refine wpQuiet_nil ?_
            intro W8 hW'
            obtain ⟨⟨dq, osq⟩, hW⟩ := hW'
            have HW8 := hid (show Below wr.heap.size wr W8 by rw [hW]; exact below_regrown _ _ _)
            clear hW 
            go_wp2
            go_roundw
            case rel => exact ⟨j + 1, by omega, by go_num, rfl, HBX.out.trans (HW8.out.mono HBX.out.size)⟩
            case measure => simp [intOf]; omega
          · have hjI : ¬ (j : Int) < (n : Int) := by omega
            go_wp2
            go_roundw
            case rel =>
              have e : shL (AX, AY) (BX, BY) (CX, CY) (DX, DY) (ps.take (k + 1)) = sh := by
                rw [shL_succ HK.out, HSH.out]
                unfold shAdd
                rw [HS.out]
                rfl
              refine ⟨k + 1, by omega, by go_num, ?_, HBR.out.trans (((HW7.out.trans (HBX.out.mono HW7.out.size))).mono HBR.out.size)⟩
              rw [e, HN.out]
              exact ⟨ao, cap, rfl, HROW.out.below ((HW7.out.trans (HBX.out.mono HW7.out.size)))⟩
            case measure => simp [intOf]; omega
      | true =>
        cases O2 with
        | false =>
          go_wp2
          refine wp_region_quiet_below (by kernel_rfl) (by kernel_rfl) ?_
          go_big_quiet_step (fail)
          go_big_quiet_step (fail)
          go_big_quiet_step (fail)
          go_big_quiet_step (fail)
          go_big_quiet_step (fail)
          go_big_quiet_step (fail)
          go_big_quiet_step (exact Calls.regrown_of (co _ _))
          go_big_quiet_step (fail)
          go_big_quiet_step (fail)
          go_big_quiet_step (fail)
          go_big_quiet_step (fail)
          go_big_quiet_step (fail)
          go_big_quiet_step (fail)
          go_big_quiet_step (fail)
          go_big_quiet_step (fail)
          go_big_quiet_step (exact Calls.regrown_of (cp _ _))
          repeat (go_big_quiet_step (fail))
          refine wpQuiet_nil ?_
          intro W7 hW'
          obtain ⟨⟨dq, osq⟩, hW⟩ := hW'
          have HW7 := hid (show Below wr.heap.size wr W7 by rw [hW]; exact below_regrown _ _ _)
          clear hW g0 g1 ka0 ka1 kb0 kb1 kc0 kc1 kd0 kd1 co cp
          go_wp2
          go_loopw [12, 13] (fun o kk wx => ∃ j : Nat, j ≤ n ∧ kk = .int .i64 j ∧ o = .bool true ∧ Below W7.heap.size W7 wx) (fun _ kk _ => n - (intOf kk).toNat)
          case atStart => exact ⟨0, by omega, rfl, rfl, Below.refl _ _⟩
          case round =>
            obtain ⟨j, hj, rfl, rfl, hbx⟩ := hrel
            have HBX := hid hbx
            clear hbx
            by_cases hl2 : j < n
            · have hjI : (j : Int) < (n : Int) := by omega
              go_wp2
              refine wp_region_quiet_below (by kernel_rfl) (by kernel_rfl) ?_
              repeat (go_big_quiet_step (fail))
              refine wpQuiet_nil ?_
              intro W8 hW'
              obtain ⟨⟨dq, osq⟩, hW⟩ := hW'
              have HW8 := hid (show Below wr.heap.size wr W8 by rw [hW]; exact below_regrown _ _ _)
              clear hW 
              go_wp2
              go_roundw
              case rel => exact ⟨j + 1, by omega, by go_num, rfl, HBX.out.trans (HW8.out.mono HBX.out.size)⟩
              case measure => simp [intOf]; omega
            · have hjI : ¬ (j : Int) < (n : Int) := by omega
              go_wp2
              go_roundw
              case rel =>
                have e : shL (AX, AY) (BX, BY) (CX, CY) (DX, DY) (ps.take (k + 1)) = sh := by
                  rw [shL_succ HK.out, HSH.out]
                  unfold shAdd
                  rw [HS.out]
                  rfl
                refine ⟨k + 1, by omega, by go_num, ?_, HBR.out.trans (((HW7.out.trans (HBX.out.mono HW7.out.size))).mono HBR.out.size)⟩
                rw [e, HN.out]
                exact ⟨ao, cap, rfl, HROW.out.below ((HW7.out.trans (HBX.out.mono HW7.out.size)))⟩
              case measure => simp [intOf]; omega
        | true =>
          obtain ⟨wr0, hwr0⟩ : ∃ wr0, wr0 = wr := ⟨_, rfl⟩
          go_wp2
          refine wp_region_quiet_below (by kernel_rfl) (by kernel_rfl) ?_
          go_big_quiet_step (fail)
          go_big_quiet_step (fail)
          go_big_quiet_step (fail)
          go_big_quiet_step (fail)
          go_big_quiet_step (fail)
          go_big_quiet_step (fail)
          go_big_quiet_step (exact Calls.regrown_of (co _ _))
          go_big_quiet_step (fail)
          go_big_quiet_step (fail)
          go_big_quiet_step (fail)
          go_big_quiet_step (fail)
          go_big_quiet_step (fail)
          go_big_quiet_step (fail)
          go_big_quiet_step (fail)
          go_big_quiet_step (fail)
          go_big_quiet_step (exact Calls.regrown_of (cp _ _))
          repeat (go_big_quiet_step (fail))
          refine wpQuiet_nil ?_
          intro W7 hW'
          obtain ⟨⟨dq, osq⟩, hW⟩ := hW'
          have HW7 := hid (show Below wr.heap.size wr W7 by rw [hW]; exact below_regrown _ _ _)
          clear hW g0 g1 ka0 ka1 kb0 kb1 kc0 kc1 kd0 kd1 co cp
          rw [← hwr0] at HW7 HROW HBR HMM
          clear hwr0
          go_wp2
          go_loopw [12, 13] (fun o kk wx => ∃ j : Nat, j ≤ n ∧ kk = .int .i64 j ∧ o = .bool ((sh.take j).any fun q => eqp q (px, py)) ∧ Below W7.heap.size W7 wx) (fun _ kk _ => n - (intOf kk).toNat)
          case atStart => exact ⟨0, by omega, rfl, rfl, Below.refl _ _⟩
          case round =>
            obtain ⟨j, hj, rfl, rfl, hbx⟩ := hrel
            have HBX := hid hbx
            obtain ⟨F, hF⟩ : ∃ F, ((sh.take j).any fun q => eqp q (px, py)) = F := ⟨_, rfl⟩
            rw [hF]
            have HF := hid hF
            clear hF
            have hbw : Below wr0.heap.size wr0 wr := HW7.out.trans (hbx.mono HW7.out.size)
            have y0' := (hbw.cell (p := ⟨LB, k * 2, none⟩) (World.block_lt_of_cell? wr0 _ HMM.out.1)).trans HMM.out.1
            have y1' := (hbw.cell (p := ⟨LB, k * 2 + 1, none⟩) (World.block_lt_of_cell? wr0 _ HMM.out.2)).trans HMM.out.2
            have HRX := hid (HROW.out.below hbw)
            by_cases hl2 : j < n
            · have hjI : (j : Int) < (n : Int) := by omega
              have hjs : j < sh.length := by rw [HN.out]; exact hl2
              have HQ := hid (show sh[j]? = some sh[j] by simp [hjs])
              generalize sh[j] = q at HQ
              obtain ⟨qx, qy⟩ := q
              cases F with
              | true =>
                clear hbw hbx y0' y1'
                go_wp2
                refine wp_region_quiet_below (by kernel_rfl) (by kernel_rfl) ?_
                repeat (go_big_quiet_step (fail))
                refine wpQuiet_nil ?_
                intro W8 hW'
                obtain ⟨⟨dq, osq⟩, hW⟩ := hW'
                have HW8 := hid (show Below wr.heap.size wr W8 by rw [hW]; exact below_regrown _ _ _)
                clear hW 
                go_wp2
                go_roundw
                case rel => exact ⟨j + 1, by omega, by go_num, by rw [any_succ HQ.out, HF.out]; rfl, HBX.out.trans (HW8.out.mono HBX.out.size)⟩
                case measure => simp [intOf]; omega
              | false =>
                obtain ⟨g, rfl, x0', x1'⟩ := HRX.out.at HQ.out
                dsimp only at x0' x1'
                have x0 := cell_regrown x0'; have x1 := cell_regrown x1'; have y0 := cell_regrown y0'; have y1 := cell_regrown y1'
                clear hbw hbx y0' y1' x0' x1'
                by_cases e1 : qx = px
                · by_cases e2 : qy = py
                  · have f1 : (qx == px) = true := by simpa using e1
                    have f2 : (qy == py) = true := by simpa using e2
                    have HE := hid (And.intro e1 e2)
                    clear e1 e2
                    go_wp2
                    refine wp_region_quiet_below (by kernel_rfl) (by kernel_rfl) ?_
                    repeat (go_big_quiet_step (fail))
                    refine wpQuiet_nil ?_
                    intro W8 hW'
                    obtain ⟨⟨dq, osq⟩, hW⟩ := hW'
                    have HW8 := hid (show Below wr.heap.size wr W8 by rw [hW]; exact below_regrown _ _ _)
                    clear hW x0 x1 y0 y1
                    go_wp2
                    go_roundw
                    case rel => exact ⟨j + 1, by omega, by go_num, by rw [any_succ HQ.out, HF.out]; simp [eqp, HE.out.1, HE.out.2], HBX.out.trans (HW8.out.mono HBX.out.size)⟩
                    case measure => simp [intOf]; omega
                  · have f1 : (qx == px) = true := by simpa using e1
                    have f2 : (qy == py) = false := by simpa using e2
                    have HE := hid e2
                    clear e1 e2
                    go_wp2
                    refine wp_region_quiet_below (by kernel_rfl) (by kernel_rfl) ?_
                    repeat (go_big_quiet_step (fail))
                    refine wpQuiet_nil ?_
                    intro W8 hW'
                    obtain ⟨⟨dq, osq⟩, hW⟩ := hW'
                    have HW8 := hid (show Below wr.heap.size wr W8 by rw [hW]; exact below_regrown _ _ _)
                    clear hW x0 x1 y0 y1
                    go_wp2
                    go_roundw
                    case rel => exact ⟨j + 1, by omega, by go_num, by rw [any_succ HQ.out, HF.out]; simp [eqp, HE.out], HBX.out.trans (HW8.out.mono HBX.out.size)⟩
                    case measure => simp [intOf]; omega
                · have f1 : (qx == px) = false := by simpa using e1
                  have HE := hid e1
                  clear e1
                  go_wp2
                  refine wp_region_quiet_below (by kernel_rfl) (by kernel_rfl) ?_
                  repeat (go_big_quiet_step (fail))
                  refine wpQuiet_nil ?_
                  intro W8 hW'
                  obtain ⟨⟨dq, osq⟩, hW⟩ := hW'
                  have HW8 := hid (show Below wr.heap.size wr W8 by rw [hW]; exact below_regrown _ _ _)
                  clear hW x0 x1 y0 y1
                  go_wp2
                  go_roundw
                  case rel => exact ⟨j + 1, by omega, by go_num, by rw [any_succ HQ.out, HF.out]; simp [eqp, HE.out], HBX.out.trans (HW8.out.mono HBX.out.size)⟩
                  case measure => simp [intOf]; omega
            · have hjI : ¬ (j : Int) < (n : Int) := by omega
              have HA' : Hid ((sh.any fun q => eqp q (px, py)) = F) := by
                have := HF.out
                rw [List.take_of_length_le (by rw [HN.out]; omega)] at this
                exact this
              cases F with
              | true =>
                clear hbw hbx y0' y1'
                go_wp2
                go_roundw
                case rel =>
                  have e : shL (AX, AY) (BX, BY) (CX, CY) (DX, DY) (ps.take (k + 1)) = sh := by
                    rw [shL_succ HK.out, HSH.out]
                    unfold shAdd
                    rw [HS.out, HA'.out]
                    rfl
                  refine ⟨k + 1, by omega, by go_num, ?_, HBR.out.trans (((HW7.out.trans (HBX.out.mono HW7.out.size))).mono HBR.out.size)⟩
                  rw [e, HN.out]
                  exact ⟨ao, cap, rfl, HROW.out.below ((HW7.out.trans (HBX.out.mono HW7.out.size)))⟩
                case measure => simp [intOf]; omega
              | false =>
                obtain ⟨ao', cap', w', hrun, hrow', hbs⟩ := HRX.out.snoc (by have := HBR.out.size; have := hbw.size; omega) (by rw [HN.out]; omega) (px, py)
                rw [HN.out] at hrun hrow'
                have HRUN := hid hrun
                have HROW' := hid hrow'
                have HBS := hid (show Below W0.heap.size W0 w' from (HBR.out.trans (hbw.mono HBR.out.size)).trans hbs)
                clear hrun hrow' hbs hbw hbx
                go_wp2_with (at_builtin; refine wpList_append_run rfl (.tmp 70) (.tmp 75) 25 rfl rfl rfl HRUN.out ?_)
                go_roundw
                case rel =>
                  have e : shL (AX, AY) (BX, BY) (CX, CY) (DX, DY) (ps.take (k + 1)) = sh ++ [(px, py)] := by
                    rw [shL_succ HK.out, HSH.out]
                    unfold shAdd
                    rw [HS.out, HA'.out]
                    rfl
                  refine ⟨k + 1, by omega, by go_num, ?_, HBS.out⟩
                  rw [e, List.length_append, HN.out]
                  exact ⟨ao', cap', rfl, HROW'.out⟩
                case measure => simp [intOf]; omega
    · have hkI : ¬ (k : Int) < 4 := by omega
      have hpl : ps.length = 4 := by rw [HPS.out]; rfl
      have HE : Hid (shL (AX, AY) (BX, BY) (CX, CY) (DX, DY) ps = sh) := by
        have := HSH.out
        rw [List.take_of_length_le (by omega)] at this
        exact this
      have HBW := hid (HB0.out.trans (hbr.mono HB0.out.size))
      have ka0 := cell_regrown hA.c0; have ka1 := cell_regrown hA.c1; have kb0 := cell_regrown hB.c0; have kb1 := cell_regrown hB.c1
      have kc0 := cell_regrown hC.c0; have kc1 := cell_regrown hC.c1; have kd0 := cell_regrown hD.c0; have kd1 := cell_regrown hD.c1
      have t1 := fun d os => HT1.out (grow (redrawn wr d) os)
      have t2 := fun d os => HT2.out (grow (redrawn wr d) os)
      have t3 := fun d os => HT3.out (grow (redrawn wr d) os)
      have t4 := fun d os => HT4.out (grow (redrawn wr d) os)
      clear hbr HSH
      rcases sh with _ | ⟨⟨px, py⟩, _ | ⟨q, r⟩⟩
      · obtain rfl : n = 0 := by have := HN.out; simpa using this.symm
        clear hA hB hC hD
        cases f1 : (AX == BX && AY == BY) with
        | true =>
          have rf1 := fun x y => ite2_yes f1 (α := Result Next) x y
          have sf1 := fun x y => ite2_yes f1 (α := Prop) x y
          have F1 := hid f1
          clear f1
          have HEV : Hid (relL (AX, AY) (BX, BY) (CX, CY) (DX, DY) (shL (AX, AY) (BX, BY) (CX, CY) (DX, DY) ps) = 0) := by
            refine hid ?_
            rw [HE.out]
            show (if crs (AX, AY) (BX, BY) (CX, CY) (DX, DY) = true then (3 : Int) else 0) = _
            rw [HX.out]
            simp only [eqp, F1.out]
            rfl
          go_wp2
          refine wp_region_quiet_below (by kernel_rfl) (by kernel_rfl) ?_
          repeat (go_big_quiet_step (fail))
          refine wpQuiet_nil ?_
          intro W9 hW'
          obtain ⟨⟨dq, osq⟩, hW⟩ := hW'
          have HW9 := hid (show Below wr.heap.size wr W9 by rw [hW]; exact below_regrown _ _ _)
          clear hW ka0 ka1 kb0 kb1 kc0 kc1 kd0 kd1 t1 t2 t3 t4
          go_wp2
          go_ret
          exact ⟨by rw [HEV.out]; rfl, HBW.out.trans (HW9.out.mono HBW.out.size)⟩
        | false =>
          have rf1 := fun x y => ite2_no f1 (α := Result Next) x y
          have sf1 := fun x y => ite2_no f1 (α := Prop) x y
          have F1 := hid f1
          clear f1
          cases f2 : (CX == DX && CY == DY) with
          | true =>
            have rf2 := fun x y => ite2_yes f2 (α := Result Next) x y
            have sf2 := fun x y => ite2_yes f2 (α := Prop) x y
            have F2 := hid f2
            clear f2
            have HEV : Hid (relL (AX, AY) (BX, BY) (CX, CY) (DX, DY) (shL (AX, AY) (BX, BY) (CX, CY) (DX, DY) ps) = 0) := by
              refine hid ?_
              rw [HE.out]
              show (if crs (AX, AY) (BX, BY) (CX, CY) (DX, DY) = true then (3 : Int) else 0) = _
              rw [HX.out]
              simp only [eqp, F1.out, F2.out]
              rfl
            go_wp2
            refine wp_region_quiet_below (by kernel_rfl) (by kernel_rfl) ?_
            repeat (go_big_quiet_step (fail))
            refine wpQuiet_nil ?_
            intro W9 hW'
            obtain ⟨⟨dq, osq⟩, hW⟩ := hW'
            have HW9 := hid (show Below wr.heap.size wr W9 by rw [hW]; exact below_regrown _ _ _)
            clear hW ka0 ka1 kb0 kb1 kc0 kc1 kd0 kd1 t1 t2 t3 t4
            go_wp2
            go_ret
            exact ⟨by rw [HEV.out]; rfl, HBW.out.trans (HW9.out.mono HBW.out.size)⟩
          | false =>
            have rf2 := fun x y => ite2_no f2 (α := Result Next) x y
            have sf2 := fun x y => ite2_no f2 (α := Prop) x y
            have F2 := hid f2
            clear f2
            cases m1 : decide (M1 < 0) with
            | true =>
              cases m2 : decide (M2 < 0) with
              | true =>
                have HEV : Hid (relL (AX, AY) (BX, BY) (CX, CY) (DX, DY) (shL (AX, AY) (BX, BY) (CX, CY) (DX, DY) ps) = 3) := by
                  refine hid ?_
                  rw [HE.out]
                  show (if crs (AX, AY) (BX, BY) (CX, CY) (DX, DY) = true then (3 : Int) else 0) = _
                  rw [HX.out]
                  simp only [eqp, F1.out, F2.out, m1, m2]
                  rfl
                go_wp2
                refine wp_region_quiet_below (by kernel_rfl) (by kernel_rfl) ?_
                go_big_quiet_step (fail)
                go_big_quiet_step (fail)
                go_big_quiet_step (fail)
                go_big_quiet_step (fail)
                go_big_quiet_step (fail)
                go_big_quiet_step (fail)
                go_big_quiet_step (fail)
                go_big_quiet_step (fail)
                go_big_quiet_step (fail)
                go_big_quiet_step (fail)
                go_big_quiet_step (fail)
                go_big_quiet_step (fail)
                go_big_quiet_step (exact Calls.regrown_of (t1 _ _))
                go_big_quiet_step (fail)
                go_big_quiet_step (fail)
                go_big_quiet_step (fail)
                go_big_quiet_step (exact Calls.regrown_of (t2 _ _))
                go_big_quiet_step (fail)
                go_big_quiet_step (fail)
                go_big_quiet_step (fail)
                go_big_quiet_step (fail)
                go_big_quiet_step (fail)
                go_big_quiet_step (fail)
                go_big_quiet_step (fail)
                go_big_quiet_step (exact Calls.regrown_of (t3 _ _))
                go_big_quiet_step (fail)
                go_big_quiet_step (fail)
                go_big_quiet_step (fail)
                go_big_quiet_step (exact Calls.regrown_of (t4 _ _))
                repeat (go_big_quiet_step (fail))
                refine wpQuiet_nil ?_
                intro W9 hW'
                obtain ⟨⟨dq, osq⟩, hW⟩ := hW'
                have HW9 := hid (show Below wr.heap.size wr W9 by rw [hW]; exact below_regrown _ _ _)
                clear hW ka0 ka1 kb0 kb1 kc0 kc1 kd0 kd1 t1 t2 t3 t4
                go_wp2
                go_ret
                exact ⟨by rw [HEV.out]; rfl, HBW.out.trans (HW9.out.mono HBW.out.size)⟩
              | false =>
                have HEV : Hid (relL (AX, AY) (BX, BY) (CX, CY) (DX, DY) (shL (AX, AY) (BX, BY) (CX, CY) (DX, DY) ps) = 0) := by
                  refine hid ?_
                  rw [HE.out]
                  show (if crs (AX, AY) (BX, BY) (CX, CY) (DX, DY) = true then (3 : Int) else 0) = _
                  rw [HX.out]
                  simp only [eqp, F1.out, F2.out, m1, m2]
                  rfl
                go_wp2
                refine wp_region_quiet_below (by kernel_rfl) (by kernel_rfl) ?_
                go_big_quiet_step (fail)
                go_big_quiet_step (fail)
                go_big_quiet_step (fail)
                go_big_quiet_step (fail)
                go_big_quiet_step (fail)
                go_big_quiet_step (fail)
                go_big_quiet_step (fail)
                go_big_quiet_step (fail)
                go_big_quiet_step (fail)
                go_big_quiet_step (fail)
                go_big_quiet_step (fail)
                go_big_quiet_step (fail)
                go_big_quiet_step (exact Calls.regrown_of (t1 _ _))
                go_big_quiet_step (fail)
                go_big_quiet_step (fail)
                go_big_quiet_step (fail)
                go_big_quiet_step (exact Calls.regrown_of (t2 _ _))
                go_big_quiet_step (fail)
                go_big_quiet_step (fail)
                go_big_quiet_step (fail)
                go_big_quiet_step (fail)
                go_big_quiet_step (fail)
                go_big_quiet_step (fail)
                go_big_quiet_step (fail)
                go_big_quiet_step (exact Calls.regrown_of (t3 _ _))
                go_big_quiet_step (fail)
                go_big_quiet_step (fail)
                go_big_quiet_step (fail)
                go_big_quiet_step (exact Calls.regrown_of (t4 _ _))
                repeat (go_big_quiet_step (fail))
                refine wpQuiet_nil ?_
                intro W9 hW'
                obtain ⟨⟨dq, osq⟩, hW⟩ := hW'
                have HW9 := hid (show Below wr.heap.size wr W9 by rw [hW]; exact below_regrown _ _ _)
                clear hW ka0 ka1 kb0 kb1 kc0 kc1 kd0 kd1 t1 t2 t3 t4
                go_wp2
                go_ret
                exact ⟨by rw [HEV.out]; rfl, HBW.out.trans (HW9.out.mono HBW.out.size)⟩
            | false =>
              have HEV : Hid (relL (AX, AY) (BX, BY) (CX, CY) (DX, DY) (shL (AX, AY) (BX, BY) (CX, CY) (DX, DY) ps) = 0) := by
                refine hid ?_
                rw [HE.out]
                show (if crs (AX, AY) (BX, BY) (CX, CY) (DX, DY) = true then (3 : Int) else 0) = _
                rw [HX.out]
                simp only [eqp, F1.out, F2.out, m1]
                rfl
              go_wp2
              refine wp_region_quiet_below (by kernel_rfl) (by kernel_rfl) ?_
              go_big_quiet_step (fail)
              go_big_quiet_step (fail)
              go_big_quiet_step (fail)
              go_big_quiet_step (fail)
              go_big_quiet_step (fail)
              go_big_quiet_step (fail)
              go_big_quiet_step (fail)
              go_big_quiet_step (fail)
              go_big_quiet_step (fail)
              go_big_quiet_step (fail)
              go_big_quiet_step (fail)
              go_big_quiet_step (fail)
              go_big_quiet_step (exact Calls.regrown_of (t1 _ _))
              go_big_quiet_step (fail)
              go_big_quiet_step (fail)
              go_big_quiet_step (fail)
              go_big_quiet_step (exact Calls.regrown_of (t2 _ _))
              repeat (go_big_quiet_step (fail))
              refine wpQuiet_nil ?_
              intro W9 hW'
              obtain ⟨⟨dq, osq⟩, hW⟩ := hW'
              have HW9 := hid (show Below wr.heap.size wr W9 by rw [hW]; exact below_regrown _ _ _)
              clear hW ka0 ka1 kb0 kb1 kc0 kc1 kd0 kd1 t1 t2 t3 t4
              go_wp2
              go_ret
              exact ⟨by rw [HEV.out]; rfl, HBW.out.trans (HW9.out.mono HBW.out.size)⟩
      · obtain rfl : n = 1 := by have := HN.out; simpa using this.symm
        obtain ⟨g, rfl, x0, x1⟩ := HROW.out.at (k := 0) (p := (px, py)) rfl
        rw [Nat.zero_mul] at x0 x1
        dsimp only at x0 x1
        obtain ⟨wP, hwP⟩ : ∃ wP, wr.alloc (.cells #[.int .i64 px, .int .i64 py] 24) = wP := ⟨_, rfl⟩
        have hP : Pt wP wr.heap.size px py := by rw [← hwP]; exact Pt.new wr px py
        replace hA : Pt wP w.heap.size AX AY := by rw [← hwP]; exact hA.alloc _
        replace hB : Pt wP (w.heap.size + 1) BX BY := by rw [← hwP]; exact hB.alloc _
        replace hC : Pt wP (w.heap.size + 2) CX CY := by rw [← hwP]; exact hC.alloc _
        replace hD : Pt wP (w.heap.size + 3) DX DY := by rw [← hwP]; exact hD.alloc _
        have HBP := hid (show Below w.heap.size w wP by rw [← hwP]; exact HBW.out.alloc HBW.out.size _)
        have p0 := hP.c0; have p1 := hP.c1; have a0 := hA.c0; have a1 := hA.c1; have b0 := hB.c0; have b1 := hB.c1; have c0 := hC.c0; have c1 := hC.c1; have d0 := hD.c0; have d1 := hD.c1
        clear hA hB hC hD hP ka0 ka1 kb0 kb1 kc0 kc1 kd0 kd1 t1 t2 t3 t4
        cases f1 : (px == AX && py == AY) with
        | true =>
          have rf1 := fun x y => ite2_yes f1 (α := Result Next) x y
          have sf1 := fun x y => ite2_yes f1 (α := Prop) x y
          have F1 := hid f1
          clear f1
          cases f3 : (px == CX && py == CY) with
          | true =>
            have rf3 := fun x y => ite2_yes f3 (α := Result Next) x y
            have sf3 := fun x y => ite2_yes f3 (α := Prop) x y
            have F3 := hid f3
            clear f3
            have HEV : Hid (relL (AX, AY) (BX, BY) (CX, CY) (DX, DY) (shL (AX, AY) (BX, BY) (CX, CY) (DX, DY) ps) = 1) := by
              refine hid ?_
              rw [HE.out]
              show (if ((eqp (px, py) (AX, AY) || eqp (px, py) (BX, BY)) && (eqp (px, py) (CX, CY) || eqp (px, py) (DX, DY))) = true then (1 : Int) else 2) = _
              simp only [eqp, F1.out, F3.out]
              rfl
            go_wp2
            go_ret
            exact ⟨by rw [HEV.out]; rfl, HBP.out⟩
          | false =>
            have rf3 := fun x y => ite2_no f3 (α := Result Next) x y
            have sf3 := fun x y => ite2_no f3 (α := Prop) x y
            have F3 := hid f3
            clear f3
            cases f4 : (px == DX && py == DY) with
            | true =>
              have rf4 := fun x y => ite2_yes f4 (α := Result Next) x y
              have sf4 := fun x y => ite2_yes f4 (α := Prop) x y
              have F4 := hid f4
              clear f4
              have HEV : Hid (relL (AX, AY) (BX, BY) (CX, CY) (DX, DY) (shL (AX, AY) (BX, BY) (CX, CY) (DX, DY) ps) = 1) := by
                refine hid ?_
                rw [HE.out]
                show (if ((eqp (px, py) (AX, AY) || eqp (px, py) (BX, BY)) && (eqp (px, py) (CX, CY) || eqp (px, py) (DX, DY))) = true then (1 : Int) else 2) = _
                simp only [eqp, F1.out, F3.out, F4.out]
                rfl
              go_wp2
              go_ret
              exact ⟨by rw [HEV.out]; rfl, HBP.out⟩
            | false =>
              have rf4 := fun x y => ite2_no f4 (α := Result Next) x y
              have sf4 := fun x y => ite2_no f4 (α := Prop) x y
              have F4 := hid f4
              clear f4
              have HEV : Hid (relL (AX, AY) (BX, BY) (CX, CY) (DX, DY) (shL (AX, AY) (BX, BY) (CX, CY) (DX, DY) ps) = 2) := by
                refine hid ?_
                rw [HE.out]
                show (if ((eqp (px, py) (AX, AY) || eqp (px, py) (BX, BY)) && (eqp (px, py) (CX, CY) || eqp (px, py) (DX, DY))) = true then (1 : Int) else 2) = _
                simp only [eqp, F1.out, F3.out, F4.out]
                rfl
              go_wp2
              go_ret
              exact ⟨by rw [HEV.out]; rfl, HBP.out⟩
        | false =>
          have rf1 := fun x y => ite2_no f1 (α := Result Next) x y
          have sf1 := fun x y => ite2_no f1 (α := Prop) x y
          have F1 := hid f1
          clear f1
          cases f2 : (px == BX && py == BY) with
          | true =>
            have rf2 := fun x y => ite2_yes f2 (α := Result Next) x y
            have sf2 := fun x y => ite2_yes f2 (α := Prop) x y
            have F2 := hid f2
            clear f2
            cases f3 : (px == CX && py == CY) with
            | true =>
              have rf3 := fun x y => ite2_yes f3 (α := Result Next) x y
              have sf3 := fun x y => ite2_yes f3 (α := Prop) x y
              have F3 := hid f3
              clear f3
              have HEV : Hid (relL (AX, AY) (BX, BY) (CX, CY) (DX, DY) (shL (AX, AY) (BX, BY) (CX, CY) (DX, DY) ps) = 1) := by
                refine hid ?_
                rw [HE.out]
                show (if ((eqp (px, py) (AX, AY) || eqp (px, py) (BX, BY)) && (eqp (px, py) (CX, CY) || eqp (px, py) (DX, DY))) = true then (1 : Int) else 2) = _
                simp only [eqp, F1.out, F2.out, F3.out]
                rfl
              go_wp2
              go_ret
              exact ⟨by rw [HEV.out]; rfl, HBP.out⟩
            | false =>
              have rf3 := fun x y => ite2_no f3 (α := Result Next) x y
              have sf3 := fun x y => ite2_no f3 (α := Prop) x y
              have F3 := hid f3
              clear f3
              cases f4 : (px == DX && py == DY) with
              | true =>
                have rf4 := fun x y => ite2_yes f4 (α := Result Next) x y
                have sf4 := fun x y => ite2_yes f4 (α := Prop) x y
                have F4 := hid f4
                clear f4
                have HEV : Hid (relL (AX, AY) (BX, BY) (CX, CY) (DX, DY) (shL (AX, AY) (BX, BY) (CX, CY) (DX, DY) ps) = 1) := by
                  refine hid ?_
                  rw [HE.out]
                  show (if ((eqp (px, py) (AX, AY) || eqp (px, py) (BX, BY)) && (eqp (px, py) (CX, CY) || eqp (px, py) (DX, DY))) = true then (1 : Int) else 2) = _
                  simp only [eqp, F1.out, F2.out, F3.out, F4.out]
                  rfl
                go_wp2
                go_ret
                exact ⟨by rw [HEV.out]; rfl, HBP.out⟩
              | false =>
                have rf4 := fun x y => ite2_no f4 (α := Result Next) x y
                have sf4 := fun x y => ite2_no f4 (α := Prop) x y
                have F4 := hid f4
                clear f4
                have HEV : Hid (relL (AX, AY) (BX, BY) (CX, CY) (DX, DY) (shL (AX, AY) (BX, BY) (CX, CY) (DX, DY) ps) = 2) := by
                  refine hid ?_
                  rw [HE.out]
                  show (if ((eqp (px, py) (AX, AY) || eqp (px, py) (BX, BY)) && (eqp (px, py) (CX, CY) || eqp (px, py) (DX, DY))) = true then (1 : Int) else 2) = _
                  simp only [eqp, F1.out, F2.out, F3.out, F4.out]
                  rfl
                go_wp2
                go_ret
                exact ⟨by rw [HEV.out]; rfl, HBP.out⟩
          | false =>
            have rf2 := fun x y => ite2_no f2 (α := Result Next) x y
            have sf2 := fun x y => ite2_no f2 (α := Prop) x y
            have F2 := hid f2
            clear f2
            have HEV : Hid (relL (AX, AY) (BX, BY) (CX, CY) (DX, DY) (shL (AX, AY) (BX, BY) (CX, CY) (DX, DY) ps) = 2) := by
              refine hid ?_
              rw [HE.out]
              show (if ((eqp (px, py) (AX, AY) || eqp (px, py) (BX, BY)) && (eqp (px, py) (CX, CY) || eqp (px, py) (DX, DY))) = true then (1 : Int) else 2) = _
              simp only [eqp, F1.out, F2.out]
              rfl
            go_wp2
            go_ret
            exact ⟨by rw [HEV.out]; rfl, HBP.out⟩
      · have hn2 : 2 ≤ n := by have := HN.out; simp at this; omega
        have n0 : ((n : Int) == 0) = false := by simp; omega
        have n1 : ((n : Int) == 1) = false := by simp; omega
        have HEV : Hid (relL (AX, AY) (BX, BY) (CX, CY) (DX, DY) (shL (AX, AY) (BX, BY) (CX, CY) (DX, DY) ps) = 4) := by
          refine hid ?_
          rw [HE.out]
          rfl
        clear hA hB hC hD ka0 ka1 kb0 kb1 kc0 kc1 kd0 kd1 t1 t2 t3 t4
        go_wp2
        go_ret
        exact ⟨by rw [HEV.out]; rfl, HBW.out⟩

end Go.Proofs.Ytlnjjkgjknheiaa
