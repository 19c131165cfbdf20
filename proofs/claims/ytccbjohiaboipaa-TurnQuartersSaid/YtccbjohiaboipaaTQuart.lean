/-
  TurnQuarters, given what turn answers.
-/
import Derived.Test.YtccbjohiaboipaaTLaw
namespace Go.Proofs.Ytccbjohiaboipaa
open Go.RowKit Go.Sort

theorem and7_i64 (n : Int) : bits .and .i64 n 7 = n % 8 := by
  have h31 : (BitVec.ofInt 64 7).toNat = 2 ^ 3 - 1 := by decide
  have key : (BitVec.ofInt 64 n &&& BitVec.ofInt 64 7).toNat = (n % ((2 ^ 64 : Nat) : Int)).toNat % 2 ^ 3 := by
    rw [BitVec.toNat_and, BitVec.toNat_ofInt, h31, Nat.and_two_pow_sub_one_eq_mod]
  show IntKind.i64.wrap ((BitVec.ofInt 64 n &&& BitVec.ofInt 64 7).toNat : Nat) = n % 8
  rw [key, IntKind.wrap_i64]
  omega
/-- A small direction, not none. -/
def Sm (p : Pp) : Prop := noneD p = false ∧ (-5 ≤ p.1 ∧ p.1 ≤ 5) ∧ -5 ≤ p.2 ∧ p.2 ≤ 5
theorem Sm.p64 {p : Pp} (h : Sm p) : P64 p := ⟨⟨by have := h.2; omega, by have := h.2; omega⟩, ⟨by have := h.2; omega, by have := h.2; omega⟩⟩
theorem sm_of {x y : Int} (h0 : ¬ (x = 0 ∧ y = 0)) (hx : -5 ≤ x ∧ x ≤ 5) (hy : -5 ≤ y ∧ y ≤ 5) : Sm (x, y) := by
  refine ⟨?_, hx, hy⟩
  unfold noneD
  simp only [Bool.or_eq_false_iff, Bool.and_eq_false_iff, decide_eq_false_iff_not, beq_eq_false_iff_ne]
  omega
theorem Pts.cells {w : World} {ao : Option Addr} {n cap : Nat} {ps : List Pp} (h : Pts w (.slice ao n cap) ps) (hn : 1 ≤ ps.length) : ∃ b off, ao = some ⟨b, off, none⟩ ∧ ∀ k p, ps[k]? = some p → w.cell? ⟨b, off + k * 2, none⟩ = some (.int .i64 p.1) ∧ w.cell? ⟨b, off + k * 2 + 1, none⟩ = some (.int .i64 p.2) := by
  obtain ⟨a, cap', e, hx⟩ := h
  injection e with e1 e2 e3
  subst e1
  exact hx hn

set_option maxRecDepth 100000 in
set_option maxHeartbeats 16000000 in
theorem turnQuarters_core (H : TurnC) (w : World) (v : Int) (_hv0 : -9223372036854775808 ≤ v) (_hv1 : v ≤ 9223372036854775807) (m : Int) :
    Calls Try.prog 3 #[.int .i64 v, .int .i64 m] w fun e w' => e = .returned (.bool true) ∧ Below w.heap.size w w' := by
  obtain ⟨n, hm⟩ : ∃ n : Nat, bits .and .i64 m 7 = (n : Int) := ⟨(m % 8).toNat, by rw [and7_i64]; omega⟩
  have hn7 : n < 8 := by have := and7_i64 m; omega
  go_enter Try.func3, Try.ntmps3
  go_wp2
  go_loopw [5, 6, 7] (fun lv rv iv wr => ∃ (j : Nat) (ps : List Pp) (ao : Option Addr) (ca : Nat) (bo : Option Addr) (cb : Nat), j ≤ n ∧ iv = .int .i64 j ∧ lv = .slice ao j ca ∧ rv = .slice bo j cb ∧ ps.length = j ∧ (∀ p ∈ ps, Sm p) ∧ DRow 24 wr w.heap.size (.slice ao j ca) ps ∧ DRow 24 wr w.heap.size (.slice bo j cb) (ps.map rotD) ∧ Apart (.slice ao j ca) (.slice bo j cb) ∧ Below w.heap.size w wr) (fun _ _ iv _ => n - (intOf iv).toNat)
  case atStart => exact ⟨0, [], none, 0, none, 0, by omega, rfl, rfl, rfl, rfl, by simp, DRow.nil _ _ _, DRow.nil _ _ _, (fun k hk => nomatch hk), Below.refl _ _⟩
  case round =>
    obtain ⟨j, ps, ao, ca, bo, cb, hj, rfl, rfl, rfl, hpl, hsm, hra, hrb, hap, hbr⟩ := hrel
    by_cases hlt : j < n
    · have hjI : (j : Int) < (n : Int) := by omega
      obtain ⟨x, hx⟩ : ∃ x, bits .and .i64 (v / 2 ^ (6 * j)) 7 = x + 3 := ⟨bits .and .i64 (v / 2 ^ (6 * j)) 7 - 3, by omega⟩
      obtain ⟨y, hy⟩ : ∃ y, bits .and .i64 (v / 2 ^ (6 * j + 3)) 7 = y + 3 := ⟨bits .and .i64 (v / 2 ^ (6 * j + 3)) 7 - 3, by omega⟩
      have bx : -3 ≤ x ∧ x ≤ 4 := by have := and7_i64 (v / 2 ^ (6 * j)); omega
      have by' : -3 ≤ y ∧ y ≤ 4 := by have := and7_i64 (v / 2 ^ (6 * j + 3)); omega
      have HRA := hid hra
      have HRB := hid hrb
      have HAP := hid hap
      have HBR := hid hbr
      have HPL := hid hpl
      have HSM := hid hsm
      clear hra hrb hap hbr hpl hsm
      go_wp2
      refine wp_region_quiet_below (by kernel_rfl) (by kernel_rfl) ?_
      go_big_quiet_step (fail)
      go_big_quiet_step (fail)
      go_big_quiet_step (fail)
      go_big_quiet_step (fail)
      go_big_quiet_step (fail)
      go_big_quiet_step (fail)
      go_big_quiet_step (fail)
      go_big_quiet_step (fail)
      go_big_quiet_step (fail)
      go_big_quiet_step (fail)
      go_big_quiet_step (fail)
      go_big_quiet_step (fail)
      go_big_quiet_step (fail)
      go_big_quiet_step (fail)
      go_big_quiet_step (fail)
      refine wpQuiet_nil ?_
      intro W1 hW'
      obtain ⟨⟨dq, osq⟩, hW⟩ := hW'
      have HW1 := hid (show Below wr.heap.size wr W1 by rw [hW]; exact below_regrown _ _ _)
      clear hW
      clear hx hy
      by_cases hz : x = 0 ∧ y = 0
      · obtain ⟨rfl, rfl⟩ := hz
        obtain ⟨ao', ca', w1, hrun1, hra1, hb1, hg1⟩ := (HRA.out.below HW1.out).snocD (HBR.out.trans (HW1.out.mono HBR.out.size)).size (by rw [HPL.out]; omega) (5, 0)
        obtain ⟨hrb1, hap1⟩ := (HRB.out.below HW1.out).keep hg1 HAP.out
        have hbw1 : Below w.heap.size w w1 := (HBR.out.trans (HW1.out.mono HBR.out.size)).trans hb1
        rw [HPL.out] at hrun1 hra1 hap1
        obtain ⟨bo', cb', w2, hrun2, hrb2, hb2, hg2⟩ := hrb1.snocD (base := w.heap.size) hbw1.size (by rw [List.length_map, HPL.out]; omega) (0, 5)
        obtain ⟨hra2, hap2⟩ := hra1.keep hg2 hap1.symm
        rw [List.length_map, HPL.out] at hrun2 hrb2 hap2
        have HRUN1 := hid hrun1
        have HRUN2 := hid hrun2
        have HRA2 := hid hra2
        have HRB2 := hid hrb2
        have HAP2 := hid hap2.symm
        have HBW := hid (hbw1.trans hb2)
        have HS := hid (show Sm (5, 0) from sm_of (by omega) (by omega) (by omega))
        clear hrun1 hrun2 hra1 hrb1 hra2 hrb2 hap1 hap2 hbw1 hb1 hb2 hg1 hg2
        go_wp2_with (first
          | (at_builtin; refine wpList_append_done rfl (.tmp 39) (.tmp 43) 22 rfl rfl rfl HRUN1.out ?_)
          | (at_builtin; refine wpList_append_done rfl (.tmp 45) (.tmp 50) 22 rfl rfl rfl HRUN2.out ?_))
        go_roundw
        case rel =>
          refine ⟨j + 1, ps ++ [(5, 0)], ao', ca', bo', cb', by omega, by go_num, rfl, rfl, by rw [List.length_append, HPL.out]; rfl, ?_, HRA2.out, ?_, HAP2.out, HBW.out⟩
          · intro p hp
            rcases List.mem_append.1 hp with hp | hp
            · exact HSM.out p hp
            · simp only [List.mem_singleton] at hp
              subst hp
              exact HS.out
          · rw [List.map_append]
            exact HRB2.out
        case measure => simp [intOf]; omega
      · have hz' : x ≠ 0 ∨ x = 0 ∧ y ≠ 0 := by omega
        have HZ := hid hz
        clear hz
        rcases hz' with hx0 | ⟨rfl, hy0⟩
        · have hx0B : (x == 0) = false := by simpa using hx0
          obtain ⟨ao', ca', w1, hrun1, hra1, hb1, hg1⟩ := (HRA.out.below HW1.out).snocD (HBR.out.trans (HW1.out.mono HBR.out.size)).size (by rw [HPL.out]; omega) (x, y)
          obtain ⟨hrb1, hap1⟩ := (HRB.out.below HW1.out).keep hg1 HAP.out
          have hbw1 : Below w.heap.size w w1 := (HBR.out.trans (HW1.out.mono HBR.out.size)).trans hb1
          rw [HPL.out] at hrun1 hra1 hap1
          obtain ⟨bo', cb', w2, hrun2, hrb2, hb2, hg2⟩ := hrb1.snocD (base := w.heap.size) hbw1.size (by rw [List.length_map, HPL.out]; omega) ((-y), x)
          obtain ⟨hra2, hap2⟩ := hra1.keep hg2 hap1.symm
          rw [List.length_map, HPL.out] at hrun2 hrb2 hap2
          have HRUN1 := hid hrun1
          have HRUN2 := hid hrun2
          have HRA2 := hid hra2
          have HRB2 := hid hrb2
          have HAP2 := hid hap2.symm
          have HBW := hid (hbw1.trans hb2)
          have HS := hid (show Sm (x, y) from sm_of HZ.out (by omega) (by omega))
          clear hrun1 hrun2 hra1 hrb1 hra2 hrb2 hap1 hap2 hbw1 hb1 hb2 hg1 hg2
          go_wp2_with (first
            | (at_builtin; refine wpList_append_done rfl (.tmp 39) (.tmp 43) 22 rfl rfl rfl HRUN1.out ?_)
            | (at_builtin; refine wpList_append_done rfl (.tmp 45) (.tmp 50) 22 rfl rfl rfl HRUN2.out ?_))
          go_roundw
          case rel =>
            refine ⟨j + 1, ps ++ [(x, y)], ao', ca', bo', cb', by omega, by go_num, rfl, rfl, by rw [List.length_append, HPL.out]; rfl, ?_, HRA2.out, ?_, HAP2.out, HBW.out⟩
            · intro p hp
              rcases List.mem_append.1 hp with hp | hp
              · exact HSM.out p hp
              · simp only [List.mem_singleton] at hp
                subst hp
                exact HS.out
            · rw [List.map_append]
              exact HRB2.out
          case measure => simp [intOf]; omega
        · have hy0B : (y == 0) = false := by simpa using hy0
          obtain ⟨ao', ca', w1, hrun1, hra1, hb1, hg1⟩ := (HRA.out.below HW1.out).snocD (HBR.out.trans (HW1.out.mono HBR.out.size)).size (by rw [HPL.out]; omega) (0, y)
          obtain ⟨hrb1, hap1⟩ := (HRB.out.below HW1.out).keep hg1 HAP.out
          have hbw1 : Below w.heap.size w w1 := (HBR.out.trans (HW1.out.mono HBR.out.size)).trans hb1
          rw [HPL.out] at hrun1 hra1 hap1
          obtain ⟨bo', cb', w2, hrun2, hrb2, hb2, hg2⟩ := hrb1.snocD (base := w.heap.size) hbw1.size (by rw [List.length_map, HPL.out]; omega) ((-y), 0)
          obtain ⟨hra2, hap2⟩ := hra1.keep hg2 hap1.symm
          rw [List.length_map, HPL.out] at hrun2 hrb2 hap2
          have HRUN1 := hid hrun1
          have HRUN2 := hid hrun2
          have HRA2 := hid hra2
          have HRB2 := hid hrb2
          have HAP2 := hid hap2.symm
          have HBW := hid (hbw1.trans hb2)
          have HS := hid (show Sm (0, y) from sm_of HZ.out (by omega) (by omega))
          clear hrun1 hrun2 hra1 hrb1 hra2 hrb2 hap1 hap2 hbw1 hb1 hb2 hg1 hg2
          go_wp2_with (first
            | (at_builtin; refine wpList_append_done rfl (.tmp 39) (.tmp 43) 22 rfl rfl rfl HRUN1.out ?_)
            | (at_builtin; refine wpList_append_done rfl (.tmp 45) (.tmp 50) 22 rfl rfl rfl HRUN2.out ?_))
          go_roundw
          case rel =>
            refine ⟨j + 1, ps ++ [(0, y)], ao', ca', bo', cb', by omega, by go_num, rfl, rfl, by rw [List.length_append, HPL.out]; rfl, ?_, HRA2.out, ?_, HAP2.out, HBW.out⟩
            · intro p hp
              rcases List.mem_append.1 hp with hp | hp
              · exact HSM.out p hp
              · simp only [List.mem_singleton] at hp
                subst hp
                exact HS.out
            · rw [List.map_append]
              exact HRB2.out
          case measure => simp [intOf]; omega
    · have hjI : ¬ (j : Int) < (n : Int) := by omega
      obtain rfl : j = n := by omega
      have HA := hid (show Pts wr (.slice ao j ca) ps from hra.pts)
      have HC := hid (show Pts wr (.slice bo j cb) (ps.map rotD) from hrb.pts)
      have HB := hid hbr
      have HL := hid (show ps.length ≤ 60 by omega)
      have HL' := hid (show (ps.map rotD).length ≤ 60 by rw [List.length_map]; omega)
      have HPL := hid hpl
      have HSM := hid hsm
      have H64 := hid (show ∀ p ∈ ps, P64 p from fun p hp => (hsm p hp).p64)
      have H64' := hid (show ∀ p ∈ ps.map rotD, P64 p from fun p hp => by
        obtain ⟨q, hq, rfl⟩ := List.mem_map.1 hp
        have := (hsm q hq).2
        exact ⟨⟨by show _ ≤ -q.2; omega, by show -q.2 ≤ _; omega⟩, ⟨by show _ ≤ q.1; omega, by show q.1 ≤ _; omega⟩⟩)
      clear hra hrb hap hbr hpl hsm
      go_wp2
      go_loopw [10] (fun iv wx => ∃ i : Nat, i ≤ j ∧ iv = .int .i64 i ∧ Pts wx (.slice ao j ca) ps ∧ Pts wx (.slice bo j cb) (ps.map rotD) ∧ Below w.heap.size w wx) (fun iv _ => j - (intOf iv).toNat)
      case atStart => exact ⟨0, by omega, rfl, HA.out, HC.out, HB.out⟩
      case round =>
        obtain ⟨i, hi, rfl, hA, hC, hbx⟩ := hrel
        clear HA HC HB
        by_cases hil : i < j
        · have hiI : (i : Int) < (j : Int) := by omega
          have HA := hid hA
          have HC := hid hC
          have HB := hid hbx
          obtain ⟨b, off, rfl, hc⟩ := hA.cells (by rw [HPL.out]; omega)
          obtain ⟨⟨px, py⟩, hp⟩ : ∃ p, ps[i]? = some p := ⟨_, List.getElem?_eq_getElem (by rw [HPL.out]; exact hil)⟩
          obtain ⟨z0, z1⟩ := hc i (px, py) hp
          dsimp only at z0 z1
          have y0 := cell_regrown z0; have y1 := cell_regrown z1
          have hs := HSM.out (px, py) (List.mem_of_getElem? hp)
          have bpx := hs.2.1; have bpy := hs.2.2
          dsimp only at bpx bpy
          have hne : (halfD (px, py) == halfD (-px, -py)) = false := by
            have := half_neg hs.1
            simpa using fun h => this h.symm
          have c5 := fun d os => H.half px py (grow (redrawn wr d) os) hs.p64
          have c6 := fun d os => H.half (-px) (-py) (grow (redrawn wr d) os) ⟨⟨by dsimp only; omega, by dsimp only; omega⟩, ⟨by dsimp only; omega, by dsimp only; omega⟩⟩
          have HK : I64 (i : Int) := ⟨by omega, by omega⟩
          have c1 := fun d os => H.next _ _ (i : Int) (grow (redrawn wr d) os) (hA.below (below_regrown _ _ _)) H64.out HK HL.out
          have c2 := fun d os => H.next _ _ (i : Int) (grow (redrawn wr d) os) (hC.below (below_regrown _ _ _)) H64'.out HK HL'.out
          have c3 := fun d os => H.prev _ _ (i : Int) (grow (redrawn wr d) os) (hA.below (below_regrown _ _ _)) H64.out HK HL.out
          have c4 := fun d os => H.prev _ _ (i : Int) (grow (redrawn wr d) os) (hC.below (below_regrown _ _ _)) H64'.out HK HL'.out
          simp only [stepD_rot] at c2 c4
          generalize stepD ps (i : Int) 1 = X at *
          generalize stepD ps (i : Int) (-1) = Y at *
          generalize halfD (px, py) = G1 at *
          generalize halfD (-px, -py) = G2 at *
          have HP := hid hp
          clear hA hC hbx hc z0 z1 hs hp HK
          go_wp2
          refine wp_region_quiet_below (by kernel_rfl) (by kernel_rfl) ?_
          go_big_quiet_step (fail)
          go_big_quiet_step (fail)
          go_big_quiet_step (exact Calls.regrown_of (c1 _ _))
          go_big_quiet_step (fail)
          go_big_quiet_step (fail)
          go_big_quiet_step (exact Calls.regrown_of (c2 _ _))
          go_big_quiet_step (fail)
          go_big_quiet_step (fail)
          go_big_quiet_step (fail)
          go_big_quiet_step (fail)
          go_big_quiet_step (exact Calls.regrown_of (c3 _ _))
          go_big_quiet_step (fail)
          go_big_quiet_step (fail)
          go_big_quiet_step (exact Calls.regrown_of (c4 _ _))
          go_big_quiet_step (fail)
          go_big_quiet_step (fail)
          go_big_quiet_step (fail)
          go_big_quiet_step (fail)
          go_big_quiet_step (fail)
          go_big_quiet_step (fail)
          go_big_quiet_step (fail)
          go_big_quiet_step (exact Calls.regrown_of (c5 _ _))
          go_big_quiet_step (fail)
          go_big_quiet_step (fail)
          go_big_quiet_step (fail)
          go_big_quiet_step (fail)
          go_big_quiet_step (fail)
          go_big_quiet_step (fail)
          go_big_quiet_step (fail)
          go_big_quiet_step (fail)
          go_big_quiet_step (fail)
          go_big_quiet_step (fail)
          go_big_quiet_step (fail)
          go_big_quiet_step (fail)
          go_big_quiet_step (fail)
          go_big_quiet_step (exact Calls.regrown_of (c6 _ _))
          go_big_quiet_step (fail)
          go_big_quiet_step (fail)
          refine wpQuiet_nil ?_
          intro W1 hW'
          obtain ⟨⟨dq, osq⟩, hW⟩ := hW'
          have HW1 := hid (show Below wr.heap.size wr W1 by rw [hW]; exact below_regrown _ _ _)
          clear hW
          replace HA := hid (HA.out.below HW1.out)
          replace HC := hid (HC.out.below HW1.out)
          replace HB := hid (HB.out.trans (HW1.out.mono HB.out.size))
          clear y0 y1 c1 c2 c3 c4 c5 c6 HW1
          go_wp2
          go_loopw [11] (fun kv wy => ∃ k : Nat, k ≤ j ∧ kv = .int .i64 k ∧ Pts wy (.slice (some ⟨b, off, none⟩) j ca) ps ∧ Pts wy (.slice bo j cb) (ps.map rotD) ∧ Below w.heap.size w wy) (fun kv _ => j - (intOf kv).toNat)
          case atStart => exact ⟨0, by omega, rfl, HA.out, HC.out, HB.out⟩
          case round =>
            obtain ⟨k, hk, rfl, hA, hC, hby⟩ := hrel
            clear HA HC HB
            have HA := hid hA
            have HC := hid hC
            have HB := hid hby
            clear hA hC hby
            by_cases hkl : k < j
            · have hkI : (k : Int) < (j : Int) := by omega
              go_wp2
              go_loopw [12] (fun tv wz => ∃ t : Nat, t ≤ j ∧ tv = .int .i64 t ∧ Pts wz (.slice (some ⟨b, off, none⟩) j ca) ps ∧ Pts wz (.slice bo j cb) (ps.map rotD) ∧ Below w.heap.size w wz) (fun tv _ => j - (intOf tv).toNat)
              case atStart => exact ⟨0, by omega, rfl, HA.out, HC.out, HB.out⟩
              case round =>
                obtain ⟨t, ht, rfl, hA, hC, hbz⟩ := hrel
                clear HA HC HB
                have HA := hid hA
                have HC := hid hC
                have HB := hid hbz
                by_cases htl : t < j
                · have htI : (t : Int) < (j : Int) := by omega
                  obtain ⟨b1, off1, e1, hc⟩ := hA.cells (by rw [HPL.out]; omega)
                  obtain ⟨rfl, rfl⟩ : b = b1 ∧ off = off1 := by injection e1 with e1; injection e1 with e1 e2; exact ⟨e1, e2⟩
                  obtain ⟨b2, off2, rfl, hd⟩ := hC.cells (by rw [List.length_map, HPL.out]; omega)
                  obtain ⟨⟨qx, qy⟩, hq⟩ : ∃ p, ps[k]? = some p := ⟨_, List.getElem?_eq_getElem (by rw [HPL.out]; exact hkl)⟩
                  obtain ⟨⟨sx, sy⟩, hs⟩ : ∃ p, ps[t]? = some p := ⟨_, List.getElem?_eq_getElem (by rw [HPL.out]; exact htl)⟩
                  obtain ⟨p0, p1⟩ := hc i (px, py) HP.out
                  obtain ⟨q0, q1⟩ := hc k (qx, qy) hq
                  obtain ⟨s0, s1⟩ := hc t (sx, sy) hs
                  obtain ⟨p2, p3⟩ := hd i (rotD (px, py)) (by rw [List.getElem?_map, HP.out]; rfl)
                  obtain ⟨q2, q3⟩ := hd k (rotD (qx, qy)) (by rw [List.getElem?_map, hq]; rfl)
                  obtain ⟨s2, s3⟩ := hd t (rotD (sx, sy)) (by rw [List.getElem?_map, hs]; rfl)
                  dsimp only [rotD] at p0 p1 q0 q1 s0 s1 p2 p3 q2 q3 s2 s3
                  have m1 := H64.out _ (List.mem_of_getElem? HP.out)
                  have m2 := H64.out _ (List.mem_of_getElem? hq)
                  have m3 := H64.out _ (List.mem_of_getElem? hs)
                  have m4 := H64'.out _ (List.mem_map_of_mem (List.mem_of_getElem? HP.out))
                  have m5 := H64'.out _ (List.mem_map_of_mem (List.mem_of_getElem? hq))
                  have m6 := H64'.out _ (List.mem_map_of_mem (List.mem_of_getElem? hs))
                  have hrot := betw_rot (px, py) (qx, qy) (sx, sy)
                  dsimp only [rotD] at m4 m5 m6 hrot
                  have c7 := fun d os => H.betw px py qx qy sx sy (grow (redrawn wr d) os) m1 m2 m3
                  have c8 := fun d os => H.betw (-py) px (-qy) qx (-sy) sx (grow (redrawn wr d) os) m4 m5 m6
                  simp only [hrot] at c8
                  generalize betwD (px, py) (qx, qy) (sx, sy) = Z at *
                  have g0 := cell_regrown p0; have g1 := cell_regrown p1; have g2 := cell_regrown q0; have g3 := cell_regrown q1; have g4 := cell_regrown s0; have g5 := cell_regrown s1
                  have i0 := cell_regrown p2; have i1 := cell_regrown p3; have i2 := cell_regrown q2; have i3 := cell_regrown q3; have i4 := cell_regrown s2; have i5 := cell_regrown s3
                  clear hA hC hbz e1 hc hd p0 p1 q0 q1 s0 s1 p2 p3 q2 q3 s2 s3 hrot m1 m2 m3 m4 m5 m6 hq hs
                  go_wp2
                  refine wp_region_quiet_below (by kernel_rfl) (by kernel_rfl) ?_
                  go_big_quiet_step (fail)
                  go_big_quiet_step (fail)
                  go_big_quiet_step (fail)
                  go_big_quiet_step (fail)
                  go_big_quiet_step (fail)
                  go_big_quiet_step (fail)
                  go_big_quiet_step (fail)
                  go_big_quiet_step (fail)
                  go_big_quiet_step (fail)
                  go_big_quiet_step (fail)
                  go_big_quiet_step (fail)
                  go_big_quiet_step (fail)
                  go_big_quiet_step (exact Calls.regrown_of (c7 _ _))
                  go_big_quiet_step (fail)
                  go_big_quiet_step (fail)
                  go_big_quiet_step (fail)
                  go_big_quiet_step (fail)
                  go_big_quiet_step (fail)
                  go_big_quiet_step (fail)
                  go_big_quiet_step (fail)
                  go_big_quiet_step (fail)
                  go_big_quiet_step (fail)
                  go_big_quiet_step (fail)
                  go_big_quiet_step (fail)
                  go_big_quiet_step (fail)
                  go_big_quiet_step (exact Calls.regrown_of (c8 _ _))
                  go_big_quiet_step (fail)
                  refine wpQuiet_nil ?_
                  intro W1 hW'
                  obtain ⟨⟨dq, osq⟩, hW⟩ := hW'
                  have HW1 := hid (show Below wr.heap.size wr W1 by rw [hW]; exact below_regrown _ _ _)
                  clear hW
                  clear g0 g1 g2 g3 g4 g5 i0 i1 i2 i3 i4 i5 c7 c8
                  go_wp2
                  go_roundw
                  case rel => exact ⟨t + 1, by omega, by go_num, HA.out.below HW1.out, HC.out.below HW1.out, HB.out.trans (HW1.out.mono HB.out.size)⟩
                  case measure => simp [intOf]; omega
                · have htI : ¬ (t : Int) < (j : Int) := by omega
                  clear hA hC hbz
                  go_wp2
                  go_roundw
                  case rel => exact ⟨k + 1, by omega, by go_num, HA.out, HC.out, HB.out⟩
                  case measure => simp [intOf]; omega
            · have hkI : ¬ (k : Int) < (j : Int) := by omega
              go_wp2
              go_roundw
              case rel => exact ⟨i + 1, by omega, by go_num, HA.out, HC.out, HB.out⟩
              case measure => simp [intOf]; omega
        · have hiI : ¬ (i : Int) < (j : Int) := by omega
          have HB := hid hbx
          clear hA hC hbx
          go_wp2_with (go_at_call 11; refine (turnAwake_any H _).mono ?_; rintro e w9 ⟨rfl, hb9⟩; replace HB := hid (HB.out.trans (hb9.mono HB.out.size)); clear hb9)
          go_ret
          exact ⟨rfl, HB.out⟩
end Go.Proofs.Ytccbjohiaboipaa
