/-
  The document's Box.
-/
import Derived.Test.YtnfhnoacdmhlfabQRef
import Derived.Test.YtnfhnoacdmhlfabQFree
namespace Go.Proofs.Ytnfhnoacdmhlfab
open Go.RowKit Go.Sort

/-- The box from the first point on, which is taken twice. -/
def boxT (p : Int × Int) (ps : List (Int × Int)) : Int × Int × Int × Int := ps.foldl boxS (near p.1, near p.2, near p.1, near p.2)
theorem boxT_more {ps : List (Int × Int)} {k : Nat} {p q : Int × Int} (h : ps[k]? = some p) : boxT q (ps.take (k + 1)) = boxS (boxT q (ps.take k)) p := by
  unfold boxT
  rw [List.take_add_one, h]
  simp
theorem boxT_all {ps : List (Int × Int)} {q : Int × Int} (h : ps[0]? = some q) : boxT q ps = boxL ps := by
  cases ps with
  | nil => simp at h
  | cons p ps =>
    simp at h
    subst h
    unfold boxT boxL
    rw [List.foldl_cons]
    congr 1
    simp [boxS]

set_option maxHeartbeats 1600000 in
theorem refBox_any (v : Value) (ps : List (Int × Int)) (w : World) (hp : Pts w v ps) (hl : ps.length ≤ 1000000000) :
    Calls Try.prog 8 #[v] w fun e w' => e = .returned (.tuple #[pv (boxL ps).1 (boxL ps).2.1, pv (boxL ps).2.2.1 (boxL ps).2.2.2, .bool (decide (0 < ps.length))]) ∧ Below w.heap.size w w' := by
  obtain ⟨a, cap, rfl, hx⟩ := hp
  obtain ⟨n, hn⟩ : ∃ n, ps.length = n := ⟨_, rfl⟩
  rw [hn] at hx hl ⊢
  have HN := hid hn
  have HX := hid hx
  clear hn hx
  obtain ⟨wA, hwA⟩ : ∃ wA, w.alloc (.cells #[.int .i64 0, .int .i64 0] 24) = wA := ⟨_, rfl⟩
  obtain ⟨wB, hwB⟩ : ∃ wB, wA.alloc (.cells #[.int .i64 0, .int .i64 0] 24) = wB := ⟨_, rfl⟩
  obtain ⟨hA, hB, hBL, hszB, hszA⟩ := box2 hwA hwB
  have HBL := hid hBL
  have HA := hid hA
  have HB := hid hB
  clear hBL
  by_cases hn0 : n = 0
  · have hnI : ((n : Int) == 0) = true := by simp [hn0]
    have HN0 := hid hn0
    have a0 := hA.c0; have a1 := hA.c1; have a2 := hA.f0; have a3 := hA.f1
    have b0 := hB.c0; have b1 := hB.c1; have b2 := hB.f0; have b3 := hB.f1
    clear hA hB hn0
    go_enter Try.func8, Try.ntmps8
    go_wp2
    have hps : ps = [] := List.eq_nil_of_length_eq_zero (by rw [HN.out]; exact HN0.out)
    refine bodyPost_ret (v := .tuple #[pv 0 0, pv 0 0, .bool false]) (by simp [results, Try.results8, go_sem, a0, a1, b0, b1]) rfl ⟨?_, ?_⟩
    · rw [hps, HN0.out]; rfl
    · exact below_set2 (below_set2 HBL.out (Nat.le_refl _)) (Nat.le_add_right _ _)
  · have hnI : ((n : Int) == 0) = false := by simp [hn0]
    have hnP : 0 < n := by omega
    have hnJ : (0 : Int) < (n : Int) := by omega
    clear hA hB hn0
    obtain ⟨b, off, rfl, hcx⟩ := HX.out (by omega)
    have hkp : 0 < ps.length := by have := HN.out; omega
    obtain ⟨z0, z1⟩ := hcx 0 ps[0] (by simp [hkp])
    have HP0 := hid (show ps[0]? = some ps[0] by simp [hkp])
    generalize ps[0] = P0 at *
    obtain ⟨qx, qy⟩ := P0
    dsimp only at z0 z1
    rw [show off + 0 * 2 = off by omega] at z0 z1
    have hbb : b < w.heap.size := World.block_lt_of_cell? w _ z0
    have HZ0 := hid z0
    have HZ1 := hid z1
    clear z0 z1 hcx
    obtain ⟨QX, hQX⟩ : ∃ NX, near qx = NX := ⟨_, rfl⟩
    obtain ⟨QY, hQY⟩ : ∃ NX, near qy = NX := ⟨_, rfl⟩
    have HCQ := hid (fun W => refClean_any qx qy W)
    rw [hQX, hQY] at HCQ
    have HQX := hid hQX
    have HQY := hid hQY
    clear hQX hQY
    go_enter Try.func8, Try.ntmps8
    go_wp2
    refine wp_region_free (Z := .cells #[.int .i64 0, .int .i64 0] 24) 8 10 (by kernel_rfl) (by kernel_rfl) ?_ ?_
    · intro o ho
      simp only [List.take, List.drop, List.mem_cons, List.not_mem_nil, or_false] at ho
      rcases ho with rfl | rfl <;> exact ⟨rfl, fun ρ w => exec_newP rfl ρ w⟩
    apply Exists.intro
    apply And.intro
    · intro wq hbq
      have hbw := HBL.out.trans (hbq.mono HBL.out.size)
      have k0 := cell_regrown ((hbw.cell (p := ⟨b, off, none⟩) hbb).trans HZ0.out)
      have k1 := cell_regrown ((hbw.cell (p := ⟨b, off + 1, none⟩) hbb).trans HZ1.out)
      have ca := fun d os => HCQ.out (grow (redrawn wq d) os)
      clear hbw hbq
      simp only [List.take]
      go_big_quiet_step (fail)
      go_big_quiet_step (fail)
      go_big_quiet_step (fail)
      go_big_quiet_step (exact Calls.regrown_of (ca _ _))
      go_big_quiet_step (fail)
      go_big_quiet_step (fail)
      go_big_quiet_step (fail)
      go_big_quiet_step (exact Calls.regrown_of (ca _ _))
      exact wpQuiet_nil rfl
    · intro bs W hlen hb hbs hnd
      obtain ⟨b1, b2, rfl⟩ : ∃ b1 b2, bs = [b1, b2] := by
        match bs, hlen with
        | [b1, b2], _ => exact ⟨b1, b2, rfl⟩
      simp only [List.mem_cons, List.not_mem_nil, or_false, forall_eq_or_imp, forall_eq] at hbs
      simp only [List.nodup_cons, List.mem_cons, List.not_mem_nil, or_false, not_false_eq_true, List.nodup_nil, and_true] at hnd
      obtain ⟨⟨l1, p1⟩, l2, p2⟩ := hbs
      replace p1 : Pt W b1 0 0 := p1
      replace p2 : Pt W b2 0 0 := p2
      rw [hszB] at l1 l2 hb
      replace HA := hid (HA.out.below hb (by omega))
      replace HB := hid (HB.out.below hb (by omega))
      replace HBL := hid (HBL.out.trans (hb.mono (by omega)))
      have d10 := p1.c0; have d11 := p1.c1; have f10 := p1.f0; have f11 := p1.f1
      obtain ⟨V1, hV1⟩ : ∃ V1, (W.setCell ⟨b1, 0, none⟩ (.int .i64 QX)).setCell ⟨b1, 1, none⟩ (.int .i64 QY) = V1 := ⟨_, rfl⟩
      replace HA := hid (show Pt V1 _ _ _ by rw [← hV1]; exact HA.out.far (by omega) _ _)
      replace HB := hid (show Pt V1 _ _ _ by rw [← hV1]; exact HB.out.far (by omega) _ _)
      have HLO := hid (show Pt V1 b1 QX QY by rw [← hV1]; exact p1.set _ _)
      replace p2 : Pt V1 b2 0 0 := by rw [← hV1]; exact p2.far (fun h => hnd h.symm) _ _
      replace HBL := hid (show Below w.heap.size w V1 by rw [← hV1]; exact below_set2 HBL.out (by omega))
      have d20 := p2.c0; have d21 := p2.c1; have f20 := p2.f0; have f21 := p2.f1
      obtain ⟨V2, hV2⟩ : ∃ V2, (V1.setCell ⟨b2, 0, none⟩ (.int .i64 QX)).setCell ⟨b2, 1, none⟩ (.int .i64 QY) = V2 := ⟨_, rfl⟩
      replace HA := hid (show Pt V2 _ _ _ by rw [← hV2]; exact HA.out.far (by omega) _ _)
      replace HB := hid (show Pt V2 _ _ _ by rw [← hV2]; exact HB.out.far (by omega) _ _)
      replace HLO := hid (show Pt V2 _ _ _ by rw [← hV2]; exact HLO.out.far hnd _ _)
      have HHI := hid (show Pt V2 b2 QX QY by rw [← hV2]; exact p2.set _ _)
      replace HBL := hid (show Below w.heap.size w V2 by rw [← hV2]; exact below_set2 HBL.out (by omega))
      clear p1 p2 hb hlen
      simp only [List.take, List.drop, puts]
      go_wp2
      clear d10 d11 f10 f11 d20 d21 f20 f21
      go_loopw [7, 8] (fun t _ wr => ∃ (k : Nat) (lx ly hx hy : Int), k ≤ n ∧ t = .int .i64 k ∧ Below w.heap.size w wr ∧ Pt wr w.heap.size 0 0 ∧ Pt wr (w.heap.size + 1) 0 0 ∧ Pt wr b1 lx ly ∧ Pt wr b2 hx hy ∧ boxT (qx, qy) (ps.take k) = (lx, ly, hx, hy)) (fun t _ _ => n - (intOf t).toNat)
      case atStart => exact ⟨0, _, _, _, _, by omega, rfl, HBL.out, HA.out, HB.out, HLO.out, HHI.out, by show (near qx, near qy, near qx, near qy) = _; rw [HQX.out, HQY.out]⟩
      case round =>
        obtain ⟨k, lx, ly, hx, hy, hk, rfl, hbr, hA, hB, hLO, hHI, hbox⟩ := hrel
        clear HA HB HLO HHI HBL
        have HBX := hid hbox
        have HBL := hid hbr
        have HA := hid hA
        have HB := hid hB
        have HLO := hid hLO
        have HHI := hid hHI
        clear hbox
        by_cases hlt : k < n
        · have hkI : (k : Int) < (n : Int) := by omega
          obtain ⟨b', off', he, hcx⟩ := HX.out (by omega)
          obtain ⟨rfl, rfl⟩ : b = b' ∧ off = off' := by simpa using he
          have hkp : k < ps.length := by have := HN.out; omega
          obtain ⟨z0, z1⟩ := hcx k ps[k] (by simp [hkp])
          have y0 := (hbr.cell (p := ⟨b, off + k * 2, none⟩) hbb).trans z0
          have y1 := (hbr.cell (p := ⟨b, off + k * 2 + 1, none⟩) hbb).trans z1
          have HP := hid (show ps[k]? = some ps[k] by simp [hkp])
          generalize ps[k] = P at *
          obtain ⟨px, py⟩ := P
          dsimp only at y0 y1
          have HH := hid (fun W => refClean_any px py W)
          obtain ⟨NX, hNX⟩ : ∃ NX, near px = NX := ⟨_, rfl⟩
          obtain ⟨NY, hNY⟩ : ∃ NY, near py = NY := ⟨_, rfl⟩
          have HNX := hid hNX
          have HNY := hid hNY
          rw [hNX, hNY] at HH
          clear z0 z1 hcx he hA hB hLO hHI hbr hNX hNY HX
          go_wp2_with (go_at_call 15; refine (HH.out _).mono ?_; rintro e w1 ⟨rfl, hb1⟩; replace HA := hid (HA.out.below hb1 HA.out.lt); replace HB := hid (HB.out.below hb1 HB.out.lt); replace HLO := hid (HLO.out.below hb1 HLO.out.lt); replace HHI := hid (HHI.out.below hb1 HHI.out.lt); replace HBL := hid (HBL.out.trans (hb1.mono HBL.out.size)); obtain ⟨wP, hwP⟩ : ∃ wP, w1.alloc (.cells #[.int .i64 NX, .int .i64 NY] 24) = wP := ⟨_, rfl⟩; have HPP := hid (show Pt wP w1.heap.size NX NY by rw [← hwP]; exact Pt.new w1 _ _); have n1 : b1 ≠ w1.heap.size := (Nat.ne_of_lt HLO.out.lt); have n2 : b2 ≠ w1.heap.size := (Nat.ne_of_lt HHI.out.lt); replace HA := hid (show Pt wP _ _ _ by rw [← hwP]; exact HA.out.alloc _); replace HB := hid (show Pt wP _ _ _ by rw [← hwP]; exact HB.out.alloc _); replace HLO := hid (show Pt wP _ _ _ by rw [← hwP]; exact HLO.out.alloc _); replace HHI := hid (show Pt wP _ _ _ by rw [← hwP]; exact HHI.out.alloc _); replace HBL := hid (show Below w.heap.size w wP by rw [← hwP]; exact HBL.out.alloc HBL.out.size _); obtain ⟨RB, hRB⟩ : ∃ RB, w1.heap.size = RB := ⟨_, rfl⟩; rw [hRB] at HPP n1 n2; have c0 := HLO.out.c0; have c1 := HLO.out.c1; have c2 := HLO.out.f0; have c3 := HLO.out.f1; have e0 := HHI.out.c0; have e1 := HHI.out.c1; have e2 := HHI.out.f0; have e3 := HHI.out.f1; have q0 := HPP.out.c0; have q1 := HPP.out.c1; clear hb1)
          go_roundw
          case rel =>
            refine ⟨k + 1, _, _, _, _, by omega, by go_num, below_set2 (below_set2 HBL.out (by omega)) (by omega), (HA.out.far (by omega) _ _).far (by omega) _ _, (HB.out.far (by omega) _ _).far (by omega) _ _, (HLO.out.set _ _).far hnd _ _, (HHI.out.far (fun h => hnd h.symm) _ _).set _ _, ?_⟩
            rw [boxT_more HP.out, HBX.out]
            simp only [boxS, HNX.out, HNY.out, Prod.mk.injEq]
            refine ⟨?_, ?_, ?_, ?_⟩ <;> first | omega | (split <;> omega)
          case measure => simp [intOf]; omega
        · have hkI : ¬ (k : Int) < (n : Int) := by omega
          have c0 := hLO.c0; have c1 := hLO.c1; have e0 := hHI.c0; have e1 := hHI.c1
          have a0 := hA.c0; have a1 := hA.c1; have a2 := hA.f0; have a3 := hA.f1
          have r0 := hB.c0; have r1 := hB.c1; have r2 := hB.f0; have r3 := hB.f1
          have m1 : w.heap.size ≠ b1 := by omega
          have m2 : w.heap.size ≠ b2 := by omega
          have m3 : w.heap.size + 1 ≠ b1 := by omega
          have m4 : w.heap.size + 1 ≠ b2 := by omega
          clear hA hB hLO hHI hbr
          go_wp2
          go_region_held (fun w' => w'.cell? ⟨b1, 0, none⟩ = some (.int .i64 lx) ∧ w'.cell? ⟨b1, 1, none⟩ = some (.int .i64 ly) ∧ w'.cell? ⟨b2, 0, none⟩ = some (.int .i64 hx) ∧ w'.cell? ⟨b2, 1, none⟩ = some (.int .i64 hy)) (simp [go_sem, c0, c1, e0, e1, World.cell?_setCell_far, m1, m2, m3, m4]) (fail)
          go_wp2
          refine bodyPost_ret (v := .tuple #[pv lx ly, pv hx hy, .bool true]) (by simp [results, Try.results8, go_sem, a0, a1, r0, r1]) rfl ⟨?_, ?_⟩
          · have hkn : k = n := by omega
            have h1 := HBX.out
            rw [hkn, ← HN.out, List.take_length, boxT_all HP0.out] at h1
            rw [h1, show decide (0 < n) = true by simp; omega]
          · exact below_set2 (below_set2 HBL.out.drew (Nat.le_refl _)) (Nat.le_add_right _ _)
end Go.Proofs.Ytnfhnoacdmhlfab
