/-
  The turns of the ends.
-/
import Derived.Test.YtlnjjkgjknheiaaEEnds
import Derived.Deep.RegionHeld
import Derived.Deep.CutRange
namespace Go.Proofs.Ytlnjjkgjknheiaa
open Go.RowKit Go.Sort

/-- Four points, laid one behind the other. -/
theorem at4 {W : World} {n : Nat} (h : W.heap.size = n) (a0 a1 b0 b1 c0 c1 d0 d1 : Int) :
    let V := ((((W.alloc (.cells #[.int .i64 a0, .int .i64 a1] 24)).alloc (.cells #[.int .i64 b0, .int .i64 b1] 24)).alloc (.cells #[.int .i64 c0, .int .i64 c1] 24)).alloc (.cells #[.int .i64 d0, .int .i64 d1] 24)).drew
    Pt V n a0 a1 ∧ Pt V (n + 1) b0 b1 ∧ Pt V (n + 1 + 1) c0 c1 ∧ Pt V (n + 1 + 1 + 1) d0 d1 ∧ Below n W V := by
  obtain ⟨h1, h2, h3, h4, h5, _⟩ := box4 (w := W) (a0 := a0) (a1 := a1) (b0 := b0) (b1 := b1) (c0 := c0) (c1 := c1) (d0 := d0) (d1 := d1) rfl rfl rfl rfl
  rw [h] at h1 h2 h3 h4 h5
  exact ⟨h1, h2, h3, h4, h5.drew⟩

set_option maxHeartbeats 8000000 in
theorem turns_core (AX AY BX BY CX CY DX DY T1 T2 T3 T4 : Int) (w : World)
    (HT1 : Hid (∀ W, Calls Try.prog 59 #[pv AX AY, pv BX BY, pv CX CY] W fun e w' => e = .returned (.int .i64 T1) ∧ Below W.heap.size W w'))
    (HT2 : Hid (∀ W, Calls Try.prog 59 #[pv AX AY, pv BX BY, pv DX DY] W fun e w' => e = .returned (.int .i64 T2) ∧ Below W.heap.size W w'))
    (HT3 : Hid (∀ W, Calls Try.prog 59 #[pv CX CY, pv DX DY, pv AX AY] W fun e w' => e = .returned (.int .i64 T3) ∧ Below W.heap.size W w'))
    (HT4 : Hid (∀ W, Calls Try.prog 59 #[pv CX CY, pv DX DY, pv BX BY] W fun e w' => e = .returned (.int .i64 T4) ∧ Below W.heap.size W w')) :
    Calls Try.prog 52 #[ev (AX, AY) (BX, BY) (CX, CY) (DX, DY)] w fun e w' => e = .returned (.agg #[.int .i64 T1, .int .i64 T2, .int .i64 T3, .int .i64 T4]) ∧ Below w.heap.size w w' := by
  obtain ⟨wA, hwA⟩ : ∃ wA, w.alloc (.cells #[.int .i64 AX, .int .i64 AY, .int .i64 BX, .int .i64 BY, .int .i64 CX, .int .i64 CY, .int .i64 DX, .int .i64 DY] 55) = wA := ⟨_, rfl⟩
  obtain ⟨wB, hwB⟩ : ∃ wB, wA.alloc (.cells #[.int .i64 0, .int .i64 0, .int .i64 0, .int .i64 0] 66) = wB := ⟨_, rfl⟩
  have hszA : wA.heap.size = w.heap.size + 1 := by rw [← hwA]; simp
  have hszB : wB.heap.size = w.heap.size + 2 := by rw [← hwB]; simp [hszA]
  have hR : Row4 wB w.heap.size 55 AX AY BX BY CX CY DX DY := by rw [← hwB, ← hwA]; exact (Row4.new w _ _ _ _ _ _ _ _ _).alloc _
  have hI : Int4 wB (w.heap.size + 1) 66 0 0 0 0 := by rw [← hwB, ← hszA]; exact Int4.new wA _ 0 0 0 0
  have HB := hid (show Below w.heap.size w wB by rw [← hwB, ← hwA]; exact ((Below.refl _ w).alloc (Nat.le_refl _) _).alloc (by simp) _)
  have HR := hid hR
  have HI := hid hI
  have k0 := hR.c0; have k1 := hR.c1; have k2 := hR.c2; have k3 := hR.c3; have k4 := hR.c4; have k5 := hR.c5; have k6 := hR.c6; have k7 := hR.c7
  clear hR hI
  go_enter Try.func52, Try.ntmps52
  go_wp2
  go_cut [3, 4, 5, 6] from 7 to 14 (fun s3 s4 s5 s6 wx => ∃ b1 b2 b3 b4, s3 = .pointer (some ⟨b1, 0, none⟩) ∧ s4 = .pointer (some ⟨b2, 0, none⟩) ∧ s5 = .pointer (some ⟨b3, 0, none⟩) ∧ s6 = .pointer (some ⟨b4, 0, none⟩) ∧ Pt wx b1 AX AY ∧ Pt wx b2 BX BY ∧ Pt wx b3 CX CY ∧ Pt wx b4 DX DY ∧ Int4 wx (w.heap.size + 1) 66 0 0 0 0 ∧ Below w.heap.size w wx)
  case first =>
    go_region_held (fun w' => w'.cell? ⟨w.heap.size, 0, none⟩ = some (.int .i64 AX) ∧ w'.cell? ⟨w.heap.size, 1, none⟩ = some (.int .i64 AY) ∧ w'.cell? ⟨w.heap.size, 2, none⟩ = some (.int .i64 BX) ∧ w'.cell? ⟨w.heap.size, 3, none⟩ = some (.int .i64 BY) ∧ w'.cell? ⟨w.heap.size, 4, none⟩ = some (.int .i64 CX) ∧ w'.cell? ⟨w.heap.size, 5, none⟩ = some (.int .i64 CY) ∧ w'.cell? ⟨w.heap.size, 6, none⟩ = some (.int .i64 DX) ∧ w'.cell? ⟨w.heap.size, 7, none⟩ = some (.int .i64 DY)) (simp [go_sem, k0, k1, k2, k3, k4, k5, k6, k7, hszB]) (fail)
    all_goals
      go_wp2
      go_meet
      case rel =>
        refine ⟨_, _, _, _, rfl, rfl, rfl, rfl, ?_, ?_, ?_, ?_, HI.out.below (at4 hszB _ _ _ _ _ _ _ _).2.2.2.2 (by omega), HB.out.trans ((at4 hszB _ _ _ _ _ _ _ _).2.2.2.2.mono (by omega))⟩
        all_goals first
          | exact (at4 hszB _ _ _ _ _ _ _ _).1
          | exact (at4 hszB _ _ _ _ _ _ _ _).2.1
          | exact (at4 hszB _ _ _ _ _ _ _ _).2.2.1
          | exact (at4 hszB _ _ _ _ _ _ _ _).2.2.2.1
  case rest =>
    obtain ⟨b1, b2, b3, b4, rfl, rfl, rfl, rfl, p1, p2, p3, p4, hI, hb0⟩ := hcut
    have k10 := cell_regrown p1.c0; have k11 := cell_regrown p1.c1; have k20 := cell_regrown p2.c0; have k21 := cell_regrown p2.c1
    have k30 := cell_regrown p3.c0; have k31 := cell_regrown p3.c1; have k40 := cell_regrown p4.c0; have k41 := cell_regrown p4.c1
    have c1 := fun d os => HT1.out (grow (redrawn wc d) os)
    have c2 := fun d os => HT2.out (grow (redrawn wc d) os)
    have c3 := fun d os => HT3.out (grow (redrawn wc d) os)
    have c4 := fun d os => HT4.out (grow (redrawn wc d) os)
    have HII := hid hI
    replace HB := hid hb0
    clear p1 p2 p3 p4 hI hb0 HR HI k0 k1 k2 k3 k4 k5 k6 k7
    go_wp2
    refine wp_region_tail (C := fun w' => ∃ p : Regrown, w' = grow (redrawn wc p.d) p.os) 16 (by kernel_rfl) (by kernel_rfl) ⟨⟨wc.drawn + 1, #[]⟩, by rw [grow_empty]; rfl⟩ ?_
    simp only [List.take, List.drop]
    go_big_quiet_step (fail)
    go_big_quiet_step (fail)
    go_big_quiet_step (fail)
    go_big_quiet_step (exact Calls.regrown_of (c1 _ _))
    go_big_quiet_step (fail)
    go_big_quiet_step (fail)
    go_big_quiet_step (fail)
    go_big_quiet_step (exact Calls.regrown_of (c2 _ _))
    go_big_quiet_step (fail)
    go_big_quiet_step (fail)
    go_big_quiet_step (fail)
    go_big_quiet_step (exact Calls.regrown_of (c3 _ _))
    go_big_quiet_step (fail)
    go_big_quiet_step (fail)
    go_big_quiet_step (fail)
    go_big_quiet_step (exact Calls.regrown_of (c4 _ _))
    refine wpQuiet_nil ?_
    intro Y hY'
    obtain ⟨⟨dq, osq⟩, hY⟩ := hY'
    have hb : Below wc.heap.size wc Y := by rw [hY]; exact below_regrown _ _ _
    have hI := HII.out.below hb HII.out.lt
    replace HB := hid (HB.out.trans (hb.mono HB.out.size))
    clear hY k10 k11 k20 k21 k30 k31 k40 k41 c1 c2 c3 c4 hb
    have g0 := hI.c0; have g1 := hI.c1; have g2 := hI.c2; have g3 := hI.c3; have e0 := hI.f0; have e1 := hI.f1; have e2 := hI.f2; have e3 := hI.f3
    obtain ⟨Z, hZ⟩ : ∃ Z, (((Y.setCell ⟨w.heap.size + 1, 0, none⟩ (.int .i64 T1)).setCell ⟨w.heap.size + 1, 1, none⟩ (.int .i64 T2)).setCell ⟨w.heap.size + 1, 2, none⟩ (.int .i64 T3)).setCell ⟨w.heap.size + 1, 3, none⟩ (.int .i64 T4) = Z := ⟨_, rfl⟩
    have hJ : Int4 Z (w.heap.size + 1) 66 T1 T2 T3 T4 := by rw [← hZ]; exact (((hI.set0 T1).set1 T2).set2 T3).set3 T4
    replace HB := hid (show Below w.heap.size w Z by rw [← hZ]; exact below_setAny (below_setAny HB.out (by omega) _ _) (by omega) _ _)
    clear hI HII
    go_wp2
    have r0 := hJ.c0; have r1 := hJ.c1; have r2 := hJ.c2; have r3 := hJ.c3
    exact bodyPost_ret (v := .agg #[.int .i64 T1, .int .i64 T2, .int .i64 T3, .int .i64 T4]) (by simp [results, Try.results52, go_sem, r0, r1, r2, r3]) rfl ⟨rfl, HB.out⟩

theorem turns_any {a b c d : Pp} (ha : Gp a) (hb : Gp b) (hc : Gp c) (hd : Gp d) (w : World) :
    Calls Try.prog 52 #[ev a b c d] w fun e w' => e = .returned (.agg #[.int .i64 (tr2 a b c), .int .i64 (tr2 a b d), .int .i64 (tr2 c d a), .int .i64 (tr2 c d b)]) ∧ Below w.heap.size w w' :=
  turns_core a.1 a.2 b.1 b.2 c.1 c.2 d.1 d.2 _ _ _ _ w (hid fun W => turn_gp ha hb hc W) (hid fun W => turn_gp ha hb hd W) (hid fun W => turn_gp hc hd ha W) (hid fun W => turn_gp hc hd hb W)
end Go.Proofs.Ytlnjjkgjknheiaa
