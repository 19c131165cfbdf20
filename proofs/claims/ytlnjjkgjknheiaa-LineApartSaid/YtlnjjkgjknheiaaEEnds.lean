/-
  seg.endsOf, and the turns of the ends.
-/
import Derived.Test.YtlnjjkgjknheiaaEGp
import Derived.Test.YtlnjjkgjknheiaaMC
import Derived.Test.YtlnjjkgjknheiaaMB
namespace Go.Proofs.Ytlnjjkgjknheiaa
open Go.RowKit Go.Sort

/-- Four ends, as a value. -/
abbrev ev (a b c d : Pp) : Value := .agg #[.int .i64 a.1, .int .i64 a.2, .int .i64 b.1, .int .i64 b.2, .int .i64 c.1, .int .i64 c.2, .int .i64 d.1, .int .i64 d.2]
abbrev E4 (w : World) (B : Nat) (a b c d : Pp) : Prop := Row4 w B 55 a.1 a.2 b.1 b.2 c.1 c.2 d.1 d.2

set_option maxHeartbeats 1600000 in
theorem endsOf_any (ax ay bx by' cx cy dx dy : Int) (w : World) :
    Calls Try.prog 37 #[pv ax ay, pv bx by', pv cx cy, pv dx dy] w fun e w' => e = .returned (ev (near ax, near ay) (near bx, near by') (near cx, near cy) (near dx, near dy)) ∧ Below w.heap.size w w' := by
  obtain ⟨wA, hwA⟩ : ∃ wA, w.alloc (.cells #[.int .i64 ax, .int .i64 ay] 24) = wA := ⟨_, rfl⟩
  obtain ⟨wB, hwB⟩ : ∃ wB, wA.alloc (.cells #[.int .i64 bx, .int .i64 by'] 24) = wB := ⟨_, rfl⟩
  obtain ⟨wC, hwC⟩ : ∃ wC, wB.alloc (.cells #[.int .i64 cx, .int .i64 cy] 24) = wC := ⟨_, rfl⟩
  obtain ⟨wD, hwD⟩ : ∃ wD, wC.alloc (.cells #[.int .i64 dx, .int .i64 dy] 24) = wD := ⟨_, rfl⟩
  obtain ⟨hA, hB, hC, hD, hBL, hszD, hszA, hszB, hszC⟩ := box4 hwA hwB hwC hwD
  obtain ⟨wE, hwE⟩ : ∃ wE, wD.alloc (.cells #[.int .i64 0, .int .i64 0, .int .i64 0, .int .i64 0, .int .i64 0, .int .i64 0, .int .i64 0, .int .i64 0] 55) = wE := ⟨_, rfl⟩
  have hszE : wE.heap.size = w.heap.size + 5 := by rw [← hwE]; simp [hszD]
  have hE : Row4 wE (w.heap.size + 4) 55 0 0 0 0 0 0 0 0 := by rw [← hwE, ← hszD]; exact Row4.new wD _ 0 0 0 0 0 0 0 0
  replace hA : Pt wE (w.heap.size) ax ay := by rw [← hwE]; exact hA.alloc _
  replace hB : Pt wE (w.heap.size + 1) bx by' := by rw [← hwE]; exact hB.alloc _
  replace hC : Pt wE (w.heap.size + 2) cx cy := by rw [← hwE]; exact hC.alloc _
  replace hD : Pt wE (w.heap.size + 3) dx dy := by rw [← hwE]; exact hD.alloc _
  have HBL := hid (show Below w.heap.size w wE by rw [← hwE]; exact hBL.alloc (by omega) _)
  have HE := hid hE
  have ka0 := cell_regrown hA.c0; have ka1 := cell_regrown hA.c1
  have kb0 := cell_regrown hB.c0; have kb1 := cell_regrown hB.c1
  have kc0 := cell_regrown hC.c0; have kc1 := cell_regrown hC.c1
  have kd0 := cell_regrown hD.c0; have kd1 := cell_regrown hD.c1
  have ca := fun d os => segHeld_any ax ay (grow (redrawn wE d) os)
  have cb := fun d os => segHeld_any bx by' (grow (redrawn wE d) os)
  have cc := fun d os => segHeld_any cx cy (grow (redrawn wE d) os)
  have cd := fun d os => segHeld_any dx dy (grow (redrawn wE d) os)
  generalize near ax = AX at *
  generalize near ay = AY at *
  generalize near bx = BX at *
  generalize near by' = BY at *
  generalize near cx = CX at *
  generalize near cy = CY at *
  generalize near dx = DX at *
  generalize near dy = DY at *
  clear hA hB hC hD hBL hE
  go_enter Try.func37, Try.ntmps37
  go_wp2
  refine wp_region_tail (C := fun w' => ∃ p : Regrown, w' = grow (redrawn wE p.d) p.os) 8 (by kernel_rfl) (by kernel_rfl) ⟨⟨wE.drawn + 1, #[]⟩, by rw [grow_empty]; rfl⟩ ?_
  simp only [List.take, List.drop]
  go_big_quiet_step (fail)
  go_big_quiet_step (exact Calls.regrown_of (ca _ _))
  go_big_quiet_step (fail)
  go_big_quiet_step (exact Calls.regrown_of (cb _ _))
  go_big_quiet_step (fail)
  go_big_quiet_step (exact Calls.regrown_of (cc _ _))
  go_big_quiet_step (fail)
  go_big_quiet_step (exact Calls.regrown_of (cd _ _))
  refine wpQuiet_nil ?_
  intro W hW'
  obtain ⟨⟨dq, osq⟩, hW⟩ := hW'
  have hb : Below wE.heap.size wE W := by rw [hW]; exact below_regrown _ _ _
  clear hW ka0 ka1 kb0 kb1 kc0 kc1 kd0 kd1 ca cb cc cd
  have hE := HE.out.below hb (by omega)
  have HB1 := hid (HBL.out.trans (hb.mono HBL.out.size))
  clear hb HE HBL
  have c0 := hE.c0; have c1 := hE.c1; have c2 := hE.c2; have c3 := hE.c3; have c4 := hE.c4; have c5 := hE.c5; have c6 := hE.c6; have c7 := hE.c7
  have f0 := hE.f0; have f1 := hE.f1; have f2 := hE.f2; have f3 := hE.f3; have f4 := hE.f4; have f5 := hE.f5; have f6 := hE.f6; have f7 := hE.f7
  obtain ⟨V, hV⟩ : ∃ V, (((((((W.setCell ⟨w.heap.size + 4, 0, none⟩ (.int .i64 AX)).setCell ⟨w.heap.size + 4, 1, none⟩ (.int .i64 AY)).setCell ⟨w.heap.size + 4, 2, none⟩ (.int .i64 BX)).setCell ⟨w.heap.size + 4, 3, none⟩ (.int .i64 BY)).setCell ⟨w.heap.size + 4, 4, none⟩ (.int .i64 CX)).setCell ⟨w.heap.size + 4, 5, none⟩ (.int .i64 CY)).setCell ⟨w.heap.size + 4, 6, none⟩ (.int .i64 DX)).setCell ⟨w.heap.size + 4, 7, none⟩ (.int .i64 DY) = V := ⟨_, rfl⟩
  have hR : Row4 V (w.heap.size + 4) 55 AX AY BX BY CX CY DX DY := by rw [← hV]; exact (((hE.set0 AX AY).set1 BX BY).set2 CX CY).set3 DX DY
  have HB2 := hid (show Below w.heap.size w V by rw [← hV]; exact below_setAny (below_setAny (below_setAny (below_setAny HB1.out (by omega) _ _) (by omega) _ _) (by omega) _ _) (by omega) _ _)
  clear hE HB1
  go_wp2

  have r0 := hR.c0; have r1 := hR.c1; have r2 := hR.c2; have r3 := hR.c3; have r4 := hR.c4; have r5 := hR.c5; have r6 := hR.c6; have r7 := hR.c7
  exact bodyPost_ret (v := ev (AX, AY) (BX, BY) (CX, CY) (DX, DY)) (by simp [results, Try.results37, go_sem, r0, r1, r2, r3, r4, r5, r6, r7]) rfl ⟨rfl, HB2.out⟩
end Go.Proofs.Ytlnjjkgjknheiaa
