/-
  seg's Relate, Cross, Shared.
-/
import Derived.Test.YtlnjjkgjknheiaaEBy
namespace Go.Proofs.Ytlnjjkgjknheiaa
open Go.RowKit Go.Sort


set_option maxHeartbeats 1600000 in
theorem segRelate_any (ax ay bx by' cx cy dx dy : Int) (w : World) :
    Calls Try.prog 25 #[pv ax ay, pv bx by', pv cx cy, pv dx dy] w fun e w' => e = .returned (.int .i64 (relP (near ax, near ay) (near bx, near by') (near cx, near cy) (near dx, near dy))) ∧ Below w.heap.size w w' := by
  obtain ⟨wA, hwA⟩ : ∃ wA, w.alloc (.cells #[.int .i64 ax, .int .i64 ay] 24) = wA := ⟨_, rfl⟩
  obtain ⟨wB, hwB⟩ : ∃ wB, wA.alloc (.cells #[.int .i64 bx, .int .i64 by'] 24) = wB := ⟨_, rfl⟩
  obtain ⟨wC, hwC⟩ : ∃ wC, wB.alloc (.cells #[.int .i64 cx, .int .i64 cy] 24) = wC := ⟨_, rfl⟩
  obtain ⟨wD, hwD⟩ : ∃ wD, wC.alloc (.cells #[.int .i64 dx, .int .i64 dy] 24) = wD := ⟨_, rfl⟩
  obtain ⟨hA, hB, hC, hD, hBL, hszD, hszA, hszB, hszC⟩ := box4 hwA hwB hwC hwD
  have HB := hid hBL
  have a0 := hA.c0; have a1 := hA.c1; have b0 := hB.c0; have b1 := hB.c1; have c0 := hC.c0; have c1 := hC.c1; have d0 := hD.c0; have d1 := hD.c1
  have H1 := hid (fun W => endsOf_any ax ay bx by' cx cy dx dy W)
  have H2 := hid (fun W => relate_any (gp_near ax ay) (gp_near bx by') (gp_near cx cy) (gp_near dx dy) W)
  generalize relP (near ax, near ay) (near bx, near by') (near cx, near cy) (near dx, near dy) = R at *
  generalize near ax = AX at *
  generalize near ay = AY at *
  generalize near bx = BX at *
  generalize near by' = BY at *
  generalize near cx = CX at *
  generalize near cy = CY at *
  generalize near dx = DX at *
  generalize near dy = DY at *
  clear hA hB hC hD hBL
  go_enter Try.func25, Try.ntmps25
  go_wp2_with (first
    | (go_at_call 37; refine (H1.out _).mono ?_; rintro e w1 ⟨rfl, hb1⟩; replace HB := hid (HB.out.trans (hb1.mono HB.out.size)); clear hb1)
    | (go_at_call 38; refine (H2.out _).mono ?_; rintro e w2 ⟨rfl, hb2⟩; replace HB := hid (HB.out.trans (hb2.mono HB.out.size)); clear hb2))
  go_ret
  exact ⟨rfl, HB.out⟩






















set_option maxHeartbeats 3200000 in
theorem segShared_core (w : World) (ax ay bx by' cx cy dx dy AX AY BX BY CX CY DX DY R SX SY : Int) (SB : Bool) (sh : List Pp)
    (H1 : Hid (∀ W, Calls Try.prog 37 #[pv ax ay, pv bx by', pv cx cy, pv dx dy] W fun e w' => e = .returned (ev (AX, AY) (BX, BY) (CX, CY) (DX, DY)) ∧ Below W.heap.size W w'))
    (H2 : Hid (∀ W, Calls Try.prog 38 #[ev (AX, AY) (BX, BY) (CX, CY) (DX, DY)] W fun e w' => e = .returned (.int .i64 R) ∧ Below W.heap.size W w'))
    (H3 : Hid (∀ W, Calls Try.prog 39 #[ev (AX, AY) (BX, BY) (CX, CY) (DX, DY)] W fun e w' => (∃ v, e = .returned v ∧ Pts w' v sh) ∧ Below W.heap.size W w'))
    (hl4 : sh.length ≤ 4) (hno : R ≠ 1 → SX = 0 ∧ SY = 0 ∧ SB = false) (hyes : R = 1 → sh[0]? = some (SX, SY) ∧ SB = true) :
    Calls Try.prog 26 #[pv ax ay, pv bx by', pv cx cy, pv dx dy] w fun e w' => e = .returned (.tuple #[pv SX SY, .bool SB]) ∧ Below w.heap.size w w' := by
  obtain ⟨wA, hwA⟩ : ∃ wA, w.alloc (.cells #[.int .i64 ax, .int .i64 ay] 24) = wA := ⟨_, rfl⟩
  obtain ⟨wB, hwB⟩ : ∃ wB, wA.alloc (.cells #[.int .i64 bx, .int .i64 by'] 24) = wB := ⟨_, rfl⟩
  obtain ⟨wC, hwC⟩ : ∃ wC, wB.alloc (.cells #[.int .i64 cx, .int .i64 cy] 24) = wC := ⟨_, rfl⟩
  obtain ⟨wD, hwD⟩ : ∃ wD, wC.alloc (.cells #[.int .i64 dx, .int .i64 dy] 24) = wD := ⟨_, rfl⟩
  obtain ⟨hA, hB, hC, hD, hBL, hszD, hszA, hszB, hszC⟩ := box4 hwA hwB hwC hwD
  obtain ⟨wE, hwE⟩ : ∃ wE, wD.alloc (.cells #[.int .i64 0, .int .i64 0] 24) = wE := ⟨_, rfl⟩
  have hszE : wE.heap.size = w.heap.size + 5 := by rw [← hwE]; simp [hszD]
  have hE : Pt wE (w.heap.size + 4) 0 0 := by rw [← hwE, ← hszD]; exact Pt.new wD 0 0
  replace hA : Pt wE (w.heap.size) ax ay := by rw [← hwE]; exact hA.alloc _
  replace hB : Pt wE (w.heap.size + 1) bx by' := by rw [← hwE]; exact hB.alloc _
  replace hC : Pt wE (w.heap.size + 2) cx cy := by rw [← hwE]; exact hC.alloc _
  replace hD : Pt wE (w.heap.size + 3) dx dy := by rw [← hwE]; exact hD.alloc _
  have HB := hid (show Below w.heap.size w wE by rw [← hwE]; exact hBL.alloc (by omega) _)
  have HP := hid hE
  have a0 := hA.c0; have a1 := hA.c1; have b0 := hB.c0; have b1 := hB.c1; have c0 := hC.c0; have c1 := hC.c1; have d0 := hD.c0; have d1 := hD.c1
  clear hA hB hC hD hBL hE
  by_cases hR : R = 1
  · obtain ⟨hy, rfl⟩ := hyes hR
    have HY := hid hy
    obtain ⟨n, hn⟩ : ∃ n, sh.length = n + 1 := ⟨sh.length - 1, by have := (List.getElem?_eq_some_iff.1 hy).1; omega⟩
    have HLN := hid hn
    have hRb : (R != 1) = false := by simp [hR]
    have hn1 : (0 : Int) < (n : Int) + 1 := by omega
    clear hy hn hyes hno hR
    go_enter Try.func26, Try.ntmps26
    go_wp2_with (first
      | (go_at_call 37; refine (H1.out _).mono ?_; rintro e w1 ⟨rfl, hb1⟩; obtain ⟨w2, hw2⟩ : ∃ w2, w1.alloc (.cells #[.int .i64 AX, .int .i64 AY, .int .i64 BX, .int .i64 BY, .int .i64 CX, .int .i64 CY, .int .i64 DX, .int .i64 DY] 55) = w2 := ⟨_, rfl⟩; obtain ⟨B1, hB1⟩ : ∃ B1, w1.heap.size = B1 := ⟨_, rfl⟩; have hle : w.heap.size + 5 ≤ B1 := (by have := hb1.size; omega); have HR := hid (show Row4 w2 B1 55 AX AY BX BY CX CY DX DY by rw [← hw2, ← hB1]; exact Row4.new w1 _ _ _ _ _ _ _ _ _); replace HP := hid (show Pt w2 (w.heap.size + 4) 0 0 by rw [← hw2]; exact (HP.out.below hb1 HP.out.lt).alloc _); replace HB := hid (show Below w.heap.size w w2 by rw [← hw2]; exact (HB.out.trans (hb1.mono HB.out.size)).alloc (by omega) _); clear hb1; have x0 := HR.out.c0; have x1 := HR.out.c1; have x2 := HR.out.c2; have x3 := HR.out.c3; have x4 := HR.out.c4; have x5 := HR.out.c5; have x6 := HR.out.c6; have x7 := HR.out.c7)
      | (go_at_call 38; refine (H2.out _).mono ?_; rintro e w3 ⟨rfl, hb3⟩; replace HP := hid (HP.out.below hb3 HP.out.lt); replace HR := hid (HR.out.below hb3 HR.out.lt); replace HB := hid (HB.out.trans (hb3.mono HB.out.size)); clear hb3; have y0 := HR.out.c0; have y1 := HR.out.c1; have y2 := HR.out.c2; have y3 := HR.out.c3; have y4 := HR.out.c4; have y5 := HR.out.c5; have y6 := HR.out.c6; have y7 := HR.out.c7; have g0 := HP.out.c0; have g1 := HP.out.c1; have g2 := HP.out.f0; have g3 := HP.out.f1)
      | (go_at_call 39; refine (H3.out _).mono ?_; rintro e w4 ⟨⟨v, rfl, hp⟩, hb4⟩; replace HP := hid (HP.out.below hb4 HP.out.lt); replace HB := hid (HB.out.trans (hb4.mono HB.out.size)); obtain ⟨ao, cap, rfl, hx⟩ := hp; obtain ⟨b, off, rfl, hc⟩ := hx (by rw [HLN.out]; omega); obtain ⟨z0, z1⟩ := hc 0 (SX, SY) HY.out; simp only [HLN.out, Nat.zero_mul, Nat.add_zero] at z0 z1 ⊢; clear hb4 hc hx; have q0 := HP.out.c0; have q1 := HP.out.c1; have q2 := HP.out.f0; have q3 := HP.out.f1))
    obtain ⟨V, hV⟩ : ∃ V, (w4.setCell ⟨w.heap.size + 4, 0, none⟩ (.int .i64 SX)).setCell ⟨w.heap.size + 4, 1, none⟩ (.int .i64 SY) = V := ⟨_, rfl⟩
    rw [hV]
    have hE : Pt V (w.heap.size + 4) SX SY := by rw [← hV]; exact HP.out.set _ _
    have r0 := hE.c0; have r1 := hE.c1
    exact bodyPost_ret (v := .tuple #[pv SX SY, .bool true]) (by simp [results, Try.results26, go_sem, r0, r1]) rfl ⟨rfl, by rw [← hV]; exact below_set2 HB.out (by omega)⟩
  · obtain ⟨rfl, rfl, rfl⟩ := hno hR
    have hRb : (R != 1) = true := by simp [hR]
    clear hyes hno hR
    go_enter Try.func26, Try.ntmps26
    go_wp2_with (first
      | (go_at_call 37; refine (H1.out _).mono ?_; rintro e w1 ⟨rfl, hb1⟩; obtain ⟨w2, hw2⟩ : ∃ w2, w1.alloc (.cells #[.int .i64 AX, .int .i64 AY, .int .i64 BX, .int .i64 BY, .int .i64 CX, .int .i64 CY, .int .i64 DX, .int .i64 DY] 55) = w2 := ⟨_, rfl⟩; obtain ⟨B1, hB1⟩ : ∃ B1, w1.heap.size = B1 := ⟨_, rfl⟩; have hle : w.heap.size + 5 ≤ B1 := (by have := hb1.size; omega); have HR := hid (show Row4 w2 B1 55 AX AY BX BY CX CY DX DY by rw [← hw2, ← hB1]; exact Row4.new w1 _ _ _ _ _ _ _ _ _); replace HP := hid (show Pt w2 (w.heap.size + 4) 0 0 by rw [← hw2]; exact (HP.out.below hb1 HP.out.lt).alloc _); replace HB := hid (show Below w.heap.size w w2 by rw [← hw2]; exact (HB.out.trans (hb1.mono HB.out.size)).alloc (by omega) _); clear hb1; have x0 := HR.out.c0; have x1 := HR.out.c1; have x2 := HR.out.c2; have x3 := HR.out.c3; have x4 := HR.out.c4; have x5 := HR.out.c5; have x6 := HR.out.c6; have x7 := HR.out.c7)
      | (go_at_call 38; refine (H2.out _).mono ?_; rintro e w3 ⟨rfl, hb3⟩; replace HP := hid (HP.out.below hb3 HP.out.lt); replace HR := hid (HR.out.below hb3 HR.out.lt); replace HB := hid (HB.out.trans (hb3.mono HB.out.size)); clear hb3; have y0 := HR.out.c0; have y1 := HR.out.c1; have y2 := HR.out.c2; have y3 := HR.out.c3; have y4 := HR.out.c4; have y5 := HR.out.c5; have y6 := HR.out.c6; have y7 := HR.out.c7; have g0 := HP.out.c0; have g1 := HP.out.c1; have g2 := HP.out.f0; have g3 := HP.out.f1))
    obtain ⟨V, hV⟩ : ∃ V, (w3.setCell ⟨w.heap.size + 4, 0, none⟩ (.int .i64 0)).setCell ⟨w.heap.size + 4, 1, none⟩ (.int .i64 0) = V := ⟨_, rfl⟩
    rw [hV]
    have hE : Pt V (w.heap.size + 4) 0 0 := by rw [← hV]; exact HP.out.set _ _
    have r0 := hE.c0; have r1 := hE.c1
    exact bodyPost_ret (v := .tuple #[pv 0 0, .bool false]) (by simp [results, Try.results26, go_sem, r0, r1]) rfl ⟨rfl, by rw [← hV]; exact below_set2 HB.out (by omega)⟩

theorem segShared_any (ax ay bx by' cx cy dx dy : Int) (w : World) :
    Calls Try.prog 26 #[pv ax ay, pv bx by', pv cx cy, pv dx dy] w fun e w' => e = .returned (.tuple #[pv (shdP (near ax, near ay) (near bx, near by') (near cx, near cy) (near dx, near dy)).1.1 (shdP (near ax, near ay) (near bx, near by') (near cx, near cy) (near dx, near dy)).1.2, .bool (shdP (near ax, near ay) (near bx, near by') (near cx, near cy) (near dx, near dy)).2]) ∧ Below w.heap.size w w' :=
  segShared_core w ax ay bx by' cx cy dx dy _ _ _ _ _ _ _ _ _ _ _ _ _ (hid fun W => endsOf_any ax ay bx by' cx cy dx dy W) (hid fun W => relate_any (gp_near ax ay) (gp_near bx by') (gp_near cx cy) (gp_near dx dy) W) (hid fun W => common_any (gp_near ax ay) (gp_near bx by') (gp_near cx cy) (gp_near dx dy) W)
    (shL_len _ _ _ _ _) (fun h => by unfold shdP; rw [if_neg h]; exact ⟨rfl, rfl, rfl⟩) (fun h => by unfold shdP; rw [if_pos h]; exact ⟨shL_first h, rfl⟩)

end Go.Proofs.Ytlnjjkgjknheiaa
