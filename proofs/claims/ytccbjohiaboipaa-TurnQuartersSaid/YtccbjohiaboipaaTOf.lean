/-
  turn's held, Of.
-/
import Derived.Test.YtccbjohiaboipaaTRefB
import Derived.Test.YtccbjohiaboipaaQBox
namespace Go.Proofs.Ytccbjohiaboipaa
open Go.RowKit Go.Sort

theorem Pts.one {w : World} {b : Nat} {x y : Int} (h : Pt w b x y) (cap : Nat) : Pts w (.slice (some ⟨b, 0, none⟩) 1 cap) [(x, y)] := by
  refine ⟨_, cap, rfl, fun _ => ⟨b, 0, rfl, ?_⟩⟩
  intro k p hk
  match k, hk with
  | 0, hk =>
    simp only [List.getElem?_cons_zero, Option.some.injEq] at hk
    subst hk
    exact ⟨h.c0, h.c1⟩
  | k + 1, hk => simp at hk

set_option maxHeartbeats 1600000 in
theorem turnHeld_any (x y : Int) (w : World) :
    Calls Try.prog 33 #[pv x y] w fun e w' => e = .returned (pv (near x) (near y)) ∧ Below w.heap.size w w' := by
  obtain ⟨wA, hwA⟩ : ∃ wA, w.alloc (.cells #[.int .i64 x, .int .i64 y] 30) = wA := ⟨_, rfl⟩
  obtain ⟨wB, hwB⟩ : ∃ wB, wA.alloc (.cells #[.int .i64 0, .int .i64 0] 30) = wB := ⟨_, rfl⟩
  obtain ⟨wC, hwC⟩ : ∃ wC, wB.alloc (.cells #[.int .i64 x, .int .i64 y] 30) = wC := ⟨_, rfl⟩
  obtain ⟨hA, hB, hC, hBL, hszC, hszA, hszB⟩ := box3 hwA hwB hwC
  have a0 : wB.cell? ⟨w.heap.size, 0, none⟩ = some (.int .i64 x) := (box2 hwA hwB).1.c0
  have a1 : wB.cell? ⟨w.heap.size, 1, none⟩ = some (.int .i64 y) := (box2 hwA hwB).1.c1
  have HX := hid (box_any (.slice (some ⟨w.heap.size + 2, 0, none⟩) 1 1) [(x, y)] wC (Pts.one hC 1) (by simp))
  simp only [boxL, List.foldl_nil, List.length_cons, List.length_nil] at HX
  have HB := hid hB
  have HBL := hid hBL
  clear hA hB hC hBL
  generalize near x = NX at *
  generalize near y = NY at *
  go_enter Try.func33, Try.ntmps33
  go_wp2_with (go_at_call 42; refine HX.out.mono ?_; rintro e w1 ⟨rfl, hb1⟩; obtain ⟨w2, hw2⟩ : ∃ w2, w1.alloc (.cells #[.int .i64 0, .int .i64 0] 30) = w2 := ⟨_, rfl⟩; obtain ⟨w3, hw3⟩ : ∃ w3, w2.alloc (.cells #[.int .i64 0, .int .i64 0] 30) = w3 := ⟨_, rfl⟩; obtain ⟨hF, hG, hBL1, hsz3, hsz2⟩ := box2 hw2 hw3; obtain ⟨B1, hB1⟩ : ∃ B1, w1.heap.size = B1 := ⟨_, rfl⟩; rw [hB1] at hF hG hBL1 hsz3 hsz2; have hle : w.heap.size + 3 ≤ B1 := (by have := hb1.size; omega); have hE : Pt w3 (w.heap.size + 1) 0 0 := (HB.out.below hb1 (by omega)).below hBL1 (by omega); have HB3 := hid (show Below w.heap.size w w3 from (HBL.out.trans (hb1.mono HBL.out.size)).trans (hBL1.mono (by omega))); clear hb1 hBL1 HB HBL; have f0 := hF.c0; have f1 := hF.c1; have f2 := hF.f0; have f3 := hF.f1; obtain ⟨V1, hV1⟩ : ∃ V, (w3.setCell ⟨B1, 0, none⟩ (.int .i64 NX)).setCell ⟨B1, 1, none⟩ (.int .i64 NY) = V := ⟨_, rfl⟩; replace hF : Pt V1 B1 NX NY := (by rw [← hV1]; exact hF.set _ _); replace hG : Pt V1 (B1 + 1) 0 0 := (by rw [← hV1]; exact hG.far (by omega) _ _); replace hE : Pt V1 (w.heap.size + 1) 0 0 := (by rw [← hV1]; exact hE.far (by omega) _ _); have g0 := hG.c0; have g1 := hG.c1; have g2 := hG.f0; have g3 := hG.f1; obtain ⟨V2, hV2⟩ : ∃ V, (V1.setCell ⟨B1 + 1, 0, none⟩ (.int .i64 NX)).setCell ⟨B1 + 1, 1, none⟩ (.int .i64 NY) = V := ⟨_, rfl⟩; replace hF : Pt V2 B1 NX NY := (by rw [← hV2]; exact hF.far (by omega) _ _); replace hE : Pt V2 (w.heap.size + 1) 0 0 := (by rw [← hV2]; exact hE.far (by omega) _ _); have h0 := hF.c0; have h1 := hF.c1; have e0 := hE.c0; have e1 := hE.c1; have e2 := hE.f0; have e3 := hE.f1; obtain ⟨V3, hV3⟩ : ∃ V, (V2.setCell ⟨w.heap.size + 1, 0, none⟩ (.int .i64 NX)).setCell ⟨w.heap.size + 1, 1, none⟩ (.int .i64 NY) = V := ⟨_, rfl⟩; replace hE : Pt V3 (w.heap.size + 1) NX NY := (by rw [← hV3]; exact hE.set _ _); have i0 := hE.c0; have i1 := hE.c1; have HBV := hid (show Below w.heap.size w V3 by rw [← hV3, ← hV2, ← hV1]; exact below_set2 (below_set2 (below_set2 HB3.out (by omega)) (by omega)) (by omega)); clear hF hG hE HB3)
  exact bodyPost_ret (v := pv NX NY) (by simp [results, Try.results33, go_sem, i0, i1]) rfl ⟨rfl, HBV.out⟩

set_option maxHeartbeats 800000 in
theorem turnOf_any (ax ay bx by' : Int) (w : World) :
    Calls Try.prog 16 #[pv ax ay, pv bx by'] w fun e w' => e = .returned (.tuple #[pv (ofD (near ax, near ay) (near bx, near by')).1.1 (ofD (near ax, near ay) (near bx, near by')).1.2, .bool (ofD (near ax, near ay) (near bx, near by')).2]) ∧ Below w.heap.size w w' := by
  obtain ⟨wA, hwA⟩ : ∃ wA, w.alloc (.cells #[.int .i64 ax, .int .i64 ay] 30) = wA := ⟨_, rfl⟩
  obtain ⟨wB, hwB⟩ : ∃ wB, wA.alloc (.cells #[.int .i64 bx, .int .i64 by'] 30) = wB := ⟨_, rfl⟩
  obtain ⟨hA, hB, hBL, hszB, hszA⟩ := box2 hwA hwB
  obtain ⟨wC, hwC⟩ : ∃ wC, wB.alloc (.cells #[.int .i64 0, .int .i64 0] 24) = wC := ⟨_, rfl⟩
  have hC : Dt 24 wC (w.heap.size + 2) 0 0 := by rw [← hwC, ← hszB]; exact Dt.new _ wB 0 0
  replace hA : Pt wC w.heap.size ax ay := by rw [← hwC]; exact hA.alloc _
  replace hB : Pt wC (w.heap.size + 1) bx by' := by rw [← hwC]; exact hB.alloc _
  have HBL := hid (show Below w.heap.size w wC by rw [← hwC]; exact hBL.alloc (by omega) _)
  have HA := hid hA; have HB := hid hB; have HC := hid hC
  have ka0 := cell_regrown hA.c0; have ka1 := cell_regrown hA.c1; have kb0 := cell_regrown hB.c0; have kb1 := cell_regrown hB.c1
  have ca := fun d os => turnHeld_any ax ay (grow (redrawn wC d) os)
  have cb := fun d os => turnHeld_any bx by' (grow (redrawn wC d) os)
  have n1 := near_lo ax; have n2 := near_hi ax; have n3 := near_lo ay; have n4 := near_hi ay
  have n5 := near_lo bx; have n6 := near_hi bx; have n7 := near_lo by'; have n8 := near_hi by'
  generalize near ax = AX at *
  generalize near ay = AY at *
  generalize near bx = BX at *
  generalize near by' = BY at *
  clear hA hB hC hBL
  go_enter Try.func16, Try.ntmps16
  go_wp2
  refine wp_region_tail (C := fun w' => ∃ p : Regrown, w' = grow (redrawn wC p.d) p.os) 4 (by kernel_rfl) (by kernel_rfl) ⟨⟨wC.drawn + 1, #[]⟩, by rw [grow_empty]; rfl⟩ ?_
  simp only [List.take, List.drop]
  go_big_quiet_step (fail)
  go_big_quiet_step (exact Calls.regrown_of (ca _ _))
  go_big_quiet_step (fail)
  go_big_quiet_step (exact Calls.regrown_of (cb _ _))
  refine wpQuiet_nil ?_
  intro W hW'
  obtain ⟨⟨dq, osq⟩, hW⟩ := hW'
  have hb : Below wC.heap.size wC W := by rw [hW]; exact below_regrown _ _ _
  clear hW ka0 ka1 kb0 kb1 ca cb
  have hA := HA.out.below hb HA.out.lt
  have hB := HB.out.below hb HB.out.lt
  have hC := HC.out.below hb HC.out.lt
  have a0 := hA.c0; have a1 := hA.c1; have a2 := hA.f0; have a3 := hA.f1
  have b2 := hB.f0; have b3 := hB.f1
  obtain ⟨V1, hV1⟩ : ∃ V, (W.setCell ⟨w.heap.size, 0, none⟩ (.int .i64 AX)).setCell ⟨w.heap.size, 1, none⟩ (.int .i64 AY) = V := ⟨_, rfl⟩
  replace hA : Pt V1 w.heap.size AX AY := by rw [← hV1]; exact hA.set _ _
  replace hB : Pt V1 (w.heap.size + 1) bx by' := by rw [← hV1]; exact hB.far (by omega) _ _
  replace hC : Dt 24 V1 (w.heap.size + 2) 0 0 := by rw [← hV1]; exact hC.far (by omega) _ _
  have d0 := hB.c0; have d1 := hB.c1; have d2 := hB.f0; have d3 := hB.f1
  obtain ⟨V2, hV2⟩ : ∃ V, (V1.setCell ⟨w.heap.size + 1, 0, none⟩ (.int .i64 BX)).setCell ⟨w.heap.size + 1, 1, none⟩ (.int .i64 BY) = V := ⟨_, rfl⟩
  replace hA : Pt V2 w.heap.size AX AY := by rw [← hV2]; exact hA.far (by omega) _ _
  replace hB : Pt V2 (w.heap.size + 1) BX BY := by rw [← hV2]; exact hB.set _ _
  replace hC : Dt 24 V2 (w.heap.size + 2) 0 0 := by rw [← hV2]; exact hC.far (by omega) _ _
  have HVL := hid (show Below w.heap.size w V2 by rw [← hV2, ← hV1]; exact below_set2 (below_set2 (HBL.out.trans (hb.mono HBL.out.size)) (Nat.le_refl _)) (Nat.le_add_right _ _))
  have r0 := hA.c0; have r1 := hA.c1; have s0 := hB.c0; have s1 := hB.c1
  have ee0 := hC.c0; have ee1 := hC.c1; have ee2 := hC.f0; have ee3 := hC.f1
  have m1 : w.heap.size + 2 ≠ w.heap.size := by omega
  have m2 : w.heap.size + 2 ≠ w.heap.size + 1 := by omega
  clear hb hA hB hC HA HB HC HBL
  go_wp2
  have u1 : IntKind.i64.wrap (BX - AX) = BX - AX := by rw [IntKind.wrap_i64]; omega
  have u2 : IntKind.i64.wrap (BY - AY) = BY - AY := by rw [IntKind.wrap_i64]; omega
  have fin : ∀ r1 r2, (AX == BX) = r1 → (AY == BY) = r2 → (!(AX == BX && AY == BY)) = !(r1 && r2) := fun r1 r2 h1 h2 => by rw [h1, h2]
  cases h1 : (AX == BX) <;> cases h2 : (AY == BY) <;> (
    have HF := hid (fin _ _ h1 h2)
    go_region_held (fun w' => w'.cell? ⟨w.heap.size, 0, none⟩ = some (.int .i64 AX) ∧ w'.cell? ⟨w.heap.size, 1, none⟩ = some (.int .i64 AY) ∧ w'.cell? ⟨w.heap.size + 1, 0, none⟩ = some (.int .i64 BX) ∧ w'.cell? ⟨w.heap.size + 1, 1, none⟩ = some (.int .i64 BY)) (simp [go_sem, r0, r1, s0, s1, World.cell?_setCell_far]) (fail)
    go_wp2
    refine bodyPost_ret (v := .tuple #[pv (BX - AX) (BY - AY), .bool (!(AX == BX && AY == BY))]) (by rw [HF.out]; simp [results, Try.results16, go_sem, ee0, ee1]) rfl ⟨rfl, ?_⟩
    exact below_set2 HVL.out.drew (Nat.le_add_right _ _))
end Go.Proofs.Ytccbjohiaboipaa
