/-
  seg.held, slices.Contains of points.
-/
import Derived.Test.YtlnjjkgjknheiaaEGeo
import Derived.Test.YtlnjjkgjknheiaaSRel
namespace Go.Proofs.Ytlnjjkgjknheiaa
open Go.RowKit Go.Sort

theorem Pts.one {w : World} {b : Nat} {x y : Int} (h : Pt w b x y) (cap : Nat) : Pts w (.slice (some ⟨b, 0, none⟩) 1 cap) [(x, y)] := by
  refine ⟨_, cap, rfl, fun _ => ⟨b, 0, rfl, ?_⟩⟩
  intro k p hk
  match k, hk with
  | 0, hk =>
    simp only [List.getElem?_cons_zero, Option.some.injEq] at hk
    subst hk
    exact ⟨h.c0, h.c1⟩
  | k + 1, hk => simp at hk

theorem Pts.below {w w' : World} {v : Value} {ps : List Pp} (h : Pts w v ps) (hb : Below w.heap.size w w') : Pts w' v ps := by
  obtain ⟨a, cap, rfl, hx⟩ := h
  refine ⟨a, cap, rfl, fun h1 => ?_⟩
  obtain ⟨b, off, rfl, hc⟩ := hx h1
  refine ⟨b, off, rfl, fun k p hk => ?_⟩
  obtain ⟨z0, z1⟩ := hc k p hk
  have hbb : b < w.heap.size := World.block_lt_of_cell? w _ z0
  exact ⟨(hb.cell (p := ⟨b, off + k * 2, none⟩) hbb).trans z0, (hb.cell (p := ⟨b, off + k * 2 + 1, none⟩) hbb).trans z1⟩


set_option maxHeartbeats 1600000 in
theorem segHeld_any (x y : Int) (w : World) :
    Calls Try.prog 51 #[pv x y] w fun e w' => e = .returned (pv (near x) (near y)) ∧ Below w.heap.size w w' := by
  obtain ⟨wA, hwA⟩ : ∃ wA, w.alloc (.cells #[.int .i64 x, .int .i64 y] 24) = wA := ⟨_, rfl⟩
  obtain ⟨wB, hwB⟩ : ∃ wB, wA.alloc (.cells #[.int .i64 0, .int .i64 0] 24) = wB := ⟨_, rfl⟩
  obtain ⟨wC, hwC⟩ : ∃ wC, wB.alloc (.cells #[.int .i64 x, .int .i64 y] 24) = wC := ⟨_, rfl⟩
  obtain ⟨hA, hB, hC, hBL, hszC, hszA, hszB⟩ := box3 hwA hwB hwC
  have a0 : wB.cell? ⟨w.heap.size, 0, none⟩ = some (.int .i64 x) := (box2 hwA hwB).1.c0
  have a1 : wB.cell? ⟨w.heap.size, 1, none⟩ = some (.int .i64 y) := (box2 hwA hwB).1.c1
  have HX := hid (box_any (.slice (some ⟨w.heap.size + 2, 0, none⟩) 1 1) [(x, y)] wC (Pts.one hC 1) (by simp))
  simp only [boxL, List.foldl_nil, List.length_cons, List.length_nil] at HX
  have HB := hid hB
  have HBL := hid hBL
  clear hA hB hC hBL
  generalize near x = NX at *
  generalize near y = NY at *
  go_enter Try.func51, Try.ntmps51
  go_wp2_with (go_at_call 22; refine HX.out.mono ?_; rintro e w1 ⟨rfl, hb1⟩; obtain ⟨w2, hw2⟩ : ∃ w2, w1.alloc (.cells #[.int .i64 0, .int .i64 0] 24) = w2 := ⟨_, rfl⟩; obtain ⟨w3, hw3⟩ : ∃ w3, w2.alloc (.cells #[.int .i64 0, .int .i64 0] 24) = w3 := ⟨_, rfl⟩; obtain ⟨hF, hG, hBL1, hsz3, hsz2⟩ := box2 hw2 hw3; obtain ⟨B1, hB1⟩ : ∃ B1, w1.heap.size = B1 := ⟨_, rfl⟩; rw [hB1] at hF hG hBL1 hsz3 hsz2; have hle : w.heap.size + 3 ≤ B1 := (by have := hb1.size; omega); have hE : Pt w3 (w.heap.size + 1) 0 0 := (HB.out.below hb1 (by omega)).below hBL1 (by omega); have HB3 := hid (show Below w.heap.size w w3 from (HBL.out.trans (hb1.mono HBL.out.size)).trans (hBL1.mono (by omega))); clear hb1 hBL1 HB HBL; have f0 := hF.c0; have f1 := hF.c1; have f2 := hF.f0; have f3 := hF.f1; obtain ⟨V1, hV1⟩ : ∃ V, (w3.setCell ⟨B1, 0, none⟩ (.int .i64 NX)).setCell ⟨B1, 1, none⟩ (.int .i64 NY) = V := ⟨_, rfl⟩; replace hF : Pt V1 B1 NX NY := (by rw [← hV1]; exact hF.set _ _); replace hG : Pt V1 (B1 + 1) 0 0 := (by rw [← hV1]; exact hG.far (by omega) _ _); replace hE : Pt V1 (w.heap.size + 1) 0 0 := (by rw [← hV1]; exact hE.far (by omega) _ _); have g0 := hG.c0; have g1 := hG.c1; have g2 := hG.f0; have g3 := hG.f1; obtain ⟨V2, hV2⟩ : ∃ V, (V1.setCell ⟨B1 + 1, 0, none⟩ (.int .i64 NX)).setCell ⟨B1 + 1, 1, none⟩ (.int .i64 NY) = V := ⟨_, rfl⟩; replace hF : Pt V2 B1 NX NY := (by rw [← hV2]; exact hF.far (by omega) _ _); replace hE : Pt V2 (w.heap.size + 1) 0 0 := (by rw [← hV2]; exact hE.far (by omega) _ _); have h0 := hF.c0; have h1 := hF.c1; have e0 := hE.c0; have e1 := hE.c1; have e2 := hE.f0; have e3 := hE.f1; obtain ⟨V3, hV3⟩ : ∃ V, (V2.setCell ⟨w.heap.size + 1, 0, none⟩ (.int .i64 NX)).setCell ⟨w.heap.size + 1, 1, none⟩ (.int .i64 NY) = V := ⟨_, rfl⟩; replace hE : Pt V3 (w.heap.size + 1) NX NY := (by rw [← hV3]; exact hE.set _ _); have i0 := hE.c0; have i1 := hE.c1; have HBV := hid (show Below w.heap.size w V3 by rw [← hV3, ← hV2, ← hV1]; exact below_set2 (below_set2 (below_set2 HB3.out (by omega)) (by omega)) (by omega)); clear hF hG hE HB3)
  exact bodyPost_ret (v := pv NX NY) (by simp [results, Try.results51, go_sem, i0, i1]) rfl ⟨rfl, HBV.out⟩


/-- Where a point lies first in a list; -1: nowhere. -/
theorem any_take_succ {ps : List Pp} {p q : Pp} {k : Nat} (h : ps[k]? = some q) (h0 : (ps.take k).any (fun r => eqp r p) = false) (h1 : eqp q p = false) : (ps.take (k + 1)).any (fun r => eqp r p) = false := by
  rw [List.take_add_one, h]
  simp only [Option.toList_some, List.any_append, h0, List.any_cons, h1, List.any_nil, Bool.or_self]
theorem any_of_at {ps : List Pp} {p q : Pp} {k : Nat} (h : ps[k]? = some q) (h1 : eqp q p = true) : ps.any (fun r => eqp r p) = true := by
  rw [List.any_eq_true]
  exact ⟨q, List.mem_of_getElem? h, h1⟩


set_option maxHeartbeats 1600000 in
theorem index_any (v : Value) (ps : List Pp) (x y : Int) (w : World) (hp : Pts w v ps) (hl : ps.length ≤ 1000000000) :
    Calls Try.prog 61 #[v, pv x y] w fun e w' => (∃ i : Int, e = .returned (.int .i64 i) ∧ decide (0 ≤ i) = ps.any (fun r => eqp r (x, y))) ∧ Below w.heap.size w w' := by
  obtain ⟨a, cap, rfl, hx⟩ := hp
  obtain ⟨n, hn⟩ : ∃ n, ps.length = n := ⟨_, rfl⟩
  rw [hn] at hx hl ⊢
  have HN := hid hn
  have HX := hid hx
  clear hn hx
  obtain ⟨wA, hwA⟩ : ∃ wA, w.alloc (.cells #[.int .i64 x, .int .i64 y] 24) = wA := ⟨_, rfl⟩
  obtain ⟨hA, hBL, hszA⟩ := box1 hwA
  have HA := hid hA
  have HBL := hid hBL
  clear hA hBL
  go_enter Try.func61, Try.ntmps61
  go_wp2
  go_loopw [8] (fun t wr => ∃ k : Nat, k ≤ n ∧ t = .int .i64 k ∧ (ps.take k).any (fun r => eqp r (x, y)) = false ∧ Below wA.heap.size wA wr) (fun t _ => n - (intOf t).toNat)
  case atStart => exact ⟨0, by omega, rfl, by simp, Below.refl _ _⟩
  case round =>
    obtain ⟨k, hk, rfl, hno, hbr⟩ := hrel
    have HBR := hid (HBL.out.trans (hbr.mono HBL.out.size))
    have hA := HA.out.below hbr HA.out.lt
    have a0 := hA.c0; have a1 := hA.c1
    have HNO := hid hno
    by_cases hlt : k < n
    · have hkI : (k : Int) < (n : Int) := by omega
      obtain ⟨b, off, rfl, hcx⟩ := HX.out (by omega)
      have hkp : k < ps.length := by have := HN.out; omega
      obtain ⟨z0, z1⟩ := hcx k ps[k] (by simp [hkp])
      have hbb : b < w.heap.size := World.block_lt_of_cell? w _ z0
      have y0 := (HBR.out.cell (p := ⟨b, off + k * 2, none⟩) hbb).trans z0
      have y1 := (HBR.out.cell (p := ⟨b, off + k * 2 + 1, none⟩) hbb).trans z1
      have HP := hid (show ps[k]? = some ps[k] by simp [hkp])
      generalize ps[k] = P at *
      obtain ⟨px, py⟩ := P
      dsimp only at y0 y1
      have hbn := hid hbr
      clear z0 z1 hcx hbb hno HX hA hbr
      cases hE : eqp (px, py) (x, y) with
      | true =>
        have hE' := hE
        rw [eqp_iff] at hE'
        obtain ⟨rfl, rfl⟩ := Prod.mk.inj hE'
        go_wp2
        go_region
        all_goals (go_wp2; go_ret; exact ⟨⟨_, rfl, by rw [any_of_at HP.out hE]; exact decide_eq_true (Int.natCast_nonneg k)⟩, HBR.out.drew⟩)
      | false =>
        have hE' : x ≠ px ∨ x = px ∧ y ≠ py := by
          by_cases g : x = px
          · by_cases g' : y = py
            · rw [g, g', eqp_self] at hE
              exact absurd hE (by decide)
            · exact .inr ⟨g, g'⟩
          · exact .inl g
        have HE := hid hE
        clear hE
        rcases hE' with g | ⟨rfl, g⟩
        · go_wp2
          go_region
          all_goals
            go_wp2
            go_roundw
            case rel => exact ⟨k + 1, by omega, by go_num, any_take_succ HP.out HNO.out HE.out, hbn.out.drew⟩
            case measure => simp [intOf]; omega
        · go_wp2
          go_region
          all_goals
            go_wp2
            go_roundw
            case rel => exact ⟨k + 1, by omega, by go_num, any_take_succ HP.out HNO.out HE.out, hbn.out.drew⟩
            case measure => simp [intOf]; omega
    · obtain rfl : k = n := by omega
      go_wp2
      go_ret
      exact ⟨⟨_, rfl, by have := HNO.out; rw [← HN.out, List.take_length] at this; rw [this]; rfl⟩, HBR.out⟩

set_option maxHeartbeats 1600000 in
theorem contains_any (v : Value) (ps : List Pp) (x y : Int) (w : World) (hp : Pts w v ps) (hl : ps.length ≤ 1000000000) :
    Calls Try.prog 55 #[v, pv x y] w fun e w' => e = .returned (.bool (ps.any (fun r => eqp r (x, y)))) ∧ Below w.heap.size w w' := by
  obtain ⟨wA, hwA⟩ : ∃ wA, w.alloc (.cells #[.int .i64 x, .int .i64 y] 24) = wA := ⟨_, rfl⟩
  obtain ⟨hA, hBL, hszA⟩ := box1 hwA
  have a0 := hA.c0; have a1 := hA.c1
  have HBL := hid hBL
  have HI := hid (index_any v ps x y wA (hp.below hBL) hl)
  generalize ps.any (fun r => eqp r (x, y)) = R at *
  clear hA hBL hp
  go_enter Try.func55, Try.ntmps55
  go_wp2_with (go_at_call 61; refine HI.out.mono ?_; rintro e w1 ⟨⟨i, rfl, hi⟩, hb1⟩; have HB1 := hid (HBL.out.trans (hb1.mono HBL.out.size)); have HII := hid hi; clear hb1 hi)
  go_ret
  refine ⟨?_, HB1.out⟩
  rw [← HII.out]
  rfl

end Go.Proofs.Ytlnjjkgjknheiaa
