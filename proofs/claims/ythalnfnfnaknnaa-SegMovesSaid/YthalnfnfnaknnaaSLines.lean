/-
  SegLines: the walk.
-/
import Derived.Test.YthalnfnfnaknnaaSRow4
import Derived.Test.YthalnfnfnaknnaaSLaw
import Derived.Test.YthalnfnfnaknnaaSLine
namespace Go.Proofs.Ythalnfnfnaknnaa
open Go.RowKit Go.Sort

/-- Four numbers in a block of its own. -/
def Int4 (w : World) (b : Nat) (t : TypeId) (a0 a1 a2 a3 : Int) : Prop := w.heap[b]? = some (.cells #[.int .i64 a0, .int .i64 a1, .int .i64 a2, .int .i64 a3] t (0, 0))
section
variable {w : World} {b : Nat} {t : TypeId} {a0 a1 a2 a3 : Int}
theorem Int4.lt (h : Int4 w b t a0 a1 a2 a3) : b < w.heap.size := lt_of_heap h
theorem Int4.c0 (h : Int4 w b t a0 a1 a2 a3) : w.cell? ⟨b, 0, none⟩ = some (.int .i64 a0) := by unfold Int4 at h; simp [World.cell?, h]
theorem Int4.f0 (h : Int4 w b t a0 a1 a2 a3) : w.frozen? ⟨b, 0, none⟩ = false := by unfold Int4 at h; simp [World.frozen?, h]
theorem Int4.c1 (h : Int4 w b t a0 a1 a2 a3) : w.cell? ⟨b, 1, none⟩ = some (.int .i64 a1) := by unfold Int4 at h; simp [World.cell?, h]
theorem Int4.f1 (h : Int4 w b t a0 a1 a2 a3) : w.frozen? ⟨b, 1, none⟩ = false := by unfold Int4 at h; simp [World.frozen?, h]
theorem Int4.c2 (h : Int4 w b t a0 a1 a2 a3) : w.cell? ⟨b, 2, none⟩ = some (.int .i64 a2) := by unfold Int4 at h; simp [World.cell?, h]
theorem Int4.f2 (h : Int4 w b t a0 a1 a2 a3) : w.frozen? ⟨b, 2, none⟩ = false := by unfold Int4 at h; simp [World.frozen?, h]
theorem Int4.c3 (h : Int4 w b t a0 a1 a2 a3) : w.cell? ⟨b, 3, none⟩ = some (.int .i64 a3) := by unfold Int4 at h; simp [World.cell?, h]
theorem Int4.f3 (h : Int4 w b t a0 a1 a2 a3) : w.frozen? ⟨b, 3, none⟩ = false := by unfold Int4 at h; simp [World.frozen?, h]
theorem Int4.below {w' : World} {n : Nat} (h : Int4 w b t a0 a1 a2 a3) (hb : Below n w w') (hl : b < n) : Int4 w' b t a0 a1 a2 a3 := (hb.block b hl).trans h
theorem Int4.alloc (h : Int4 w b t a0 a1 a2 a3) (o : Obj) : Int4 (w.alloc o) b t a0 a1 a2 a3 := (Below.heap_alloc _ _ _ h.lt).trans h
theorem Int4.new (w : World) (t : TypeId) (a0 a1 a2 a3 : Int) : Int4 (w.alloc (.cells #[.int .i64 a0, .int .i64 a1, .int .i64 a2, .int .i64 a3] t)) w.heap.size t a0 a1 a2 a3 := by
  unfold Int4 World.alloc; simp
theorem Int4.far {c i j : Nat} (h : Int4 w c t a0 a1 a2 a3) (hne : c ≠ b) (u v : Value) : Int4 ((w.setCell ⟨b, i, none⟩ u).setCell ⟨b, j, none⟩ v) c t a0 a1 a2 a3 := by
  unfold Int4
  rw [Below.heap_setCell _ _ _ _ (by exact hne), Below.heap_setCell _ _ _ _ (by exact hne)]
  exact h
theorem Int4.set0 (h : Int4 w b t a0 a1 a2 a3) (x : Int) : Int4 (w.setCell ⟨b, 0, none⟩ (.int .i64 x)) b t x a1 a2 a3 := heap_setCell_same w b 0 _ _ (.int .i64 x) h
theorem Int4.set1 (h : Int4 w b t a0 a1 a2 a3) (x : Int) : Int4 (w.setCell ⟨b, 1, none⟩ (.int .i64 x)) b t a0 x a2 a3 := heap_setCell_same w b 1 _ _ (.int .i64 x) h
theorem Int4.set2 (h : Int4 w b t a0 a1 a2 a3) (x : Int) : Int4 (w.setCell ⟨b, 2, none⟩ (.int .i64 x)) b t a0 a1 x a3 := heap_setCell_same w b 2 _ _ (.int .i64 x) h
theorem Int4.set3 (h : Int4 w b t a0 a1 a2 a3) (x : Int) : Int4 (w.setCell ⟨b, 3, none⟩ (.int .i64 x)) b t a0 a1 a2 x := heap_setCell_same w b 3 _ _ (.int .i64 x) h
end
theorem lo_is (t0 t1 t2 t3 : Int) : (if (if t1 < t0 then t1 else t0) < (if t3 < t2 then t3 else t2) then (if t3 < t2 then t3 else t2) else if t1 < t0 then t1 else t0) = max (min t0 t1) (min t2 t3) := by
  rw [show (if t1 < t0 then t1 else t0) = min t0 t1 by split <;> omega, show (if t3 < t2 then t3 else t2) = min t2 t3 by split <;> omega]
  split <;> omega
theorem hi_is (t0 t1 t2 t3 : Int) : (if (if t2 < t3 then t3 else t2) < (if t0 < t1 then t1 else t0) then (if t2 < t3 then t3 else t2) else if t0 < t1 then t1 else t0) = min (max t0 t1) (max t2 t3) := by
  rw [show (if t2 < t3 then t3 else t2) = max t2 t3 by split <;> omega, show (if t0 < t1 then t1 else t0) = max t0 t1 by split <;> omega]
  split <;> omega
theorem Row4.far1 {w : World} {b c i : Nat} {t : TypeId} {x0 y0 x1 y1 x2 y2 x3 y3 : Int} (h : Row4 w c t x0 y0 x1 y1 x2 y2 x3 y3) (hne : c ≠ b) (u : Value) : Row4 (w.setCell ⟨b, i, none⟩ u) c t x0 y0 x1 y1 x2 y2 x3 y3 := by
  unfold Row4
  rw [Below.heap_setCell _ _ _ _ (by exact hne)]
  exact h

set_option maxRecDepth 100000 in
set_option maxHeartbeats 8000000 in
theorem segLines_a (H : SegC) (w : World) (v sx sy D E t0 t1 t2 t3 p0 q0 p1 q1 p2 q2 p3 q3 K : Int) (hD : sx.tmod 50 = D) (hE : sy.tmod 50 = E) (hz : (D == 0) = false)
    (e0 : bits .and .i64 v 15 = t0) (e1 : bits .and .i64 (v / 16) 15 = t1) (e2 : bits .and .i64 (v / 256) 15 = t2) (e3 : bits .and .i64 (v / 4096) 15 = t3)
    (_b0 : 0 ≤ t0 ∧ t0 ≤ 15) (_b1 : 0 ≤ t1 ∧ t1 ≤ 15) (_b2 : 0 ≤ t2 ∧ t2 ≤ 15) (_b3 : 0 ≤ t3 ∧ t3 ≤ 15)
    (m0 : t0 * D = p0) (c0 : -800 ≤ p0 ∧ p0 ≤ 800) (n0 : t0 * E = q0) (d0 : -800 ≤ q0 ∧ q0 ≤ 800) (m1 : t1 * D = p1) (c1 : -800 ≤ p1 ∧ p1 ≤ 800) (n1 : t1 * E = q1) (d1 : -800 ≤ q1 ∧ q1 ≤ 800) (m2 : t2 * D = p2) (c2 : -800 ≤ p2 ∧ p2 ≤ 800) (n2 : t2 * E = q2) (d2 : -800 ≤ q2 ∧ q2 ≤ 800) (m3 : t3 * D = p3) (c3 : -800 ≤ p3 ∧ p3 ≤ 800) (n3 : t3 * E = q3) (d3 : -800 ≤ q3 ∧ q3 ≤ 800)
    (HR : Hid (∀ W, Calls Try.prog 8 #[pv p0 q0, pv p1 q1, pv p2 q2, pv p3 q3] W fun e w' => e = .returned (.int .i64 K) ∧ Below W.heap.size W w'))
    (HS : Hid (LineSays (max (min t0 t1) (min t2 t3)) (min (max t0 t1) (max t2 t3)) t0 t1 t2 t3 K)) :
    Calls Try.prog 4 #[.int .i64 v, .int .i64 sx, .int .i64 sy] w fun e w' => e = .returned (.bool true) ∧ Below w.heap.size w w' := by
  obtain ⟨wT, hwT⟩ : ∃ wT, w.alloc (.cells #[.int .i64 0, .int .i64 0, .int .i64 0, .int .i64 0] 29) = wT := ⟨_, rfl⟩
  obtain ⟨wL, hwL⟩ : ∃ wL, wT.alloc (.cells #[.int .i64 0, .int .i64 0, .int .i64 0, .int .i64 0, .int .i64 0, .int .i64 0, .int .i64 0, .int .i64 0] 25) = wL := ⟨_, rfl⟩
  have hszT : wT.heap.size = w.heap.size + 1 := by rw [← hwT]; simp
  have HT := hid (show Int4 wL w.heap.size 29 0 0 0 0 by rw [← hwL, ← hwT]; exact (Int4.new ..).alloc _)
  have HL := hid (show Row4 wL (w.heap.size + 1) 25 0 0 0 0 0 0 0 0 by rw [← hwL, ← hszT]; exact Row4.new ..)
  have HB := hid (show Below w.heap.size w wL by rw [← hwL, ← hwT]; exact ((Below.refl _ w).alloc (Nat.le_refl _) _).alloc (by simp) _)
  go_enter Try.func4, Try.ntmps4
  go_wp2
  go_loopw [9] (fun t wr => (t = .int .i64 0 ∧ Below w.heap.size w wr ∧ Int4 wr w.heap.size 29 0 0 0 0 ∧ Row4 wr (w.heap.size + 1) 25 0 0 0 0 0 0 0 0) ∨ (t = .int .i64 1 ∧ Below w.heap.size w wr ∧ Int4 wr w.heap.size 29 t0 0 0 0 ∧ Row4 wr (w.heap.size + 1) 25 p0 q0 0 0 0 0 0 0) ∨ (t = .int .i64 2 ∧ Below w.heap.size w wr ∧ Int4 wr w.heap.size 29 t0 t1 0 0 ∧ Row4 wr (w.heap.size + 1) 25 p0 q0 p1 q1 0 0 0 0) ∨ (t = .int .i64 3 ∧ Below w.heap.size w wr ∧ Int4 wr w.heap.size 29 t0 t1 t2 0 ∧ Row4 wr (w.heap.size + 1) 25 p0 q0 p1 q1 p2 q2 0 0) ∨ (t = .int .i64 4 ∧ Below w.heap.size w wr ∧ Int4 wr w.heap.size 29 t0 t1 t2 t3 ∧ Row4 wr (w.heap.size + 1) 25 p0 q0 p1 q1 p2 q2 p3 q3)) (fun t _ => 4 - (intOf t).toNat)
  case atStart => exact .inl ⟨rfl, HB.out, HT.out, HL.out⟩
  case round =>
    clear HB HT HL
    rcases hrel with hk | hk | hk | hk | hk
    · obtain ⟨rfl, hbr, hT, hL⟩ := hk
      have HB := hid hbr
      have HT := hid hT
      have HL := hid hL
      have e0 := hT.c0; have f0 := hT.f0; have e1 := hT.c1; have f1 := hT.f1; have e2 := hT.c2; have f2 := hT.f2; have e3 := hT.c3; have f3 := hT.f3
      obtain ⟨V5, hV5⟩ : ∃ V, wr.setCell ⟨w.heap.size, 0, none⟩ (.int .i64 t0) = V := ⟨_, rfl⟩
      replace HT := hid (show Int4 V5 _ _ _ _ _ _ by rw [← hV5]; exact HT.out.set0 _)
      replace HL := hid (show Row4 V5 _ _ _ _ _ _ _ _ _ _ by rw [← hV5]; exact HL.out.far1 (by omega) _)
      replace HB := hid (show Below w.heap.size w V5 by rw [← hV5]; exact HB.out.setCell (Nat.le_refl _) _)
      clear hbr hT hL
      go_wp2
      clear e0 f0 e1 f1 e2 f2 e3 f3
      have k0 := cell_regrown HT.out.c0
      have k1 := cell_regrown HT.out.c1
      have k2 := cell_regrown HT.out.c2
      have k3 := cell_regrown HT.out.c3
      refine wp_region_tail (C := fun w' => ∃ p : Regrown, w' = grow (redrawn V5 p.d) p.os) 13 (by kernel_rfl) (by kernel_rfl) ⟨⟨V5.drawn + 1, #[]⟩, by rw [grow_empty]; rfl⟩ ?_
      simp only [List.take, List.drop]
      go_big_quiet_step (fail)
      go_big_quiet_step (fail)
      go_big_quiet_step (fail)
      go_big_quiet_step (fail)
      go_big_quiet_step (fail)
      go_big_quiet_step (fail)
      go_big_quiet_step (fail)
      go_big_quiet_step (fail)
      go_big_quiet_step (fail)
      go_big_quiet_step (fail)
      go_big_quiet_step (fail)
      go_big_quiet_step (fail)
      go_big_quiet_step (fail)
      refine wpQuiet_nil ?_
      intro W hW'
      obtain ⟨⟨dq, osq⟩, hW⟩ := hW'
      have hb : Below V5.heap.size V5 W := by rw [hW]; exact below_regrown _ _ _
      clear hW k0 k1 k2 k3
      replace HT := hid (HT.out.below hb HT.out.lt)
      replace HL := hid (HL.out.below hb HL.out.lt)
      replace HB := hid (HB.out.trans (hb.mono HB.out.size))
      clear hb
      have d0 := HL.out.c0; have g0 := HL.out.f0; have d1 := HL.out.c1; have g1 := HL.out.f1; have d2 := HL.out.c2; have g2 := HL.out.f2; have d3 := HL.out.c3; have g3 := HL.out.f3; have d4 := HL.out.c4; have g4 := HL.out.f4; have d5 := HL.out.c5; have g5 := HL.out.f5; have d6 := HL.out.c6; have g6 := HL.out.f6; have d7 := HL.out.c7; have g7 := HL.out.f7
      obtain ⟨V6, hV6⟩ : ∃ V, (W.setCell ⟨w.heap.size + 1, 0, none⟩ (.int .i64 p0)).setCell ⟨w.heap.size + 1, 1, none⟩ (.int .i64 q0) = V := ⟨_, rfl⟩
      replace HT := hid (show Int4 V6 _ _ _ _ _ _ by rw [← hV6]; exact HT.out.far (by omega) _ _)
      replace HL := hid (show Row4 V6 _ _ _ _ _ _ _ _ _ _ by rw [← hV6]; exact HL.out.set0 _ _)
      replace HB := hid (show Below w.heap.size w V6 by rw [← hV6]; exact below_setAny HB.out (by omega) _ _)
      go_wp2
      clear d0 g0 d1 g1 d2 g2 d3 g3 d4 g4 d5 g5 d6 g6 d7 g7
      go_roundw
      case rel =>
        refine .inr (.inl ⟨by go_num, HB.out, HT.out, HL.out⟩)
      case measure => simp [intOf]
    · obtain ⟨rfl, hbr, hT, hL⟩ := hk
      have HB := hid hbr
      have HT := hid hT
      have HL := hid hL
      have e0 := hT.c0; have f0 := hT.f0; have e1 := hT.c1; have f1 := hT.f1; have e2 := hT.c2; have f2 := hT.f2; have e3 := hT.c3; have f3 := hT.f3
      obtain ⟨V5, hV5⟩ : ∃ V, wr.setCell ⟨w.heap.size, 1, none⟩ (.int .i64 t1) = V := ⟨_, rfl⟩
      replace HT := hid (show Int4 V5 _ _ _ _ _ _ by rw [← hV5]; exact HT.out.set1 _)
      replace HL := hid (show Row4 V5 _ _ _ _ _ _ _ _ _ _ by rw [← hV5]; exact HL.out.far1 (by omega) _)
      replace HB := hid (show Below w.heap.size w V5 by rw [← hV5]; exact HB.out.setCell (Nat.le_refl _) _)
      clear hbr hT hL
      go_wp2
      clear e0 f0 e1 f1 e2 f2 e3 f3
      have k0 := cell_regrown HT.out.c0
      have k1 := cell_regrown HT.out.c1
      have k2 := cell_regrown HT.out.c2
      have k3 := cell_regrown HT.out.c3
      refine wp_region_tail (C := fun w' => ∃ p : Regrown, w' = grow (redrawn V5 p.d) p.os) 13 (by kernel_rfl) (by kernel_rfl) ⟨⟨V5.drawn + 1, #[]⟩, by rw [grow_empty]; rfl⟩ ?_
      simp only [List.take, List.drop]
      go_big_quiet_step (fail)
      go_big_quiet_step (fail)
      go_big_quiet_step (fail)
      go_big_quiet_step (fail)
      go_big_quiet_step (fail)
      go_big_quiet_step (fail)
      go_big_quiet_step (fail)
      go_big_quiet_step (fail)
      go_big_quiet_step (fail)
      go_big_quiet_step (fail)
      go_big_quiet_step (fail)
      go_big_quiet_step (fail)
      go_big_quiet_step (fail)
      refine wpQuiet_nil ?_
      intro W hW'
      obtain ⟨⟨dq, osq⟩, hW⟩ := hW'
      have hb : Below V5.heap.size V5 W := by rw [hW]; exact below_regrown _ _ _
      clear hW k0 k1 k2 k3
      replace HT := hid (HT.out.below hb HT.out.lt)
      replace HL := hid (HL.out.below hb HL.out.lt)
      replace HB := hid (HB.out.trans (hb.mono HB.out.size))
      clear hb
      have d0 := HL.out.c0; have g0 := HL.out.f0; have d1 := HL.out.c1; have g1 := HL.out.f1; have d2 := HL.out.c2; have g2 := HL.out.f2; have d3 := HL.out.c3; have g3 := HL.out.f3; have d4 := HL.out.c4; have g4 := HL.out.f4; have d5 := HL.out.c5; have g5 := HL.out.f5; have d6 := HL.out.c6; have g6 := HL.out.f6; have d7 := HL.out.c7; have g7 := HL.out.f7
      obtain ⟨V6, hV6⟩ : ∃ V, (W.setCell ⟨w.heap.size + 1, 2, none⟩ (.int .i64 p1)).setCell ⟨w.heap.size + 1, 3, none⟩ (.int .i64 q1) = V := ⟨_, rfl⟩
      replace HT := hid (show Int4 V6 _ _ _ _ _ _ by rw [← hV6]; exact HT.out.far (by omega) _ _)
      replace HL := hid (show Row4 V6 _ _ _ _ _ _ _ _ _ _ by rw [← hV6]; exact HL.out.set1 _ _)
      replace HB := hid (show Below w.heap.size w V6 by rw [← hV6]; exact below_setAny HB.out (by omega) _ _)
      go_wp2
      clear d0 g0 d1 g1 d2 g2 d3 g3 d4 g4 d5 g5 d6 g6 d7 g7
      go_roundw
      case rel =>
        refine .inr (.inr (.inl ⟨by go_num, HB.out, HT.out, HL.out⟩))
      case measure => simp [intOf]
    · obtain ⟨rfl, hbr, hT, hL⟩ := hk
      have HB := hid hbr
      have HT := hid hT
      have HL := hid hL
      have e0 := hT.c0; have f0 := hT.f0; have e1 := hT.c1; have f1 := hT.f1; have e2 := hT.c2; have f2 := hT.f2; have e3 := hT.c3; have f3 := hT.f3
      obtain ⟨V5, hV5⟩ : ∃ V, wr.setCell ⟨w.heap.size, 2, none⟩ (.int .i64 t2) = V := ⟨_, rfl⟩
      replace HT := hid (show Int4 V5 _ _ _ _ _ _ by rw [← hV5]; exact HT.out.set2 _)
      replace HL := hid (show Row4 V5 _ _ _ _ _ _ _ _ _ _ by rw [← hV5]; exact HL.out.far1 (by omega) _)
      replace HB := hid (show Below w.heap.size w V5 by rw [← hV5]; exact HB.out.setCell (Nat.le_refl _) _)
      clear hbr hT hL
      go_wp2
      clear e0 f0 e1 f1 e2 f2 e3 f3
      have k0 := cell_regrown HT.out.c0
      have k1 := cell_regrown HT.out.c1
      have k2 := cell_regrown HT.out.c2
      have k3 := cell_regrown HT.out.c3
      refine wp_region_tail (C := fun w' => ∃ p : Regrown, w' = grow (redrawn V5 p.d) p.os) 13 (by kernel_rfl) (by kernel_rfl) ⟨⟨V5.drawn + 1, #[]⟩, by rw [grow_empty]; rfl⟩ ?_
      simp only [List.take, List.drop]
      go_big_quiet_step (fail)
      go_big_quiet_step (fail)
      go_big_quiet_step (fail)
      go_big_quiet_step (fail)
      go_big_quiet_step (fail)
      go_big_quiet_step (fail)
      go_big_quiet_step (fail)
      go_big_quiet_step (fail)
      go_big_quiet_step (fail)
      go_big_quiet_step (fail)
      go_big_quiet_step (fail)
      go_big_quiet_step (fail)
      go_big_quiet_step (fail)
      refine wpQuiet_nil ?_
      intro W hW'
      obtain ⟨⟨dq, osq⟩, hW⟩ := hW'
      have hb : Below V5.heap.size V5 W := by rw [hW]; exact below_regrown _ _ _
      clear hW k0 k1 k2 k3
      replace HT := hid (HT.out.below hb HT.out.lt)
      replace HL := hid (HL.out.below hb HL.out.lt)
      replace HB := hid (HB.out.trans (hb.mono HB.out.size))
      clear hb
      have d0 := HL.out.c0; have g0 := HL.out.f0; have d1 := HL.out.c1; have g1 := HL.out.f1; have d2 := HL.out.c2; have g2 := HL.out.f2; have d3 := HL.out.c3; have g3 := HL.out.f3; have d4 := HL.out.c4; have g4 := HL.out.f4; have d5 := HL.out.c5; have g5 := HL.out.f5; have d6 := HL.out.c6; have g6 := HL.out.f6; have d7 := HL.out.c7; have g7 := HL.out.f7
      obtain ⟨V6, hV6⟩ : ∃ V, (W.setCell ⟨w.heap.size + 1, 4, none⟩ (.int .i64 p2)).setCell ⟨w.heap.size + 1, 5, none⟩ (.int .i64 q2) = V := ⟨_, rfl⟩
      replace HT := hid (show Int4 V6 _ _ _ _ _ _ by rw [← hV6]; exact HT.out.far (by omega) _ _)
      replace HL := hid (show Row4 V6 _ _ _ _ _ _ _ _ _ _ by rw [← hV6]; exact HL.out.set2 _ _)
      replace HB := hid (show Below w.heap.size w V6 by rw [← hV6]; exact below_setAny HB.out (by omega) _ _)
      go_wp2
      clear d0 g0 d1 g1 d2 g2 d3 g3 d4 g4 d5 g5 d6 g6 d7 g7
      go_roundw
      case rel =>
        refine .inr (.inr (.inr (.inl ⟨by go_num, HB.out, HT.out, HL.out⟩)))
      case measure => simp [intOf]
    · obtain ⟨rfl, hbr, hT, hL⟩ := hk
      have HB := hid hbr
      have HT := hid hT
      have HL := hid hL
      have e0 := hT.c0; have f0 := hT.f0; have e1 := hT.c1; have f1 := hT.f1; have e2 := hT.c2; have f2 := hT.f2; have e3 := hT.c3; have f3 := hT.f3
      obtain ⟨V5, hV5⟩ : ∃ V, wr.setCell ⟨w.heap.size, 3, none⟩ (.int .i64 t3) = V := ⟨_, rfl⟩
      replace HT := hid (show Int4 V5 _ _ _ _ _ _ by rw [← hV5]; exact HT.out.set3 _)
      replace HL := hid (show Row4 V5 _ _ _ _ _ _ _ _ _ _ by rw [← hV5]; exact HL.out.far1 (by omega) _)
      replace HB := hid (show Below w.heap.size w V5 by rw [← hV5]; exact HB.out.setCell (Nat.le_refl _) _)
      clear hbr hT hL
      go_wp2
      clear e0 f0 e1 f1 e2 f2 e3 f3
      have k0 := cell_regrown HT.out.c0
      have k1 := cell_regrown HT.out.c1
      have k2 := cell_regrown HT.out.c2
      have k3 := cell_regrown HT.out.c3
      refine wp_region_tail (C := fun w' => ∃ p : Regrown, w' = grow (redrawn V5 p.d) p.os) 13 (by kernel_rfl) (by kernel_rfl) ⟨⟨V5.drawn + 1, #[]⟩, by rw [grow_empty]; rfl⟩ ?_
      simp only [List.take, List.drop]
      go_big_quiet_step (fail)
      go_big_quiet_step (fail)
      go_big_quiet_step (fail)
      go_big_quiet_step (fail)
      go_big_quiet_step (fail)
      go_big_quiet_step (fail)
      go_big_quiet_step (fail)
      go_big_quiet_step (fail)
      go_big_quiet_step (fail)
      go_big_quiet_step (fail)
      go_big_quiet_step (fail)
      go_big_quiet_step (fail)
      go_big_quiet_step (fail)
      refine wpQuiet_nil ?_
      intro W hW'
      obtain ⟨⟨dq, osq⟩, hW⟩ := hW'
      have hb : Below V5.heap.size V5 W := by rw [hW]; exact below_regrown _ _ _
      clear hW k0 k1 k2 k3
      replace HT := hid (HT.out.below hb HT.out.lt)
      replace HL := hid (HL.out.below hb HL.out.lt)
      replace HB := hid (HB.out.trans (hb.mono HB.out.size))
      clear hb
      have d0 := HL.out.c0; have g0 := HL.out.f0; have d1 := HL.out.c1; have g1 := HL.out.f1; have d2 := HL.out.c2; have g2 := HL.out.f2; have d3 := HL.out.c3; have g3 := HL.out.f3; have d4 := HL.out.c4; have g4 := HL.out.f4; have d5 := HL.out.c5; have g5 := HL.out.f5; have d6 := HL.out.c6; have g6 := HL.out.f6; have d7 := HL.out.c7; have g7 := HL.out.f7
      obtain ⟨V6, hV6⟩ : ∃ V, (W.setCell ⟨w.heap.size + 1, 6, none⟩ (.int .i64 p3)).setCell ⟨w.heap.size + 1, 7, none⟩ (.int .i64 q3) = V := ⟨_, rfl⟩
      replace HT := hid (show Int4 V6 _ _ _ _ _ _ by rw [← hV6]; exact HT.out.far (by omega) _ _)
      replace HL := hid (show Row4 V6 _ _ _ _ _ _ _ _ _ _ by rw [← hV6]; exact HL.out.set3 _ _)
      replace HB := hid (show Below w.heap.size w V6 by rw [← hV6]; exact below_setAny HB.out (by omega) _ _)
      go_wp2
      clear d0 g0 d1 g1 d2 g2 d3 g3 d4 g4 d5 g5 d6 g6 d7 g7
      go_roundw
      case rel =>
        refine .inr (.inr (.inr (.inr (⟨by go_num, HB.out, HT.out, HL.out⟩))))
      case measure => simp [intOf]
    · obtain ⟨rfl, hbr, hT, hL⟩ := hk
      have HB := hid hbr
      have HT := hid hT
      have HL := hid hL
      have k0 := cell_regrown hT.c0
      have k1 := cell_regrown hT.c1
      have k2 := cell_regrown hT.c2
      have k3 := cell_regrown hT.c3
      clear hbr hT hL
      go_wp2
      refine wp_region_quiet_below (by kernel_rfl) (by kernel_rfl) ?_
      go_big_quiet_step (fail)
      go_big_quiet_step (fail)
      go_big_quiet_step (fail)
      go_big_quiet_step (fail)
      go_big_quiet_step (fail)
      go_big_quiet_step (fail)
      go_big_quiet_step (fail)
      go_big_quiet_step (fail)
      go_big_quiet_step (fail)
      go_big_quiet_step (fail)
      go_big_quiet_step (fail)
      go_big_quiet_step (fail)
      go_big_quiet_step (fail)
      go_big_quiet_step (fail)
      go_big_quiet_step (fail)
      go_big_quiet_step (fail)
      go_big_quiet_step (fail)
      go_big_quiet_step (fail)
      go_big_quiet_step (fail)
      go_big_quiet_step (fail)
      go_big_quiet_step (fail)
      go_big_quiet_step (fail)
      go_big_quiet_step (fail)
      go_big_quiet_step (fail)
      refine wpQuiet_nil ?_
      intro W hW'
      obtain ⟨⟨dq, osq⟩, hW⟩ := hW'
      have hb : Below wr.heap.size wr W := by rw [hW]; exact below_regrown _ _ _
      clear hW k0 k1 k2 k3
      replace HT := hid (HT.out.below hb HT.out.lt)
      replace HL := hid (HL.out.below hb HL.out.lt)
      replace HB := hid (HB.out.trans (hb.mono HB.out.size))
      clear hb
      simp only [lo_is, hi_is]
      generalize max (min t0 t1) (min t2 t3) = lo at *
      generalize min (max t0 t1) (max t2 t3) = hi at *
      have l0 := HL.out.c0; have l1 := HL.out.c1; have l2 := HL.out.c2; have l3 := HL.out.c3; have l4 := HL.out.c4; have l5 := HL.out.c5; have l6 := HL.out.c6; have l7 := HL.out.c7
      rcases (show hi < lo ∨ lo < hi ∨ lo = hi by omega) with h | h | h
      · obtain rfl : K = 0 := HS.out.1 h
        have h' : ¬ lo < hi := by omega
        go_wp2_with (first
          | (go_at_call 8; refine (HR.out _).mono ?_; rintro e w5 ⟨rfl, hb5⟩; replace HT := hid (HT.out.below hb5 HT.out.lt); replace HB := hid (HB.out.trans (hb5.mono HB.out.size)); have z0 := HT.out.c0; have z1 := HT.out.c1; have z2 := HT.out.c2; have z3 := HT.out.c3; clear hb5 HR)
          | (go_at_call 9; refine (segAwake_any H _).mono ?_; rintro e w99 ⟨rfl, hb99⟩; replace HB := hid (HB.out.trans (hb99.mono HB.out.size)); clear hb99))
        all_goals (go_ret; exact ⟨rfl, HB.out⟩)
      · obtain rfl : K = 4 := HS.out.2.1 h
        have h' : ¬ hi < lo := by omega
        go_wp2_with (first
          | (go_at_call 8; refine (HR.out _).mono ?_; rintro e w5 ⟨rfl, hb5⟩; replace HT := hid (HT.out.below hb5 HT.out.lt); replace HB := hid (HB.out.trans (hb5.mono HB.out.size)); have z0 := HT.out.c0; have z1 := HT.out.c1; have z2 := HT.out.c2; have z3 := HT.out.c3; clear hb5 HR)
          | (go_at_call 9; refine (segAwake_any H _).mono ?_; rintro e w99 ⟨rfl, hb99⟩; replace HB := hid (HB.out.trans (hb99.mono HB.out.size)); clear hb99))
        all_goals (go_ret; exact ⟨rfl, HB.out⟩)
      · have h1 : ¬ hi < lo := by omega
        have h2 : ¬ lo < hi := by omega
        have HH := hid h
        clear h
        cases x0 : (lo == t0) with
        | true =>
          cases x2 : (lo == t2) with
          | true =>
            obtain rfl : K = 1 := HS.out.2.2.1 HH.out (by simp only [beq_iff_eq, beq_eq_false_iff_ne] at *; omega)
            go_wp2_with (first
              | (go_at_call 8; refine (HR.out _).mono ?_; rintro e w5 ⟨rfl, hb5⟩; replace HT := hid (HT.out.below hb5 HT.out.lt); replace HB := hid (HB.out.trans (hb5.mono HB.out.size)); have z0 := HT.out.c0; have z1 := HT.out.c1; have z2 := HT.out.c2; have z3 := HT.out.c3; clear hb5 HR)
              | (go_at_call 9; refine (segAwake_any H _).mono ?_; rintro e w99 ⟨rfl, hb99⟩; replace HB := hid (HB.out.trans (hb99.mono HB.out.size)); clear hb99))
            all_goals (go_ret; exact ⟨rfl, HB.out⟩)
          | false =>
            cases x3 : (lo == t3) with
            | true =>
              obtain rfl : K = 1 := HS.out.2.2.1 HH.out (by simp only [beq_iff_eq, beq_eq_false_iff_ne] at *; omega)
              go_wp2_with (first
                | (go_at_call 8; refine (HR.out _).mono ?_; rintro e w5 ⟨rfl, hb5⟩; replace HT := hid (HT.out.below hb5 HT.out.lt); replace HB := hid (HB.out.trans (hb5.mono HB.out.size)); have z0 := HT.out.c0; have z1 := HT.out.c1; have z2 := HT.out.c2; have z3 := HT.out.c3; clear hb5 HR)
                | (go_at_call 9; refine (segAwake_any H _).mono ?_; rintro e w99 ⟨rfl, hb99⟩; replace HB := hid (HB.out.trans (hb99.mono HB.out.size)); clear hb99))
              all_goals (go_ret; exact ⟨rfl, HB.out⟩)
            | false =>
              obtain rfl : K = 2 := HS.out.2.2.2 HH.out (by simp only [beq_iff_eq, beq_eq_false_iff_ne] at *; omega)
              go_wp2_with (first
                | (go_at_call 8; refine (HR.out _).mono ?_; rintro e w5 ⟨rfl, hb5⟩; replace HT := hid (HT.out.below hb5 HT.out.lt); replace HB := hid (HB.out.trans (hb5.mono HB.out.size)); have z0 := HT.out.c0; have z1 := HT.out.c1; have z2 := HT.out.c2; have z3 := HT.out.c3; clear hb5 HR)
                | (go_at_call 9; refine (segAwake_any H _).mono ?_; rintro e w99 ⟨rfl, hb99⟩; replace HB := hid (HB.out.trans (hb99.mono HB.out.size)); clear hb99))
              all_goals (go_ret; exact ⟨rfl, HB.out⟩)
        | false =>
          cases x1 : (lo == t1) with
          | true =>
            cases x2 : (lo == t2) with
            | true =>
              obtain rfl : K = 1 := HS.out.2.2.1 HH.out (by simp only [beq_iff_eq, beq_eq_false_iff_ne] at *; omega)
              go_wp2_with (first
                | (go_at_call 8; refine (HR.out _).mono ?_; rintro e w5 ⟨rfl, hb5⟩; replace HT := hid (HT.out.below hb5 HT.out.lt); replace HB := hid (HB.out.trans (hb5.mono HB.out.size)); have z0 := HT.out.c0; have z1 := HT.out.c1; have z2 := HT.out.c2; have z3 := HT.out.c3; clear hb5 HR)
                | (go_at_call 9; refine (segAwake_any H _).mono ?_; rintro e w99 ⟨rfl, hb99⟩; replace HB := hid (HB.out.trans (hb99.mono HB.out.size)); clear hb99))
              all_goals (go_ret; exact ⟨rfl, HB.out⟩)
            | false =>
              cases x3 : (lo == t3) with
              | true =>
                obtain rfl : K = 1 := HS.out.2.2.1 HH.out (by simp only [beq_iff_eq, beq_eq_false_iff_ne] at *; omega)
                go_wp2_with (first
                  | (go_at_call 8; refine (HR.out _).mono ?_; rintro e w5 ⟨rfl, hb5⟩; replace HT := hid (HT.out.below hb5 HT.out.lt); replace HB := hid (HB.out.trans (hb5.mono HB.out.size)); have z0 := HT.out.c0; have z1 := HT.out.c1; have z2 := HT.out.c2; have z3 := HT.out.c3; clear hb5 HR)
                  | (go_at_call 9; refine (segAwake_any H _).mono ?_; rintro e w99 ⟨rfl, hb99⟩; replace HB := hid (HB.out.trans (hb99.mono HB.out.size)); clear hb99))
                all_goals (go_ret; exact ⟨rfl, HB.out⟩)
              | false =>
                obtain rfl : K = 2 := HS.out.2.2.2 HH.out (by simp only [beq_iff_eq, beq_eq_false_iff_ne] at *; omega)
                go_wp2_with (first
                  | (go_at_call 8; refine (HR.out _).mono ?_; rintro e w5 ⟨rfl, hb5⟩; replace HT := hid (HT.out.below hb5 HT.out.lt); replace HB := hid (HB.out.trans (hb5.mono HB.out.size)); have z0 := HT.out.c0; have z1 := HT.out.c1; have z2 := HT.out.c2; have z3 := HT.out.c3; clear hb5 HR)
                  | (go_at_call 9; refine (segAwake_any H _).mono ?_; rintro e w99 ⟨rfl, hb99⟩; replace HB := hid (HB.out.trans (hb99.mono HB.out.size)); clear hb99))
                all_goals (go_ret; exact ⟨rfl, HB.out⟩)
          | false =>
            obtain rfl : K = 2 := HS.out.2.2.2 HH.out (by simp only [beq_eq_false_iff_ne] at *; omega)
            go_wp2_with (first
              | (go_at_call 8; refine (HR.out _).mono ?_; rintro e w5 ⟨rfl, hb5⟩; replace HT := hid (HT.out.below hb5 HT.out.lt); replace HB := hid (HB.out.trans (hb5.mono HB.out.size)); have z0 := HT.out.c0; have z1 := HT.out.c1; have z2 := HT.out.c2; have z3 := HT.out.c3; clear hb5 HR)
              | (go_at_call 9; refine (segAwake_any H _).mono ?_; rintro e w99 ⟨rfl, hb99⟩; replace HB := hid (HB.out.trans (hb99.mono HB.out.size)); clear hb99))
            all_goals (go_ret; exact ⟨rfl, HB.out⟩)
end Go.Proofs.Ythalnfnfnaknnaa
