/-
  pt.held, pt.heldNumber and the document's near, Clean: the nearest number, the nearest point of the grid.
-/
import Derived.Test.YtkdnkmheidbfdaaGreatM9
import Derived.WalkMore
import Derived.Deep.RegionHeld
namespace Go.Proofs.YtkdnkmheidbfdaaGreat
open Go.RowKit Go.Sort

theorem heldNumber_any (x : Int) (w : World) :
    Calls Tryz.prog 58 #[.int .i64 x] w fun e w' => e = .returned (.int .i64 (near x)) ∧ w' = w := by
  rcases (show x < -1048576 ∨ 1048576 < x ∨ (-1048576 ≤ x ∧ x ≤ 1048576) by omega) with h | h | h
  · have hn : near x = -1048576 := by unfold near; rw [if_pos h]
    rw [hn]
    go_enter Tryz.func58, Tryz.ntmps58
    go_wp2
    go_ret
    exact ⟨rfl, rfl⟩
  · have hn : near x = 1048576 := by unfold near; rw [if_neg (by omega), if_pos h]
    rw [hn]
    go_enter Tryz.func58, Tryz.ntmps58
    go_wp2
    go_ret
    exact ⟨rfl, rfl⟩
  · rw [near_in h.1 h.2]
    go_enter Tryz.func58, Tryz.ntmps58
    go_wp2
    go_ret
    exact ⟨rfl, rfl⟩

set_option maxRecDepth 100000 in
theorem held_any (x y : Int) (w : World) :
    Calls Tryz.prog 28 #[pv x y] w fun e w' => e = .returned (pv (near x) (near y)) ∧ Below w.heap.size w w' := by
  obtain ⟨wA, hwA⟩ : ∃ wA, w.alloc (.cells #[.int .i64 x, .int .i64 y] 23) = wA := ⟨_, rfl⟩
  obtain ⟨wB, hwB⟩ : ∃ wB, wA.alloc (.cells #[.int .i64 0, .int .i64 0] 23) = wB := ⟨_, rfl⟩
  have hszA : wA.heap.size = w.heap.size + 1 := by rw [← hwA]; simp
  have hszB : wB.heap.size = w.heap.size + 2 := by rw [← hwB]; simp [hszA]
  have hA : Pt wB w.heap.size x y := by rw [← hwB, ← hwA]; exact (Pt.new w x y).alloc _
  have hB : Pt wB (w.heap.size + 1) 0 0 := by rw [← hwB, ← hszA]; exact Pt.new wA 0 0
  have HBL := hid (show Below w.heap.size w wB by rw [← hwB, ← hwA]; exact ((Below.refl _ w).alloc (Nat.le_refl _) _).alloc (by simp) _)
  have k0 := cell_regrown hA.c0
  have k1 := cell_regrown hA.c1
  have cx := fun d os => heldNumber_any x (grow (redrawn wB d) os)
  have cy := fun d os => heldNumber_any y (grow (redrawn wB d) os)
  have HB := hid hB
  clear hA hB
  go_enter Tryz.func28, Tryz.ntmps28
  go_wp2
  refine wp_region_tail (C := fun w' => ∃ p : Regrown, w' = grow (redrawn wB p.d) p.os) 7 (by kernel_rfl) (by kernel_rfl) ⟨⟨wB.drawn + 1, #[]⟩, by rw [grow_empty]; rfl⟩ ?_
  simp only [List.take, List.drop]
  repeat (go_big_quiet_step (first | exact (cx _ _).mono fun e w' ⟨h1, h2⟩ => ⟨h1, ⟨_, h2⟩⟩ | exact (cy _ _).mono fun e w' ⟨h1, h2⟩ => ⟨h1, ⟨_, h2⟩⟩))
  refine wpQuiet_nil ?_
  intro W hW'
  obtain ⟨⟨dq, osq⟩, hW⟩ := hW'
  have hb : Below wB.heap.size wB W := by rw [hW]; exact below_regrown _ _ _
  clear hW k0 k1 cx cy
  have hP : Pt W (w.heap.size + 1) 0 0 := HB.out.below hb (by omega)
  have d0 := hP.c0
  have d1 := hP.c1
  have e0 := hP.f0
  have e1 := hP.f1
  have HW := hid (HBL.out.trans (hb.mono HBL.out.size))
  clear hb hP
  go_wp2
  refine bodyPost_ret (v := pv (near x) (near y)) (by simp [results, Tryz.results28, go_sem, d0, d1]) rfl ⟨rfl, ?_⟩
  exact (HW.out.setCell (p := ⟨w.heap.size + 1, 0, none⟩) (by show w.heap.size ≤ w.heap.size + 1; omega) _).setCell (p := ⟨w.heap.size + 1, 1, none⟩) (by show w.heap.size ≤ w.heap.size + 1; omega) _
end Go.Proofs.YtkdnkmheidbfdaaGreat

namespace Go.Proofs.YtkdnkmheidbfdaaGreat
open Go.RowKit Go.Sort

/-- A box goes on by one point. -/
def boxS (b : Int × Int × Int × Int) (p : Int × Int) : Int × Int × Int × Int := (min b.1 (near p.1), min b.2.1 (near p.2), max b.2.2.1 (near p.1), max b.2.2.2 (near p.2))
/-- The box of points: the least X and Y, the greatest X and Y. -/
def boxL : List (Int × Int) → Int × Int × Int × Int
  | [] => (0, 0, 0, 0)
  | p :: ps => ps.foldl boxS (near p.1, near p.2, near p.1, near p.2)
theorem boxL_one {ps : List (Int × Int)} {p : Int × Int} (h : ps[0]? = some p) : boxL (ps.take 1) = (near p.1, near p.2, near p.1, near p.2) := by
  cases ps with
  | nil => simp at h
  | cons q qs => simp at h; subst h; rfl
theorem boxL_more {ps : List (Int × Int)} {k : Nat} {p : Int × Int} (h0 : 1 ≤ k) (h : ps[k]? = some p) : boxL (ps.take (k + 1)) = boxS (boxL (ps.take k)) p := by
  cases ps with
  | nil => simp at h
  | cons q qs =>
    obtain ⟨j, rfl⟩ : ∃ j, k = j + 1 := ⟨k - 1, by omega⟩
    simp only [List.getElem?_cons_succ] at h
    simp only [List.take_succ_cons, boxL]
    rw [List.take_add_one, h]
    simp
/-- The whole grid stays so. -/
theorem boxS_whole (p : Int × Int) : boxS (-1048576, -1048576, 1048576, 1048576) p = (-1048576, -1048576, 1048576, 1048576) := by
  have := near_lo p.1; have := near_hi p.1; have := near_lo p.2; have := near_hi p.2
  simp only [boxS, Prod.mk.injEq]
  omega
theorem foldl_whole : ∀ qs : List (Int × Int), qs.foldl boxS (-1048576, -1048576, 1048576, 1048576) = (-1048576, -1048576, 1048576, 1048576)
  | [] => rfl
  | p :: qs => by rw [List.foldl_cons, boxS_whole]; exact foldl_whole qs
theorem boxL_whole {ps : List (Int × Int)} {k : Nat} (h0 : 1 ≤ k) (h : boxL (ps.take k) = (-1048576, -1048576, 1048576, 1048576)) : boxL ps = (-1048576, -1048576, 1048576, 1048576) := by
  cases ps with
  | nil => simp [boxL] at h
  | cons q qs =>
    obtain ⟨j, rfl⟩ : ∃ j, k = j + 1 := ⟨k - 1, by omega⟩
    simp only [List.take_succ_cons, boxL] at h ⊢
    have e : qs = qs.take j ++ qs.drop j := (List.take_append_drop j qs).symm
    rw [e, List.foldl_append, h]
    exact foldl_whole _

set_option maxHeartbeats 1600000 in
theorem box_any (v : Value) (ps : List (Int × Int)) (w : World) (hp : Pts w v ps) (hl : ps.length ≤ 1000000000) :
    Calls Tryz.prog 119 #[v] w fun e w' => e = .returned (.tuple #[pv (boxL ps).1 (boxL ps).2.1, pv (boxL ps).2.2.1 (boxL ps).2.2.2, .bool (decide (0 < ps.length))]) ∧ Below w.heap.size w w' := by
  obtain ⟨a, cap, rfl, hx⟩ := hp
  obtain ⟨n, hn⟩ : ∃ n, ps.length = n := ⟨_, rfl⟩
  rw [hn] at hx hl ⊢
  have HN := hid hn
  have HX := hid hx
  clear hn hx
  obtain ⟨wA, hwA⟩ : ∃ wA, w.alloc (.cells #[.int .i64 0, .int .i64 0] 23) = wA := ⟨_, rfl⟩
  obtain ⟨wB, hwB⟩ : ∃ wB, wA.alloc (.cells #[.int .i64 0, .int .i64 0] 23) = wB := ⟨_, rfl⟩
  obtain ⟨wC, hwC⟩ : ∃ wC, wB.alloc (.cells #[.int .i64 (-1048576), .int .i64 (-1048576)] 23) = wC := ⟨_, rfl⟩
  obtain ⟨wD, hwD⟩ : ∃ wD, wC.alloc (.cells #[.int .i64 1048576, .int .i64 1048576] 23) = wD := ⟨_, rfl⟩
  obtain ⟨hA, hB, hC, hD, hBL, hszD, hszA, hszB, hszC⟩ := box4 hwA hwB hwC hwD
  have HBL := hid hBL
  have HA := hid hA
  have HB := hid hB
  have HC := hid hC
  have HD := hid hD
  clear hA hB hC hD hBL
  go_enter Tryz.func119, Tryz.ntmps119
  go_wp2
  go_step3
  go_wp2
  go_step3
  go_wp2
  go_loopw [7, 8, 13] (fun _ _ t wr => ∃ (k : Nat) (lx ly hx hy : Int), k ≤ n ∧ t = .int .i64 k ∧ Below w.heap.size w wr ∧ w.heap.size + 4 ≤ wr.heap.size ∧ Pt wr w.heap.size lx ly ∧ Pt wr (w.heap.size + 1) hx hy ∧ Pt wr (w.heap.size + 2) (-1048576) (-1048576) ∧ Pt wr (w.heap.size + 2 + 1) 1048576 1048576 ∧ boxL (ps.take k) = (lx, ly, hx, hy)) (fun _ _ t _ => n - (intOf t).toNat)
  case atStart => exact ⟨0, 0, 0, 0, 0, by omega, rfl, HBL.out, by omega, HA.out, HB.out, HC.out, HD.out, by simp [boxL]⟩
  case round =>
    obtain ⟨k, lx, ly, hx, hy, hk, rfl, hbr, hsz, hA, hB, hC, hD, hbox⟩ := hrel
    clear HA HB HC HD HBL
    by_cases hlt : k < n
    · have hkI : (k : Int) < (n : Int) := by omega
      obtain ⟨b, off, rfl, hcx⟩ := HX.out (by omega)
      have hkp : k < ps.length := by have := HN.out; omega
      obtain ⟨z0, z1⟩ := hcx k ps[k] (by simp [hkp])
      have hbb : b < w.heap.size := World.block_lt_of_cell? w _ z0
      have y0 := (hbr.cell (p := ⟨b, off + k * 2, none⟩) hbb).trans z0
      have y1 := (hbr.cell (p := ⟨b, off + k * 2 + 1, none⟩) hbb).trans z1
      have HP := hid (show ps[k]? = some ps[k] by simp [hkp])
      generalize ps[k] = P at *
      obtain ⟨px, py⟩ := P
      dsimp only at y0 y1
      obtain ⟨wP, hwP⟩ : ∃ wP, wr.alloc (.cells #[.int .i64 px, .int .i64 py] 23) = wP := ⟨_, rfl⟩
      have hszP : wP.heap.size = wr.heap.size + 1 := by rw [← hwP]; simp
      have HPP := hid (show Pt wP wr.heap.size px py by rw [← hwP]; exact Pt.new wr px py)
      have HAP := hid (show Pt wP w.heap.size lx ly by rw [← hwP]; exact hA.alloc _)
      have HBP := hid (show Pt wP (w.heap.size + 1) hx hy by rw [← hwP]; exact hB.alloc _)
      have HCP := hid (show Pt wP (w.heap.size + 2) (-1048576) (-1048576) by rw [← hwP]; exact hC.alloc _)
      have HDP := hid (show Pt wP (w.heap.size + 2 + 1) 1048576 1048576 by rw [← hwP]; exact hD.alloc _)
      have HBR := hid (show Below w.heap.size w wP by rw [← hwP]; exact hbr.alloc (by omega) _)
      have HBX := hid hbox
      have p0 := HPP.out.c0
      have p1 := HPP.out.c1
      have HH := hid (held_any px py wP)
      have nx0 := near_lo px; have nx1 := near_hi px; have ny0 := near_lo py; have ny1 := near_hi py
      obtain ⟨NX, hNX⟩ : ∃ NX, near px = NX := ⟨_, rfl⟩
      obtain ⟨NY, hNY⟩ : ∃ NY, near py = NY := ⟨_, rfl⟩
      rw [hNX] at nx0 nx1
      rw [hNY] at ny0 ny1
      have HNX := hid hNX
      have HNY := hid hNY
      rw [hNX, hNY] at HH
      clear z0 z1 hcx hbb hA hB hC hD hbr hbox HX hNX hNY
      obtain ⟨RB, hRB⟩ : ∃ RB, wr.heap.size = RB := ⟨_, rfl⟩
      have HRB := hid hRB
      rw [hRB] at hsz hszP p0 p1 HPP
      by_cases hk0 : k = 0
      · have hkB : ((k : Int) == 0) = true := by simp [hk0]
        have HK0 := hid hk0
        clear hk0
        go_wp2_with (go_at_call 28; refine HH.out.mono ?_; rintro e w1 ⟨rfl, hb1⟩; have e0 := (HPP.out.below hb1 (by omega)).c0; have e1 := (HPP.out.below hb1 (by omega)).c1; have e2 := (HPP.out.below hb1 (by omega)).f0; have e3 := (HPP.out.below hb1 (by omega)).f1; obtain ⟨W, hW⟩ : ∃ W, (w1.setCell ⟨RB, 0, none⟩ (.int .i64 NX)).setCell ⟨RB, 1, none⟩ (.int .i64 NY) = W := ⟨_, rfl⟩; have HPW := hid (show Pt W RB NX NY by rw [← hW]; exact (HPP.out.below hb1 (by omega)).set _ _); have HAW := hid (show Pt W w.heap.size lx ly by rw [← hW]; exact (HAP.out.below hb1 (by omega)).far (by omega) _ _); have HBW := hid (show Pt W (w.heap.size + 1) hx hy by rw [← hW]; exact (HBP.out.below hb1 (by omega)).far (by omega) _ _); have HCW := hid (show Pt W (w.heap.size + 2) (-1048576) (-1048576) by rw [← hW]; exact (HCP.out.below hb1 (by omega)).far (by omega) _ _); have HDW := hid (show Pt W (w.heap.size + 2 + 1) 1048576 1048576 by rw [← hW]; exact (HDP.out.below hb1 (by omega)).far (by omega) _ _); have HBW' := hid (show Below w.heap.size w W by rw [← hW]; exact below_set2 (HBR.out.trans (hb1.mono HBR.out.size)) (by omega)); have hszW : w.heap.size + 4 ≤ W.heap.size := (by rw [← hW]; simp; have := hb1.size; omega); clear hb1 HPP HAP HBP HCP HDP HBR; have a0 := HAW.out.c0; have a1 := HAW.out.c1; have b0 := HBW.out.c0; have b1 := HBW.out.c1; have c0 := HCW.out.c0; have c1 := HCW.out.c1; have d0 := HDW.out.c0; have d1 := HDW.out.c1; have q0 := HPW.out.c0; have q1 := HPW.out.c1; have a2 := HAW.out.f0; have a3 := HAW.out.f1; have b2 := HBW.out.f0; have b3 := HBW.out.f1)
        have n1 : w.heap.size ≠ RB := by omega
        have n2 : w.heap.size + 1 ≠ RB := by omega
        first | (go_region_held (fun w' => w'.cell? ⟨RB, 0, none⟩ = some (.int .i64 NX) ∧ w'.cell? ⟨RB, 1, none⟩ = some (.int .i64 NY)) (simp [q0, q1, World.cell?_setCell_far, n1, n2]) (fail)) | fail
        go_wp2
        go_roundw
        case rel =>
          refine ⟨k + 1, _, _, _, _, by omega, by go_num, below_set2 (below_set2 HBW'.out.drew (Nat.le_refl _)) (Nat.le_add_right _ _), by simpa using hszW, (HAW.out.set _ _).far (by omega) _ _, (HBW.out.far (by omega) _ _).set _ _, (HCW.out.far (by omega) _ _).far (by omega) _ _, (HDW.out.far (by omega) _ _).far (by omega) _ _, ?_⟩
          have h0 := HK0.out
          subst h0
          rw [boxL_one HP.out, HNX.out, HNY.out]
        case measure => simp [intOf]; omega
      · have hkB : ((k : Int) == 0) = false := by simp [hk0]
        have HK0 := hid hk0
        clear hk0
        by_cases g1 : lx = -1048576
        · by_cases g2 : ly = -1048576
          · by_cases g3 : hx = 1048576
            · by_cases g4 : hy = 1048576
              · have HWH := hid (boxL_whole (k := k) (by have := HK0.out; omega) (by rw [HBX.out, g1, g2, g3, g4]))
                go_wp2_with (go_at_call 28; refine HH.out.mono ?_; rintro e w1 ⟨rfl, hb1⟩; have e0 := (HPP.out.below hb1 (by omega)).c0; have e1 := (HPP.out.below hb1 (by omega)).c1; have e2 := (HPP.out.below hb1 (by omega)).f0; have e3 := (HPP.out.below hb1 (by omega)).f1; obtain ⟨W, hW⟩ : ∃ W, (w1.setCell ⟨RB, 0, none⟩ (.int .i64 NX)).setCell ⟨RB, 1, none⟩ (.int .i64 NY) = W := ⟨_, rfl⟩; have HPW := hid (show Pt W RB NX NY by rw [← hW]; exact (HPP.out.below hb1 (by omega)).set _ _); have HAW := hid (show Pt W w.heap.size lx ly by rw [← hW]; exact (HAP.out.below hb1 (by omega)).far (by omega) _ _); have HBW := hid (show Pt W (w.heap.size + 1) hx hy by rw [← hW]; exact (HBP.out.below hb1 (by omega)).far (by omega) _ _); have HCW := hid (show Pt W (w.heap.size + 2) (-1048576) (-1048576) by rw [← hW]; exact (HCP.out.below hb1 (by omega)).far (by omega) _ _); have HDW := hid (show Pt W (w.heap.size + 2 + 1) 1048576 1048576 by rw [← hW]; exact (HDP.out.below hb1 (by omega)).far (by omega) _ _); have HBW' := hid (show Below w.heap.size w W by rw [← hW]; exact below_set2 (HBR.out.trans (hb1.mono HBR.out.size)) (by omega)); have hszW : w.heap.size + 4 ≤ W.heap.size := (by rw [← hW]; simp; have := hb1.size; omega); clear hb1 HPP HAP HBP HCP HDP HBR; have a0 := HAW.out.c0; have a1 := HAW.out.c1; have b0 := HBW.out.c0; have b1 := HBW.out.c1; have c0 := HCW.out.c0; have c1 := HCW.out.c1; have d0 := HDW.out.c0; have d1 := HDW.out.c1; have q0 := HPW.out.c0; have q1 := HPW.out.c1; have a2 := HAW.out.f0; have a3 := HAW.out.f1; have b2 := HBW.out.f0; have b3 := HBW.out.f1)
                rw [g1] at a0
                rw [g2] at a1
                rw [g3] at b0
                rw [g4] at b1
                have hn0 : (0 : Int) < (n : Int) := by omega
                go_region_held (fun w' => w'.cell? ⟨w.heap.size, 0, none⟩ = some (.int .i64 (-1048576)) ∧ w'.cell? ⟨w.heap.size, 1, none⟩ = some (.int .i64 (-1048576)) ∧ w'.cell? ⟨w.heap.size + 1, 0, none⟩ = some (.int .i64 (1048576)) ∧ w'.cell? ⟨w.heap.size + 1, 1, none⟩ = some (.int .i64 (1048576))) (simp [go_sem, a0, a1, b0, b1]) (fail)
                go_wp2
                rw [Exit.noGoto_ret]
                refine bodyPost_ret (v := .tuple #[pv (-1048576) (-1048576), pv (1048576) (1048576), .bool true]) (by simp [results, Tryz.results119, go_sem, a0, a1, b0, b1]; omega) rfl ⟨?_, ?_⟩
                · rw [HWH.out, show decide (0 < n) = true by simp; omega]
                · exact below_set2 (below_set2 HBW'.out.drew (Nat.le_refl _)) (Nat.le_add_right _ _)
              · have g4' : (hy == 1048576) = false := by simpa using g4
                go_wp2_with (go_at_call 28; refine HH.out.mono ?_; rintro e w1 ⟨rfl, hb1⟩; have e0 := (HPP.out.below hb1 (by omega)).c0; have e1 := (HPP.out.below hb1 (by omega)).c1; have e2 := (HPP.out.below hb1 (by omega)).f0; have e3 := (HPP.out.below hb1 (by omega)).f1; obtain ⟨W, hW⟩ : ∃ W, (w1.setCell ⟨RB, 0, none⟩ (.int .i64 NX)).setCell ⟨RB, 1, none⟩ (.int .i64 NY) = W := ⟨_, rfl⟩; have HPW := hid (show Pt W RB NX NY by rw [← hW]; exact (HPP.out.below hb1 (by omega)).set _ _); have HAW := hid (show Pt W w.heap.size lx ly by rw [← hW]; exact (HAP.out.below hb1 (by omega)).far (by omega) _ _); have HBW := hid (show Pt W (w.heap.size + 1) hx hy by rw [← hW]; exact (HBP.out.below hb1 (by omega)).far (by omega) _ _); have HCW := hid (show Pt W (w.heap.size + 2) (-1048576) (-1048576) by rw [← hW]; exact (HCP.out.below hb1 (by omega)).far (by omega) _ _); have HDW := hid (show Pt W (w.heap.size + 2 + 1) 1048576 1048576 by rw [← hW]; exact (HDP.out.below hb1 (by omega)).far (by omega) _ _); have HBW' := hid (show Below w.heap.size w W by rw [← hW]; exact below_set2 (HBR.out.trans (hb1.mono HBR.out.size)) (by omega)); have hszW : w.heap.size + 4 ≤ W.heap.size := (by rw [← hW]; simp; have := hb1.size; omega); clear hb1 HPP HAP HBP HCP HDP HBR; have a0 := HAW.out.c0; have a1 := HAW.out.c1; have b0 := HBW.out.c0; have b1 := HBW.out.c1; have c0 := HCW.out.c0; have c1 := HCW.out.c1; have d0 := HDW.out.c0; have d1 := HDW.out.c1; have q0 := HPW.out.c0; have q1 := HPW.out.c1; have a2 := HAW.out.f0; have a3 := HAW.out.f1; have b2 := HBW.out.f0; have b3 := HBW.out.f1)
                go_roundw
                case rel =>
                  refine ⟨k + 1, _, _, _, _, by omega, by go_num, below_set2 (below_set2 HBW'.out (Nat.le_refl _)) (Nat.le_add_right _ _), by simpa using hszW, (HAW.out.set _ _).far (by omega) _ _, (HBW.out.far (by omega) _ _).set _ _, (HCW.out.far (by omega) _ _).far (by omega) _ _, (HDW.out.far (by omega) _ _).far (by omega) _ _, ?_⟩
                  rw [boxL_more (by have := HK0.out; omega) HP.out, HBX.out]
                  simp only [boxS, HNX.out, HNY.out, Prod.mk.injEq]
                  refine ⟨?_, ?_, ?_, ?_⟩ <;> first | omega | (split <;> omega)
                case measure => simp [intOf]; omega
            · have g3' : (hx == 1048576) = false := by simpa using g3
              go_wp2_with (go_at_call 28; refine HH.out.mono ?_; rintro e w1 ⟨rfl, hb1⟩; have e0 := (HPP.out.below hb1 (by omega)).c0; have e1 := (HPP.out.below hb1 (by omega)).c1; have e2 := (HPP.out.below hb1 (by omega)).f0; have e3 := (HPP.out.below hb1 (by omega)).f1; obtain ⟨W, hW⟩ : ∃ W, (w1.setCell ⟨RB, 0, none⟩ (.int .i64 NX)).setCell ⟨RB, 1, none⟩ (.int .i64 NY) = W := ⟨_, rfl⟩; have HPW := hid (show Pt W RB NX NY by rw [← hW]; exact (HPP.out.below hb1 (by omega)).set _ _); have HAW := hid (show Pt W w.heap.size lx ly by rw [← hW]; exact (HAP.out.below hb1 (by omega)).far (by omega) _ _); have HBW := hid (show Pt W (w.heap.size + 1) hx hy by rw [← hW]; exact (HBP.out.below hb1 (by omega)).far (by omega) _ _); have HCW := hid (show Pt W (w.heap.size + 2) (-1048576) (-1048576) by rw [← hW]; exact (HCP.out.below hb1 (by omega)).far (by omega) _ _); have HDW := hid (show Pt W (w.heap.size + 2 + 1) 1048576 1048576 by rw [← hW]; exact (HDP.out.below hb1 (by omega)).far (by omega) _ _); have HBW' := hid (show Below w.heap.size w W by rw [← hW]; exact below_set2 (HBR.out.trans (hb1.mono HBR.out.size)) (by omega)); have hszW : w.heap.size + 4 ≤ W.heap.size := (by rw [← hW]; simp; have := hb1.size; omega); clear hb1 HPP HAP HBP HCP HDP HBR; have a0 := HAW.out.c0; have a1 := HAW.out.c1; have b0 := HBW.out.c0; have b1 := HBW.out.c1; have c0 := HCW.out.c0; have c1 := HCW.out.c1; have d0 := HDW.out.c0; have d1 := HDW.out.c1; have q0 := HPW.out.c0; have q1 := HPW.out.c1; have a2 := HAW.out.f0; have a3 := HAW.out.f1; have b2 := HBW.out.f0; have b3 := HBW.out.f1)
              go_roundw
              case rel =>
                refine ⟨k + 1, _, _, _, _, by omega, by go_num, below_set2 (below_set2 HBW'.out (Nat.le_refl _)) (Nat.le_add_right _ _), by simpa using hszW, (HAW.out.set _ _).far (by omega) _ _, (HBW.out.far (by omega) _ _).set _ _, (HCW.out.far (by omega) _ _).far (by omega) _ _, (HDW.out.far (by omega) _ _).far (by omega) _ _, ?_⟩
                rw [boxL_more (by have := HK0.out; omega) HP.out, HBX.out]
                simp only [boxS, HNX.out, HNY.out, Prod.mk.injEq]
                refine ⟨?_, ?_, ?_, ?_⟩ <;> first | omega | (split <;> omega)
              case measure => simp [intOf]; omega
          · have g2' : (ly == -1048576) = false := by simpa using g2
            go_wp2_with (go_at_call 28; refine HH.out.mono ?_; rintro e w1 ⟨rfl, hb1⟩; have e0 := (HPP.out.below hb1 (by omega)).c0; have e1 := (HPP.out.below hb1 (by omega)).c1; have e2 := (HPP.out.below hb1 (by omega)).f0; have e3 := (HPP.out.below hb1 (by omega)).f1; obtain ⟨W, hW⟩ : ∃ W, (w1.setCell ⟨RB, 0, none⟩ (.int .i64 NX)).setCell ⟨RB, 1, none⟩ (.int .i64 NY) = W := ⟨_, rfl⟩; have HPW := hid (show Pt W RB NX NY by rw [← hW]; exact (HPP.out.below hb1 (by omega)).set _ _); have HAW := hid (show Pt W w.heap.size lx ly by rw [← hW]; exact (HAP.out.below hb1 (by omega)).far (by omega) _ _); have HBW := hid (show Pt W (w.heap.size + 1) hx hy by rw [← hW]; exact (HBP.out.below hb1 (by omega)).far (by omega) _ _); have HCW := hid (show Pt W (w.heap.size + 2) (-1048576) (-1048576) by rw [← hW]; exact (HCP.out.below hb1 (by omega)).far (by omega) _ _); have HDW := hid (show Pt W (w.heap.size + 2 + 1) 1048576 1048576 by rw [← hW]; exact (HDP.out.below hb1 (by omega)).far (by omega) _ _); have HBW' := hid (show Below w.heap.size w W by rw [← hW]; exact below_set2 (HBR.out.trans (hb1.mono HBR.out.size)) (by omega)); have hszW : w.heap.size + 4 ≤ W.heap.size := (by rw [← hW]; simp; have := hb1.size; omega); clear hb1 HPP HAP HBP HCP HDP HBR; have a0 := HAW.out.c0; have a1 := HAW.out.c1; have b0 := HBW.out.c0; have b1 := HBW.out.c1; have c0 := HCW.out.c0; have c1 := HCW.out.c1; have d0 := HDW.out.c0; have d1 := HDW.out.c1; have q0 := HPW.out.c0; have q1 := HPW.out.c1; have a2 := HAW.out.f0; have a3 := HAW.out.f1; have b2 := HBW.out.f0; have b3 := HBW.out.f1)
            go_roundw
            case rel =>
              refine ⟨k + 1, _, _, _, _, by omega, by go_num, below_set2 (below_set2 HBW'.out (Nat.le_refl _)) (Nat.le_add_right _ _), by simpa using hszW, (HAW.out.set _ _).far (by omega) _ _, (HBW.out.far (by omega) _ _).set _ _, (HCW.out.far (by omega) _ _).far (by omega) _ _, (HDW.out.far (by omega) _ _).far (by omega) _ _, ?_⟩
              rw [boxL_more (by have := HK0.out; omega) HP.out, HBX.out]
              simp only [boxS, HNX.out, HNY.out, Prod.mk.injEq]
              refine ⟨?_, ?_, ?_, ?_⟩ <;> first | omega | (split <;> omega)
            case measure => simp [intOf]; omega
        · have g1' : (lx == -1048576) = false := by simpa using g1
          go_wp2_with (go_at_call 28; refine HH.out.mono ?_; rintro e w1 ⟨rfl, hb1⟩; have e0 := (HPP.out.below hb1 (by omega)).c0; have e1 := (HPP.out.below hb1 (by omega)).c1; have e2 := (HPP.out.below hb1 (by omega)).f0; have e3 := (HPP.out.below hb1 (by omega)).f1; obtain ⟨W, hW⟩ : ∃ W, (w1.setCell ⟨RB, 0, none⟩ (.int .i64 NX)).setCell ⟨RB, 1, none⟩ (.int .i64 NY) = W := ⟨_, rfl⟩; have HPW := hid (show Pt W RB NX NY by rw [← hW]; exact (HPP.out.below hb1 (by omega)).set _ _); have HAW := hid (show Pt W w.heap.size lx ly by rw [← hW]; exact (HAP.out.below hb1 (by omega)).far (by omega) _ _); have HBW := hid (show Pt W (w.heap.size + 1) hx hy by rw [← hW]; exact (HBP.out.below hb1 (by omega)).far (by omega) _ _); have HCW := hid (show Pt W (w.heap.size + 2) (-1048576) (-1048576) by rw [← hW]; exact (HCP.out.below hb1 (by omega)).far (by omega) _ _); have HDW := hid (show Pt W (w.heap.size + 2 + 1) 1048576 1048576 by rw [← hW]; exact (HDP.out.below hb1 (by omega)).far (by omega) _ _); have HBW' := hid (show Below w.heap.size w W by rw [← hW]; exact below_set2 (HBR.out.trans (hb1.mono HBR.out.size)) (by omega)); have hszW : w.heap.size + 4 ≤ W.heap.size := (by rw [← hW]; simp; have := hb1.size; omega); clear hb1 HPP HAP HBP HCP HDP HBR; have a0 := HAW.out.c0; have a1 := HAW.out.c1; have b0 := HBW.out.c0; have b1 := HBW.out.c1; have c0 := HCW.out.c0; have c1 := HCW.out.c1; have d0 := HDW.out.c0; have d1 := HDW.out.c1; have q0 := HPW.out.c0; have q1 := HPW.out.c1; have a2 := HAW.out.f0; have a3 := HAW.out.f1; have b2 := HBW.out.f0; have b3 := HBW.out.f1)
          go_roundw
          case rel =>
            refine ⟨k + 1, _, _, _, _, by omega, by go_num, below_set2 (below_set2 HBW'.out (Nat.le_refl _)) (Nat.le_add_right _ _), by simpa using hszW, (HAW.out.set _ _).far (by omega) _ _, (HBW.out.far (by omega) _ _).set _ _, (HCW.out.far (by omega) _ _).far (by omega) _ _, (HDW.out.far (by omega) _ _).far (by omega) _ _, ?_⟩
            rw [boxL_more (by have := HK0.out; omega) HP.out, HBX.out]
            simp only [boxS, HNX.out, HNY.out, Prod.mk.injEq]
            refine ⟨?_, ?_, ?_, ?_⟩ <;> first | omega | (split <;> omega)
          case measure => simp [intOf]; omega
    · obtain rfl : k = n := by omega
      have HBX := hid (show boxL ps = (lx, ly, hx, hy) by rw [← hbox, List.take_of_length_le (by have := HN.out; omega)])
      have a0 := hA.c0; have a1 := hA.c1; have a2 := hA.f0; have a3 := hA.f1
      have b0 := hB.c0; have b1 := hB.c1; have b2 := hB.f0; have b3 := hB.f1
      have HBR := hid hbr
      clear hA hB hC hD hbr hbox HX
      by_cases hn0 : 0 < k
      · have hnI : (0 : Int) < (k : Int) := by omega
        go_wp2
        go_region_held (fun w' => w'.cell? ⟨w.heap.size, 0, none⟩ = some (.int .i64 (lx)) ∧ w'.cell? ⟨w.heap.size, 1, none⟩ = some (.int .i64 (ly)) ∧ w'.cell? ⟨w.heap.size + 1, 0, none⟩ = some (.int .i64 (hx)) ∧ w'.cell? ⟨w.heap.size + 1, 1, none⟩ = some (.int .i64 (hy))) (simp [go_sem, a0, a1, b0, b1]) (fail)
        go_wp2
        rw [Exit.noGoto_ret]
        refine bodyPost_ret (v := .tuple #[pv (lx) (ly), pv (hx) (hy), .bool true]) (by simp [results, Tryz.results119, go_sem, a0, a1, b0, b1]) rfl ⟨?_, ?_⟩
        · rw [HBX.out, show decide (0 < k) = true by simpa using hn0]
        · exact below_set2 (below_set2 HBR.out.drew (Nat.le_refl _)) (Nat.le_add_right _ _)
      · have hnI : (k : Int) = 0 := by omega
        go_wp2
        go_region_held (fun w' => w'.cell? ⟨w.heap.size, 0, none⟩ = some (.int .i64 (lx)) ∧ w'.cell? ⟨w.heap.size, 1, none⟩ = some (.int .i64 (ly)) ∧ w'.cell? ⟨w.heap.size + 1, 0, none⟩ = some (.int .i64 (hx)) ∧ w'.cell? ⟨w.heap.size + 1, 1, none⟩ = some (.int .i64 (hy))) (simp [go_sem, a0, a1, b0, b1]) (fail)
        go_wp2
        rw [Exit.noGoto_ret]
        refine bodyPost_ret (v := .tuple #[pv (lx) (ly), pv (hx) (hy), .bool false]) (by simp [results, Tryz.results119, go_sem, a0, a1, b0, b1]) rfl ⟨?_, ?_⟩
        · rw [HBX.out, show decide (0 < k) = false by simpa using hn0]
        · exact below_set2 (below_set2 HBR.out.drew (Nat.le_refl _)) (Nat.le_add_right _ _)
end Go.Proofs.YtkdnkmheidbfdaaGreat
