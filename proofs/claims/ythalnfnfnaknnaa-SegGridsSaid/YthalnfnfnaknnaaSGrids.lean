/-
  SegGrids: the walk.
-/
import Derived.Test.YthalnfnfnaknnaaSLaw
import Derived.Test.YthalnfnfnaknnaaSCount
import Derived.Deep.RegionLaw
namespace Go.Proofs.Ythalnfnfnaknnaa
open Go.RowKit Go.Sort

/-- An append whose run is known, at a step of a region that draws its order. -/
theorem step_append_run {P : Program} {ops : Array Oper} {o : Oper} {a : Act} {ts : Array Value} {w w' : World} {K : Act → World → Prop} {Q : Exit → Act → World → Prop} {E : Prop} (hg : o.guard = none) (s x : Operand) (t : TypeId) (hop : o.op = Op.call { callee := Callee.builtin Builtin.append, args := #[s, x], argTypes := #[t, t] }) {v u v' : Value} (hs : a.eval s = v) (hx : a.eval x = u)
    (hrun : (Builtin.append_ #[t, t] o.type #[v, u]).run P w = .ok v' w') (hK : K (a.put o.dst v') w') : if Region.wanted o (yielded ops ts) = true then Oper.wp P o a w K Q else E := by
  have hw : Region.wanted o (yielded ops ts) = true := by simp [Region.wanted, hg]
  rw [if_pos hw]
  unfold Oper.wp
  rw [show (execOp a.eval o).run P w = .ok (.value v') w' by simp [execOp, hop, resolve, invoke, builtin, hs, hx, hrun, Result.andThen]]
  exact hK
theorem cnt_succ (f : Nat → Bool) (m : Nat) : cnt f (m + 1) = cnt f m + (f m).toNat := rfl
theorem gpt_at {i j : Nat} (h : j < 8) : gpt (i * 8 + j) = ((i : Int), (j : Int)) := by
  unfold gpt
  exact Prod.ext (by dsimp only; omega) (by dsimp only; omega)

set_option maxRecDepth 100000 in
set_option maxHeartbeats 8000000 in
theorem segGrids_core (H : SegC) (w : World) (v x0 y0 x1 y1 x2 y2 x3 y3 K : Int)
    (e0 : bits .and .i64 v 7 = x0) (e1 : bits .and .i64 (v / 8) 7 = y0) (e2 : bits .and .i64 (v / 64) 7 = x1) (e3 : bits .and .i64 (v / 512) 7 = y1) (e4 : bits .and .i64 (v / 4096) 7 = x2) (e5 : bits .and .i64 (v / 32768) 7 = y2) (e6 : bits .and .i64 (v / 262144) 7 = x3) (e7 : bits .and .i64 (v / 2097152) 7 = y3)
    (_b0 : 0 ≤ x0 ∧ x0 < 8) (_b1 : 0 ≤ y0 ∧ y0 < 8) (_b2 : 0 ≤ x1 ∧ x1 < 8) (_b3 : 0 ≤ y1 ∧ y1 < 8) (_b4 : 0 ≤ x2 ∧ x2 < 8) (_b5 : 0 ≤ y2 ∧ y2 < 8) (_b6 : 0 ≤ x3 ∧ x3 < 8) (_b7 : 0 ≤ y3 ∧ y3 < 8)
    (HR : Hid (∀ W, Calls Try.prog 8 #[pv x0 y0, pv x1 y1, pv x2 y2, pv x3 y3] W fun e w' => e = .returned (.int .i64 K) ∧ Below W.heap.size W w'))
    (HO1 : Hid (∀ (i j : Nat), i < 8 → j < 8 → ∀ W, Calls Try.prog 16 #[pv x0 y0, pv x1 y1, pv i j] W fun e w' => e = .returned (.bool (on2 (x0, y0) (x1, y1) ((i : Int), (j : Int)))) ∧ Below W.heap.size W w'))
    (HO2 : Hid (∀ (i j : Nat), i < 8 → j < 8 → ∀ W, Calls Try.prog 16 #[pv x2 y2, pv x3 y3, pv i j] W fun e w' => e = .returned (.bool (on2 (x2, y2) (x3, y3) ((i : Int), (j : Int)))) ∧ Below W.heap.size W w'))
    (HG : Hid (GridSays K (cnt (fun m => bothP (x0, y0) (x1, y1) (x2, y2) (x3, y3) (gpt m)) 64) (cnt (fun m => bothP (x0, y0) (x1, y1) (x2, y2) (x3, y3) (gpt m) && endP (x0, y0) (x1, y1) (x2, y2) (x3, y3) (gpt m)) 64))) :
    Calls Try.prog 7 #[.int .i64 v] w fun e w' => e = .returned (.bool true) ∧ Below w.heap.size w w' := by
  go_enter Try.func7, Try.ntmps7
  go_wp2
  go_loopw [3, 4] (fun u t wr => (t = .int .i64 0 ∧ (∃ ao cap, u = .slice ao 0 cap ∧ PtRow wr w.heap.size (.slice ao 0 cap) ([] : List Pp)) ∧ Below w.heap.size w wr) ∨ (t = .int .i64 1 ∧ (∃ ao cap, u = .slice ao 1 cap ∧ PtRow wr w.heap.size (.slice ao 1 cap) ([(x0, y0)] : List Pp)) ∧ Below w.heap.size w wr) ∨ (t = .int .i64 2 ∧ (∃ ao cap, u = .slice ao 2 cap ∧ PtRow wr w.heap.size (.slice ao 2 cap) ([(x0, y0), (x1, y1)] : List Pp)) ∧ Below w.heap.size w wr) ∨ (t = .int .i64 3 ∧ (∃ ao cap, u = .slice ao 3 cap ∧ PtRow wr w.heap.size (.slice ao 3 cap) ([(x0, y0), (x1, y1), (x2, y2)] : List Pp)) ∧ Below w.heap.size w wr) ∨ (t = .int .i64 4 ∧ (∃ ao cap, u = .slice ao 4 cap ∧ PtRow wr w.heap.size (.slice ao 4 cap) ([(x0, y0), (x1, y1), (x2, y2), (x3, y3)] : List Pp)) ∧ Below w.heap.size w wr)) (fun _ t _ => 4 - (intOf t).toNat)
  case atStart => exact .inl ⟨rfl, ⟨none, 0, rfl, ⟨rfl, .inl ⟨rfl, rfl⟩⟩⟩, Below.refl _ _⟩
  case round =>
    rcases hrel with hk | hk | hk | hk | hk
    · obtain ⟨rfl, ⟨ao, cap, rfl, hrow⟩, hbr⟩ := hk
      have HROW := hid hrow
      have HB := hid hbr
      clear hrow hbr
      obtain ⟨ao', cap', w', hrun, hrow', hbs⟩ := (HROW.out.below (Below.refl _ wr).drew).snoc HB.out.size (by simp) (x0, y0)
      have HRUN := hid hrun
      have HROW' := hid hrow'
      have HBS := hid (HB.out.drew.trans hbs)
      clear hrun hrow' hbs
      have q1 : IntKind.i64.wrap 0 = 0 := by decide
      have q2 : IntKind.i64.wrap 3 = 3 := by decide
      go_wp2
      go_region_law (first
        | (refine step_append_run rfl (.tmp 14) (.tmp 27) 24 rfl rfl rfl HRUN.out ?_))
      go_wp2
      go_roundw
      case rel => exact .inr (.inl ⟨by go_num, ⟨ao', cap', rfl, HROW'.out⟩, HBS.out⟩)
      case measure => simp [intOf]
    · obtain ⟨rfl, ⟨ao, cap, rfl, hrow⟩, hbr⟩ := hk
      have HROW := hid hrow
      have HB := hid hbr
      clear hrow hbr
      obtain ⟨ao', cap', w', hrun, hrow', hbs⟩ := (HROW.out.below (Below.refl _ wr).drew).snoc HB.out.size (by simp) (x1, y1)
      have HRUN := hid hrun
      have HROW' := hid hrow'
      have HBS := hid (HB.out.drew.trans hbs)
      clear hrun hrow' hbs
      have q1 : IntKind.i64.wrap 6 = 6 := by decide
      have q2 : IntKind.i64.wrap 9 = 9 := by decide
      go_wp2
      go_region_law (first
        | (refine step_append_run rfl (.tmp 14) (.tmp 27) 24 rfl rfl rfl HRUN.out ?_))
      go_wp2
      go_roundw
      case rel => exact .inr (.inr (.inl ⟨by go_num, ⟨ao', cap', rfl, HROW'.out⟩, HBS.out⟩))
      case measure => simp [intOf]
    · obtain ⟨rfl, ⟨ao, cap, rfl, hrow⟩, hbr⟩ := hk
      have HROW := hid hrow
      have HB := hid hbr
      clear hrow hbr
      obtain ⟨ao', cap', w', hrun, hrow', hbs⟩ := (HROW.out.below (Below.refl _ wr).drew).snoc HB.out.size (by simp) (x2, y2)
      have HRUN := hid hrun
      have HROW' := hid hrow'
      have HBS := hid (HB.out.drew.trans hbs)
      clear hrun hrow' hbs
      have q1 : IntKind.i64.wrap 12 = 12 := by decide
      have q2 : IntKind.i64.wrap 15 = 15 := by decide
      go_wp2
      go_region_law (first
        | (refine step_append_run rfl (.tmp 14) (.tmp 27) 24 rfl rfl rfl HRUN.out ?_))
      go_wp2
      go_roundw
      case rel => exact .inr (.inr (.inr (.inl ⟨by go_num, ⟨ao', cap', rfl, HROW'.out⟩, HBS.out⟩)))
      case measure => simp [intOf]
    · obtain ⟨rfl, ⟨ao, cap, rfl, hrow⟩, hbr⟩ := hk
      have HROW := hid hrow
      have HB := hid hbr
      clear hrow hbr
      obtain ⟨ao', cap', w', hrun, hrow', hbs⟩ := (HROW.out.below (Below.refl _ wr).drew).snoc HB.out.size (by simp) (x3, y3)
      have HRUN := hid hrun
      have HROW' := hid hrow'
      have HBS := hid (HB.out.drew.trans hbs)
      clear hrun hrow' hbs
      have q1 : IntKind.i64.wrap 18 = 18 := by decide
      have q2 : IntKind.i64.wrap 21 = 21 := by decide
      go_wp2
      go_region_law (first
        | (refine step_append_run rfl (.tmp 14) (.tmp 27) 24 rfl rfl rfl HRUN.out ?_))
      go_wp2
      go_roundw
      case rel => exact .inr (.inr (.inr (.inr (⟨by go_num, ⟨ao', cap', rfl, HROW'.out⟩, HBS.out⟩))))
      case measure => simp [intOf]
    · obtain ⟨rfl, ⟨ao, cap, rfl, hrow⟩, hbr⟩ := hk
      obtain ⟨W0, rfl⟩ : ∃ W0, W0 = wr := ⟨_, rfl⟩
      have HB := hid hbr
      obtain ⟨g, rfl, p0, p1⟩ := hrow.at (k := 0) (p := (x0, y0)) rfl
      obtain ⟨_, e', p2, p3⟩ := hrow.at (k := 1) (p := (x1, y1)) rfl
      cases e'
      obtain ⟨_, e', p4, p5⟩ := hrow.at (k := 2) (p := (x2, y2)) rfl
      cases e'
      obtain ⟨_, e', p6, p7⟩ := hrow.at (k := 3) (p := (x3, y3)) rfl
      cases e'
      have HC := hid (show W0.cell? ⟨g, 0, none⟩ = some (.int .i64 x0) ∧ W0.cell? ⟨g, 1, none⟩ = some (.int .i64 y0) ∧ W0.cell? ⟨g, 2, none⟩ = some (.int .i64 x1) ∧ W0.cell? ⟨g, 3, none⟩ = some (.int .i64 y1) ∧ W0.cell? ⟨g, 4, none⟩ = some (.int .i64 x2) ∧ W0.cell? ⟨g, 5, none⟩ = some (.int .i64 y2) ∧ W0.cell? ⟨g, 6, none⟩ = some (.int .i64 x3) ∧ W0.cell? ⟨g, 7, none⟩ = some (.int .i64 y3) from ⟨by simpa using p0, by simpa using p1, by simpa using p2, by simpa using p3, by simpa using p4, by simpa using p5, by simpa using p6, by simpa using p7⟩)
      clear hrow hbr p0 p1 p2 p3 p4 p5 p6 p7
      go_wp2
      go_loopw [5, 6, 7, 8, 9] (fun n e x _ _ wr => ∃ i : Nat, i ≤ 8 ∧ x = .int .i64 i ∧ n = .int .i64 (cnt (fun m => bothP (x0, y0) (x1, y1) (x2, y2) (x3, y3) (gpt m)) (i * 8) : Nat) ∧ e = .int .i64 (cnt (fun m => bothP (x0, y0) (x1, y1) (x2, y2) (x3, y3) (gpt m) && endP (x0, y0) (x1, y1) (x2, y2) (x3, y3) (gpt m)) (i * 8) : Nat) ∧ Below W0.heap.size W0 wr) (fun _ _ x _ _ _ => 8 - (intOf x).toNat)
      case atStart => exact ⟨0, by omega, rfl, rfl, rfl, Below.refl _ _⟩
      case round =>
        obtain ⟨i, hi, rfl, rfl, rfl, hbi⟩ := hrel
        have HBI := hid hbi
        clear hbi
        by_cases hlt : i < 8
        · have hiI : (i : Int) < 8 := by omega
          go_wp2
          go_loopw [5, 6, 8, 9] (fun n e y _ wr => ∃ j : Nat, j ≤ 8 ∧ y = .int .i64 j ∧ n = .int .i64 (cnt (fun m => bothP (x0, y0) (x1, y1) (x2, y2) (x3, y3) (gpt m)) (i * 8 + j) : Nat) ∧ e = .int .i64 (cnt (fun m => bothP (x0, y0) (x1, y1) (x2, y2) (x3, y3) (gpt m) && endP (x0, y0) (x1, y1) (x2, y2) (x3, y3) (gpt m)) (i * 8 + j) : Nat) ∧ Below W0.heap.size W0 wr) (fun _ _ y _ _ => 8 - (intOf y).toNat)
          case atStart => exact ⟨0, by omega, rfl, rfl, rfl, HBI.out⟩
          case round =>
            obtain ⟨j, hj, rfl, rfl, rfl, hbj⟩ := hrel
            by_cases hlt3 : j < 8
            · have hjI : (j : Int) < 8 := by omega
              have hcb := cnt_le (fun m => bothP (x0, y0) (x1, y1) (x2, y2) (x3, y3) (gpt m)) (i * 8 + j)
              have hce := cnt_le (fun m => bothP (x0, y0) (x1, y1) (x2, y2) (x3, y3) (gpt m) && endP (x0, y0) (x1, y1) (x2, y2) (x3, y3) (gpt m)) (i * 8 + j)
              obtain ⟨cb, hCB⟩ : ∃ c, cnt (fun m => bothP (x0, y0) (x1, y1) (x2, y2) (x3, y3) (gpt m)) (i * 8 + j) = c := ⟨_, rfl⟩
              obtain ⟨ce, hCE⟩ : ∃ c, cnt (fun m => bothP (x0, y0) (x1, y1) (x2, y2) (x3, y3) (gpt m) && endP (x0, y0) (x1, y1) (x2, y2) (x3, y3) (gpt m)) (i * 8 + j) = c := ⟨_, rfl⟩
              rw [hCB] at hcb
              rw [hCE] at hce
              rw [hCB, hCE]
              have HCB := hid hCB
              have HCE := hid hCE
              clear hCB hCE
              obtain ⟨wP, hwP⟩ : ∃ wP, wr.alloc (.cells #[.int .i64 i, .int .i64 j] 23) = wP := ⟨_, rfl⟩
              have hbP : Below W0.heap.size W0 wP := by rw [← hwP]; exact hbj.alloc hbj.size _
              have hP : Pt wP wr.heap.size i j := by rw [← hwP]; exact Pt.new wr i j
              have HPP := hid hP
              have HBP := hid hbP
              have cell : ∀ k u, W0.cell? ⟨g, k, none⟩ = some u → wP.cell? ⟨g, k, none⟩ = some u := fun k u h => (hbP.cell (p := ⟨g, k, none⟩) (World.block_lt_of_cell? W0 _ h)).trans h
              have HZ := hid (And.intro (cell _ _ HC.out.1) (And.intro (cell _ _ HC.out.2.1) (And.intro (cell _ _ HC.out.2.2.1) (And.intro (cell _ _ HC.out.2.2.2.1) (And.intro (cell _ _ HC.out.2.2.2.2.1) (And.intro (cell _ _ HC.out.2.2.2.2.2.1) (And.intro (cell _ _ HC.out.2.2.2.2.2.2.1) (cell _ _ HC.out.2.2.2.2.2.2.2))))))))
              have k0 := cell_regrown HZ.out.1; have k1 := cell_regrown HZ.out.2.1; have k2 := cell_regrown HZ.out.2.2.1; have k3 := cell_regrown HZ.out.2.2.2.1; have k4 := cell_regrown HZ.out.2.2.2.2.1; have k5 := cell_regrown HZ.out.2.2.2.2.2.1; have k6 := cell_regrown HZ.out.2.2.2.2.2.2.1; have k7 := cell_regrown HZ.out.2.2.2.2.2.2.2
              have kp := cell_regrown hP.c0; have kq := cell_regrown hP.c1
              have co := fun d os => HO1.out i j hlt hlt3 (grow (redrawn wP d) os)
              have cp := fun d os => HO2.out i j hlt hlt3 (grow (redrawn wP d) os)
              clear hbj hbP hP cell
              cases o1 : on2 (x0, y0) (x1, y1) ((i : Int), (j : Int)) with
              | false =>
                rw [o1] at co
                have HFB : Hid ((fun m => bothP (x0, y0) (x1, y1) (x2, y2) (x3, y3) (gpt m)) (i * 8 + j) = false) := by
                  refine hid ?_
                  dsimp only
                  rw [gpt_at hlt3]
                  simp only [bothP, o1]
                  rfl
                have HFE : Hid ((fun m => bothP (x0, y0) (x1, y1) (x2, y2) (x3, y3) (gpt m) && endP (x0, y0) (x1, y1) (x2, y2) (x3, y3) (gpt m)) (i * 8 + j) = false) := by
                  refine hid ?_
                  have := HFB.out
                  dsimp only at this ⊢
                  rw [this]
                  rfl
                clear o1
                go_wp2
                refine wp_region_quiet_below (by kernel_rfl) (by kernel_rfl) ?_
                go_big_quiet_step (fail)
                go_big_quiet_step (fail)
                go_big_quiet_step (fail)
                go_big_quiet_step (fail)
                go_big_quiet_step (fail)
                go_big_quiet_step (fail)
                go_big_quiet_step (fail)
                go_big_quiet_step (exact Calls.regrown_of (co _ _))
                repeat (go_big_quiet_step (fail))
                refine wpQuiet_nil ?_
                intro W6 hW'
                obtain ⟨⟨dq, osq⟩, hW⟩ := hW'
                have HW6 := hid (show Below wP.heap.size wP W6 by rw [hW]; exact below_regrown _ _ _)
                clear hW k0 k1 k2 k3 k4 k5 k6 k7 kp kq co cp
                go_wp2
                go_roundw
                case rel =>
                  refine ⟨j + 1, by omega, by go_num, ?_, ?_, HBP.out.trans (HW6.out.mono HBP.out.size)⟩
                  · rw [show i * 8 + (j + 1) = i * 8 + j + 1 by omega, cnt_succ, HFB.out]
                    simp [HCB.out]
                  · rw [show i * 8 + (j + 1) = i * 8 + j + 1 by omega, cnt_succ, HFE.out]
                    simp [HCE.out]
                case measure => simp [intOf]; omega
              | true =>
                rw [o1] at co
                cases o2 : on2 (x2, y2) (x3, y3) ((i : Int), (j : Int)) with
                | false =>
                  rw [o2] at cp
                  have HFB : Hid ((fun m => bothP (x0, y0) (x1, y1) (x2, y2) (x3, y3) (gpt m)) (i * 8 + j) = false) := by
                    refine hid ?_
                    dsimp only
                    rw [gpt_at hlt3]
                    simp only [bothP, o1, o2]
                    rfl
                  have HFE : Hid ((fun m => bothP (x0, y0) (x1, y1) (x2, y2) (x3, y3) (gpt m) && endP (x0, y0) (x1, y1) (x2, y2) (x3, y3) (gpt m)) (i * 8 + j) = false) := by
                    refine hid ?_
                    have := HFB.out
                    dsimp only at this ⊢
                    rw [this]
                    rfl
                  clear o1 o2
                  go_wp2
                  refine wp_region_quiet_below (by kernel_rfl) (by kernel_rfl) ?_
                  go_big_quiet_step (fail)
                  go_big_quiet_step (fail)
                  go_big_quiet_step (fail)
                  go_big_quiet_step (fail)
                  go_big_quiet_step (fail)
                  go_big_quiet_step (fail)
                  go_big_quiet_step (fail)
                  go_big_quiet_step (exact Calls.regrown_of (co _ _))
                  go_big_quiet_step (fail)
                  go_big_quiet_step (fail)
                  go_big_quiet_step (fail)
                  go_big_quiet_step (fail)
                  go_big_quiet_step (fail)
                  go_big_quiet_step (fail)
                  go_big_quiet_step (fail)
                  go_big_quiet_step (fail)
                  go_big_quiet_step (exact Calls.regrown_of (cp _ _))
                  repeat (go_big_quiet_step (fail))
                  refine wpQuiet_nil ?_
                  intro W6 hW'
                  obtain ⟨⟨dq, osq⟩, hW⟩ := hW'
                  have HW6 := hid (show Below wP.heap.size wP W6 by rw [hW]; exact below_regrown _ _ _)
                  clear hW k0 k1 k2 k3 k4 k5 k6 k7 kp kq co cp
                  go_wp2
                  go_roundw
                  case rel =>
                    refine ⟨j + 1, by omega, by go_num, ?_, ?_, HBP.out.trans (HW6.out.mono HBP.out.size)⟩
                    · rw [show i * 8 + (j + 1) = i * 8 + j + 1 by omega, cnt_succ, HFB.out]
                      simp [HCB.out]
                    · rw [show i * 8 + (j + 1) = i * 8 + j + 1 by omega, cnt_succ, HFE.out]
                      simp [HCE.out]
                  case measure => simp [intOf]; omega
                | true =>
                  rw [o2] at cp
                  have HO := hid (And.intro o1 o2)
                  have HFB : Hid ((fun m => bothP (x0, y0) (x1, y1) (x2, y2) (x3, y3) (gpt m)) (i * 8 + j) = true) := by
                    refine hid ?_
                    dsimp only
                    rw [gpt_at hlt3]
                    simp only [bothP, o1, o2]
                    rfl
                  have HFE : True := trivial
                  clear o1 o2
                  go_wp2
                  refine wp_region_quiet_below (by kernel_rfl) (by kernel_rfl) ?_
                  go_big_quiet_step (fail)
                  go_big_quiet_step (fail)
                  go_big_quiet_step (fail)
                  go_big_quiet_step (fail)
                  go_big_quiet_step (fail)
                  go_big_quiet_step (fail)
                  go_big_quiet_step (fail)
                  go_big_quiet_step (exact Calls.regrown_of (co _ _))
                  go_big_quiet_step (fail)
                  go_big_quiet_step (fail)
                  go_big_quiet_step (fail)
                  go_big_quiet_step (fail)
                  go_big_quiet_step (fail)
                  go_big_quiet_step (fail)
                  go_big_quiet_step (fail)
                  go_big_quiet_step (fail)
                  go_big_quiet_step (exact Calls.regrown_of (cp _ _))
                  repeat (go_big_quiet_step (fail))
                  refine wpQuiet_nil ?_
                  intro W6 hW'
                  obtain ⟨⟨dq, osq⟩, hW⟩ := hW'
                  have HW6 := hid (show Below wP.heap.size wP W6 by rw [hW]; exact below_regrown _ _ _)
                  clear hW k0 k1 k2 k3 k4 k5 k6 k7 kp kq co cp
                  have z0 := cell_regrown ((HW6.out.cell (p := ⟨g, 0, none⟩) (World.block_lt_of_cell? wP _ HZ.out.1)).trans HZ.out.1)
                  have z1 := cell_regrown ((HW6.out.cell (p := ⟨g, 1, none⟩) (World.block_lt_of_cell? wP _ HZ.out.2.1)).trans HZ.out.2.1)
                  have z2 := cell_regrown ((HW6.out.cell (p := ⟨g, 2, none⟩) (World.block_lt_of_cell? wP _ HZ.out.2.2.1)).trans HZ.out.2.2.1)
                  have z3 := cell_regrown ((HW6.out.cell (p := ⟨g, 3, none⟩) (World.block_lt_of_cell? wP _ HZ.out.2.2.2.1)).trans HZ.out.2.2.2.1)
                  have z4 := cell_regrown ((HW6.out.cell (p := ⟨g, 4, none⟩) (World.block_lt_of_cell? wP _ HZ.out.2.2.2.2.1)).trans HZ.out.2.2.2.2.1)
                  have z5 := cell_regrown ((HW6.out.cell (p := ⟨g, 5, none⟩) (World.block_lt_of_cell? wP _ HZ.out.2.2.2.2.2.1)).trans HZ.out.2.2.2.2.2.1)
                  have z6 := cell_regrown ((HW6.out.cell (p := ⟨g, 6, none⟩) (World.block_lt_of_cell? wP _ HZ.out.2.2.2.2.2.2.1)).trans HZ.out.2.2.2.2.2.2.1)
                  have z7 := cell_regrown ((HW6.out.cell (p := ⟨g, 7, none⟩) (World.block_lt_of_cell? wP _ HZ.out.2.2.2.2.2.2.2)).trans HZ.out.2.2.2.2.2.2.2)
                  have hP6 := HPP.out.below HW6.out HPP.out.lt
                  have zp := cell_regrown hP6.c0
                  have zq := cell_regrown hP6.c1
                  clear hP6
                  cases f1 : ((i : Int) == x0 && (j : Int) == y0) with
                  | true =>
                    have rf1 := fun x y => ite2_yes f1 (α := Result Next) x y
                    have sf1 := fun x y => ite2_yes f1 (α := Prop) x y
                    have F1 := hid f1
                    clear f1
                    cases f3 : ((i : Int) == x2 && (j : Int) == y2) with
                    | true =>
                      have rf3 := fun x y => ite2_yes f3 (α := Result Next) x y
                      have sf3 := fun x y => ite2_yes f3 (α := Prop) x y
                      have F3 := hid f3
                      clear f3
                      replace HFE : Hid ((fun m => bothP (x0, y0) (x1, y1) (x2, y2) (x3, y3) (gpt m) && endP (x0, y0) (x1, y1) (x2, y2) (x3, y3) (gpt m)) (i * 8 + j) = true) := by
                        refine hid ?_
                        dsimp only
                        rw [gpt_at hlt3]
                        simp only [bothP, endP, eqp, HO.out.1, HO.out.2, F1.out, F3.out]
                        rfl
                      go_wp2
                      refine wp_region_quiet_below (by kernel_rfl) (by kernel_rfl) ?_
                      repeat (go_big_quiet_step (fail))
                      refine wpQuiet_nil ?_
                      intro W7 hW'
                      obtain ⟨⟨dq, osq⟩, hW⟩ := hW'
                      have HW7 := hid (show Below W6.heap.size W6 W7 by rw [hW]; exact below_regrown _ _ _)
                      clear hW z0 z1 z2 z3 z4 z5 z6 z7 zp zq
                      go_wp2
                      go_roundw
                      case rel =>
                        refine ⟨j + 1, by omega, by go_num, ?_, ?_, (HBP.out.trans (HW6.out.mono HBP.out.size)).trans (HW7.out.mono (Nat.le_trans HBP.out.size HW6.out.size))⟩
                        · rw [show i * 8 + (j + 1) = i * 8 + j + 1 by omega, cnt_succ, HFB.out]
                          simp [HCB.out]
                        · rw [show i * 8 + (j + 1) = i * 8 + j + 1 by omega, cnt_succ, HFE.out]
                          simp [HCE.out]
                      case measure => simp [intOf]; omega
                    | false =>
                      have rf3 := fun x y => ite2_no f3 (α := Result Next) x y
                      have sf3 := fun x y => ite2_no f3 (α := Prop) x y
                      have F3 := hid f3
                      clear f3
                      cases f4 : ((i : Int) == x3 && (j : Int) == y3) with
                      | true =>
                        have rf4 := fun x y => ite2_yes f4 (α := Result Next) x y
                        have sf4 := fun x y => ite2_yes f4 (α := Prop) x y
                        have F4 := hid f4
                        clear f4
                        replace HFE : Hid ((fun m => bothP (x0, y0) (x1, y1) (x2, y2) (x3, y3) (gpt m) && endP (x0, y0) (x1, y1) (x2, y2) (x3, y3) (gpt m)) (i * 8 + j) = true) := by
                          refine hid ?_
                          dsimp only
                          rw [gpt_at hlt3]
                          simp only [bothP, endP, eqp, HO.out.1, HO.out.2, F1.out, F3.out, F4.out]
                          rfl
                        go_wp2
                        refine wp_region_quiet_below (by kernel_rfl) (by kernel_rfl) ?_
                        repeat (go_big_quiet_step (fail))
                        refine wpQuiet_nil ?_
                        intro W7 hW'
                        obtain ⟨⟨dq, osq⟩, hW⟩ := hW'
                        have HW7 := hid (show Below W6.heap.size W6 W7 by rw [hW]; exact below_regrown _ _ _)
                        clear hW z0 z1 z2 z3 z4 z5 z6 z7 zp zq
                        go_wp2
                        go_roundw
                        case rel =>
                          refine ⟨j + 1, by omega, by go_num, ?_, ?_, (HBP.out.trans (HW6.out.mono HBP.out.size)).trans (HW7.out.mono (Nat.le_trans HBP.out.size HW6.out.size))⟩
                          · rw [show i * 8 + (j + 1) = i * 8 + j + 1 by omega, cnt_succ, HFB.out]
                            simp [HCB.out]
                          · rw [show i * 8 + (j + 1) = i * 8 + j + 1 by omega, cnt_succ, HFE.out]
                            simp [HCE.out]
                        case measure => simp [intOf]; omega
                      | false =>
                        have rf4 := fun x y => ite2_no f4 (α := Result Next) x y
                        have sf4 := fun x y => ite2_no f4 (α := Prop) x y
                        have F4 := hid f4
                        clear f4
                        replace HFE : Hid ((fun m => bothP (x0, y0) (x1, y1) (x2, y2) (x3, y3) (gpt m) && endP (x0, y0) (x1, y1) (x2, y2) (x3, y3) (gpt m)) (i * 8 + j) = false) := by
                          refine hid ?_
                          dsimp only
                          rw [gpt_at hlt3]
                          simp only [bothP, endP, eqp, HO.out.1, HO.out.2, F1.out, F3.out, F4.out]
                          rfl
                        go_wp2
                        refine wp_region_quiet_below (by kernel_rfl) (by kernel_rfl) ?_
                        repeat (go_big_quiet_step (fail))
                        refine wpQuiet_nil ?_
                        intro W7 hW'
                        obtain ⟨⟨dq, osq⟩, hW⟩ := hW'
                        have HW7 := hid (show Below W6.heap.size W6 W7 by rw [hW]; exact below_regrown _ _ _)
                        clear hW z0 z1 z2 z3 z4 z5 z6 z7 zp zq
                        go_wp2
                        go_roundw
                        case rel =>
                          refine ⟨j + 1, by omega, by go_num, ?_, ?_, (HBP.out.trans (HW6.out.mono HBP.out.size)).trans (HW7.out.mono (Nat.le_trans HBP.out.size HW6.out.size))⟩
                          · rw [show i * 8 + (j + 1) = i * 8 + j + 1 by omega, cnt_succ, HFB.out]
                            simp [HCB.out]
                          · rw [show i * 8 + (j + 1) = i * 8 + j + 1 by omega, cnt_succ, HFE.out]
                            simp [HCE.out]
                        case measure => simp [intOf]; omega
                  | false =>
                    have rf1 := fun x y => ite2_no f1 (α := Result Next) x y
                    have sf1 := fun x y => ite2_no f1 (α := Prop) x y
                    have F1 := hid f1
                    clear f1
                    cases f2 : ((i : Int) == x1 && (j : Int) == y1) with
                    | true =>
                      have rf2 := fun x y => ite2_yes f2 (α := Result Next) x y
                      have sf2 := fun x y => ite2_yes f2 (α := Prop) x y
                      have F2 := hid f2
                      clear f2
                      cases f3 : ((i : Int) == x2 && (j : Int) == y2) with
                      | true =>
                        have rf3 := fun x y => ite2_yes f3 (α := Result Next) x y
                        have sf3 := fun x y => ite2_yes f3 (α := Prop) x y
                        have F3 := hid f3
                        clear f3
                        replace HFE : Hid ((fun m => bothP (x0, y0) (x1, y1) (x2, y2) (x3, y3) (gpt m) && endP (x0, y0) (x1, y1) (x2, y2) (x3, y3) (gpt m)) (i * 8 + j) = true) := by
                          refine hid ?_
                          dsimp only
                          rw [gpt_at hlt3]
                          simp only [bothP, endP, eqp, HO.out.1, HO.out.2, F1.out, F2.out, F3.out]
                          rfl
                        go_wp2
                        refine wp_region_quiet_below (by kernel_rfl) (by kernel_rfl) ?_
                        repeat (go_big_quiet_step (fail))
                        refine wpQuiet_nil ?_
                        intro W7 hW'
                        obtain ⟨⟨dq, osq⟩, hW⟩ := hW'
                        have HW7 := hid (show Below W6.heap.size W6 W7 by rw [hW]; exact below_regrown _ _ _)
                        clear hW z0 z1 z2 z3 z4 z5 z6 z7 zp zq
                        go_wp2
                        go_roundw
                        case rel =>
                          refine ⟨j + 1, by omega, by go_num, ?_, ?_, (HBP.out.trans (HW6.out.mono HBP.out.size)).trans (HW7.out.mono (Nat.le_trans HBP.out.size HW6.out.size))⟩
                          · rw [show i * 8 + (j + 1) = i * 8 + j + 1 by omega, cnt_succ, HFB.out]
                            simp [HCB.out]
                          · rw [show i * 8 + (j + 1) = i * 8 + j + 1 by omega, cnt_succ, HFE.out]
                            simp [HCE.out]
                        case measure => simp [intOf]; omega
                      | false =>
                        have rf3 := fun x y => ite2_no f3 (α := Result Next) x y
                        have sf3 := fun x y => ite2_no f3 (α := Prop) x y
                        have F3 := hid f3
                        clear f3
                        cases f4 : ((i : Int) == x3 && (j : Int) == y3) with
                        | true =>
                          have rf4 := fun x y => ite2_yes f4 (α := Result Next) x y
                          have sf4 := fun x y => ite2_yes f4 (α := Prop) x y
                          have F4 := hid f4
                          clear f4
                          replace HFE : Hid ((fun m => bothP (x0, y0) (x1, y1) (x2, y2) (x3, y3) (gpt m) && endP (x0, y0) (x1, y1) (x2, y2) (x3, y3) (gpt m)) (i * 8 + j) = true) := by
                            refine hid ?_
                            dsimp only
                            rw [gpt_at hlt3]
                            simp only [bothP, endP, eqp, HO.out.1, HO.out.2, F1.out, F2.out, F3.out, F4.out]
                            rfl
                          go_wp2
                          refine wp_region_quiet_below (by kernel_rfl) (by kernel_rfl) ?_
                          repeat (go_big_quiet_step (fail))
                          refine wpQuiet_nil ?_
                          intro W7 hW'
                          obtain ⟨⟨dq, osq⟩, hW⟩ := hW'
                          have HW7 := hid (show Below W6.heap.size W6 W7 by rw [hW]; exact below_regrown _ _ _)
                          clear hW z0 z1 z2 z3 z4 z5 z6 z7 zp zq
                          go_wp2
                          go_roundw
                          case rel =>
                            refine ⟨j + 1, by omega, by go_num, ?_, ?_, (HBP.out.trans (HW6.out.mono HBP.out.size)).trans (HW7.out.mono (Nat.le_trans HBP.out.size HW6.out.size))⟩
                            · rw [show i * 8 + (j + 1) = i * 8 + j + 1 by omega, cnt_succ, HFB.out]
                              simp [HCB.out]
                            · rw [show i * 8 + (j + 1) = i * 8 + j + 1 by omega, cnt_succ, HFE.out]
                              simp [HCE.out]
                          case measure => simp [intOf]; omega
                        | false =>
                          have rf4 := fun x y => ite2_no f4 (α := Result Next) x y
                          have sf4 := fun x y => ite2_no f4 (α := Prop) x y
                          have F4 := hid f4
                          clear f4
                          replace HFE : Hid ((fun m => bothP (x0, y0) (x1, y1) (x2, y2) (x3, y3) (gpt m) && endP (x0, y0) (x1, y1) (x2, y2) (x3, y3) (gpt m)) (i * 8 + j) = false) := by
                            refine hid ?_
                            dsimp only
                            rw [gpt_at hlt3]
                            simp only [bothP, endP, eqp, HO.out.1, HO.out.2, F1.out, F2.out, F3.out, F4.out]
                            rfl
                          go_wp2
                          refine wp_region_quiet_below (by kernel_rfl) (by kernel_rfl) ?_
                          repeat (go_big_quiet_step (fail))
                          refine wpQuiet_nil ?_
                          intro W7 hW'
                          obtain ⟨⟨dq, osq⟩, hW⟩ := hW'
                          have HW7 := hid (show Below W6.heap.size W6 W7 by rw [hW]; exact below_regrown _ _ _)
                          clear hW z0 z1 z2 z3 z4 z5 z6 z7 zp zq
                          go_wp2
                          go_roundw
                          case rel =>
                            refine ⟨j + 1, by omega, by go_num, ?_, ?_, (HBP.out.trans (HW6.out.mono HBP.out.size)).trans (HW7.out.mono (Nat.le_trans HBP.out.size HW6.out.size))⟩
                            · rw [show i * 8 + (j + 1) = i * 8 + j + 1 by omega, cnt_succ, HFB.out]
                              simp [HCB.out]
                            · rw [show i * 8 + (j + 1) = i * 8 + j + 1 by omega, cnt_succ, HFE.out]
                              simp [HCE.out]
                          case measure => simp [intOf]; omega
                    | false =>
                      have rf2 := fun x y => ite2_no f2 (α := Result Next) x y
                      have sf2 := fun x y => ite2_no f2 (α := Prop) x y
                      have F2 := hid f2
                      clear f2
                      replace HFE : Hid ((fun m => bothP (x0, y0) (x1, y1) (x2, y2) (x3, y3) (gpt m) && endP (x0, y0) (x1, y1) (x2, y2) (x3, y3) (gpt m)) (i * 8 + j) = false) := by
                        refine hid ?_
                        dsimp only
                        rw [gpt_at hlt3]
                        simp only [bothP, endP, eqp, HO.out.1, HO.out.2, F1.out, F2.out]
                        rfl
                      go_wp2
                      refine wp_region_quiet_below (by kernel_rfl) (by kernel_rfl) ?_
                      repeat (go_big_quiet_step (fail))
                      refine wpQuiet_nil ?_
                      intro W7 hW'
                      obtain ⟨⟨dq, osq⟩, hW⟩ := hW'
                      have HW7 := hid (show Below W6.heap.size W6 W7 by rw [hW]; exact below_regrown _ _ _)
                      clear hW z0 z1 z2 z3 z4 z5 z6 z7 zp zq
                      go_wp2
                      go_roundw
                      case rel =>
                        refine ⟨j + 1, by omega, by go_num, ?_, ?_, (HBP.out.trans (HW6.out.mono HBP.out.size)).trans (HW7.out.mono (Nat.le_trans HBP.out.size HW6.out.size))⟩
                        · rw [show i * 8 + (j + 1) = i * 8 + j + 1 by omega, cnt_succ, HFB.out]
                          simp [HCB.out]
                        · rw [show i * 8 + (j + 1) = i * 8 + j + 1 by omega, cnt_succ, HFE.out]
                          simp [HCE.out]
                      case measure => simp [intOf]; omega
            · have hjI : ¬ (j : Int) < 8 := by omega
              have HBJ := hid hbj
              clear hbj
              go_wp2
              go_roundw
              case rel =>
                have e8 : i * 8 + j = (i + 1) * 8 := by omega
                exact ⟨i + 1, by omega, by go_num, by rw [e8], by rw [e8], HBJ.out⟩
              case measure => simp [intOf]; omega
        · have hiI : ¬ (i : Int) < 8 := by omega
          obtain rfl : i = 8 := by omega
          have HG' := HG.out
          have hcb := cnt_le (fun m => bothP (x0, y0) (x1, y1) (x2, y2) (x3, y3) (gpt m)) (8 * 8)
          have hce := cnt_le (fun m => bothP (x0, y0) (x1, y1) (x2, y2) (x3, y3) (gpt m) && endP (x0, y0) (x1, y1) (x2, y2) (x3, y3) (gpt m)) (8 * 8)
          rw [show (64 : Nat) = 8 * 8 from rfl] at HG'
          generalize cnt (fun m => bothP (x0, y0) (x1, y1) (x2, y2) (x3, y3) (gpt m)) (8 * 8) = N at *
          generalize cnt (fun m => bothP (x0, y0) (x1, y1) (x2, y2) (x3, y3) (gpt m) && endP (x0, y0) (x1, y1) (x2, y2) (x3, y3) (gpt m)) (8 * 8) = E at *
          have cell : ∀ k u, W0.cell? ⟨g, k, none⟩ = some u → wr.cell? ⟨g, k, none⟩ = some u := fun k u h => (HBI.out.cell (p := ⟨g, k, none⟩) (World.block_lt_of_cell? W0 _ h)).trans h
          have k0 := cell_regrown (cell _ _ HC.out.1); have k1 := cell_regrown (cell _ _ HC.out.2.1); have k2 := cell_regrown (cell _ _ HC.out.2.2.1); have k3 := cell_regrown (cell _ _ HC.out.2.2.2.1); have k4 := cell_regrown (cell _ _ HC.out.2.2.2.2.1); have k5 := cell_regrown (cell _ _ HC.out.2.2.2.2.2.1); have k6 := cell_regrown (cell _ _ HC.out.2.2.2.2.2.2.1); have k7 := cell_regrown (cell _ _ HC.out.2.2.2.2.2.2.2)
          have ca := fun d os => HR.out (grow (redrawn wr d) os)
          have HBW := hid (HB.out.trans (HBI.out.mono HB.out.size))
          clear cell HG HR HO1 HO2
          rcases HG' with ⟨rfl, hn⟩ | ⟨rfl, hn, he⟩ | ⟨rfl, hn, he⟩ | ⟨rfl, hn, he⟩ | ⟨rfl, hn⟩
          · subst hn
            go_wp2
            refine wp_region_quiet_below (by kernel_rfl) (by kernel_rfl) ?_
            go_big_quiet_step (fail)
            go_big_quiet_step (fail)
            go_big_quiet_step (fail)
            go_big_quiet_step (fail)
            go_big_quiet_step (fail)
            go_big_quiet_step (fail)
            go_big_quiet_step (fail)
            go_big_quiet_step (fail)
            go_big_quiet_step (fail)
            go_big_quiet_step (fail)
            go_big_quiet_step (fail)
            go_big_quiet_step (fail)
            go_big_quiet_step (exact Calls.regrown_of (ca _ _))
            refine wpQuiet_nil ?_
            intro W9 hW'
            obtain ⟨⟨dq, osq⟩, hW⟩ := hW'
            have HW9 := hid (show Below wr.heap.size wr W9 by rw [hW]; exact below_regrown _ _ _)
            clear hW k0 k1 k2 k3 k4 k5 k6 k7 ca
            replace HBW := hid (HBW.out.trans (HW9.out.mono HBW.out.size))
            go_wp2_with (go_at_call 9; refine (segAwake_any H _).mono ?_; rintro e w99 ⟨rfl, hb99⟩; replace HBW := hid (HBW.out.trans (hb99.mono HBW.out.size)); clear hb99)
            go_ret
            exact ⟨rfl, HBW.out⟩
          · subst hn he
            go_wp2
            refine wp_region_quiet_below (by kernel_rfl) (by kernel_rfl) ?_
            go_big_quiet_step (fail)
            go_big_quiet_step (fail)
            go_big_quiet_step (fail)
            go_big_quiet_step (fail)
            go_big_quiet_step (fail)
            go_big_quiet_step (fail)
            go_big_quiet_step (fail)
            go_big_quiet_step (fail)
            go_big_quiet_step (fail)
            go_big_quiet_step (fail)
            go_big_quiet_step (fail)
            go_big_quiet_step (fail)
            go_big_quiet_step (exact Calls.regrown_of (ca _ _))
            refine wpQuiet_nil ?_
            intro W9 hW'
            obtain ⟨⟨dq, osq⟩, hW⟩ := hW'
            have HW9 := hid (show Below wr.heap.size wr W9 by rw [hW]; exact below_regrown _ _ _)
            clear hW k0 k1 k2 k3 k4 k5 k6 k7 ca
            replace HBW := hid (HBW.out.trans (HW9.out.mono HBW.out.size))
            go_wp2_with (go_at_call 9; refine (segAwake_any H _).mono ?_; rintro e w99 ⟨rfl, hb99⟩; replace HBW := hid (HBW.out.trans (hb99.mono HBW.out.size)); clear hb99)
            go_ret
            exact ⟨rfl, HBW.out⟩
          · subst hn he
            go_wp2
            refine wp_region_quiet_below (by kernel_rfl) (by kernel_rfl) ?_
            go_big_quiet_step (fail)
            go_big_quiet_step (fail)
            go_big_quiet_step (fail)
            go_big_quiet_step (fail)
            go_big_quiet_step (fail)
            go_big_quiet_step (fail)
            go_big_quiet_step (fail)
            go_big_quiet_step (fail)
            go_big_quiet_step (fail)
            go_big_quiet_step (fail)
            go_big_quiet_step (fail)
            go_big_quiet_step (fail)
            go_big_quiet_step (exact Calls.regrown_of (ca _ _))
            refine wpQuiet_nil ?_
            intro W9 hW'
            obtain ⟨⟨dq, osq⟩, hW⟩ := hW'
            have HW9 := hid (show Below wr.heap.size wr W9 by rw [hW]; exact below_regrown _ _ _)
            clear hW k0 k1 k2 k3 k4 k5 k6 k7 ca
            replace HBW := hid (HBW.out.trans (HW9.out.mono HBW.out.size))
            go_wp2_with (go_at_call 9; refine (segAwake_any H _).mono ?_; rintro e w99 ⟨rfl, hb99⟩; replace HBW := hid (HBW.out.trans (hb99.mono HBW.out.size)); clear hb99)
            go_ret
            exact ⟨rfl, HBW.out⟩
          · subst he
            have hn1 : (N : Int) ≤ 1 := by omega
            go_wp2
            refine wp_region_quiet_below (by kernel_rfl) (by kernel_rfl) ?_
            go_big_quiet_step (fail)
            go_big_quiet_step (fail)
            go_big_quiet_step (fail)
            go_big_quiet_step (fail)
            go_big_quiet_step (fail)
            go_big_quiet_step (fail)
            go_big_quiet_step (fail)
            go_big_quiet_step (fail)
            go_big_quiet_step (fail)
            go_big_quiet_step (fail)
            go_big_quiet_step (fail)
            go_big_quiet_step (fail)
            go_big_quiet_step (exact Calls.regrown_of (ca _ _))
            refine wpQuiet_nil ?_
            intro W9 hW'
            obtain ⟨⟨dq, osq⟩, hW⟩ := hW'
            have HW9 := hid (show Below wr.heap.size wr W9 by rw [hW]; exact below_regrown _ _ _)
            clear hW k0 k1 k2 k3 k4 k5 k6 k7 ca
            replace HBW := hid (HBW.out.trans (HW9.out.mono HBW.out.size))
            go_wp2_with (go_at_call 9; refine (segAwake_any H _).mono ?_; rintro e w99 ⟨rfl, hb99⟩; replace HBW := hid (HBW.out.trans (hb99.mono HBW.out.size)); clear hb99)
            go_ret
            exact ⟨rfl, HBW.out⟩
          · have hn2 : (2 : Int) ≤ (N : Int) := by omega
            go_wp2
            refine wp_region_quiet_below (by kernel_rfl) (by kernel_rfl) ?_
            go_big_quiet_step (fail)
            go_big_quiet_step (fail)
            go_big_quiet_step (fail)
            go_big_quiet_step (fail)
            go_big_quiet_step (fail)
            go_big_quiet_step (fail)
            go_big_quiet_step (fail)
            go_big_quiet_step (fail)
            go_big_quiet_step (fail)
            go_big_quiet_step (fail)
            go_big_quiet_step (fail)
            go_big_quiet_step (fail)
            go_big_quiet_step (exact Calls.regrown_of (ca _ _))
            refine wpQuiet_nil ?_
            intro W9 hW'
            obtain ⟨⟨dq, osq⟩, hW⟩ := hW'
            have HW9 := hid (show Below wr.heap.size wr W9 by rw [hW]; exact below_regrown _ _ _)
            clear hW k0 k1 k2 k3 k4 k5 k6 k7 ca
            replace HBW := hid (HBW.out.trans (HW9.out.mono HBW.out.size))
            go_wp2_with (go_at_call 9; refine (segAwake_any H _).mono ?_; rintro e w99 ⟨rfl, hb99⟩; replace HBW := hid (HBW.out.trans (hb99.mono HBW.out.size)); clear hb99)
            go_ret
            exact ⟨rfl, HBW.out⟩
end Go.Proofs.Ythalnfnfnaknnaa
