/-
  PtBoxes: the walk.
-/
import Derived.Test.YtnfhnoacdmhlfabQAwake
import Derived.Test.YtnfhnoacdmhlfabQRefBox
import Derived.Test.YtnfhnoacdmhlfabQRefMeet
namespace Go.Proofs.Ytnfhnoacdmhlfab
open Go.RowKit Go.Sort

theorem ptBoxes_long (w : World) (a : Option Addr) (n cap : Nat) (ax ay bx by' cx cy dx dy : Int) (hn : (100 : Int) < (n : Int)) :
    Calls Try.prog 3 #[.slice a n cap, pv ax ay, pv bx by', pv cx cy, pv dx dy] w fun e w' => e = .returned (.bool true) ∧ Below w.heap.size w w' := by
  obtain ⟨wA, hwA⟩ : ∃ wA, w.alloc (.cells #[.int .i64 ax, .int .i64 ay] 24) = wA := ⟨_, rfl⟩
  obtain ⟨wB, hwB⟩ : ∃ wB, wA.alloc (.cells #[.int .i64 bx, .int .i64 by'] 24) = wB := ⟨_, rfl⟩
  obtain ⟨wC, hwC⟩ : ∃ wC, wB.alloc (.cells #[.int .i64 cx, .int .i64 cy] 24) = wC := ⟨_, rfl⟩
  obtain ⟨wD, hwD⟩ : ∃ wD, wC.alloc (.cells #[.int .i64 dx, .int .i64 dy] 24) = wD := ⟨_, rfl⟩
  obtain ⟨hA, hB, hC, hD, hBL, hszD, hszA, hszB, hszC⟩ := box4 hwA hwB hwC hwD
  have HB := hid hBL
  clear hA hB hC hD hBL
  go_enter Try.func3, Try.ntmps3
  go_wp2_with (go_at_call 6; refine (awake_any _).mono ?_; rintro e w99 ⟨rfl, hb99⟩; replace HB := hid (HB.out.trans (hb99.mono HB.out.size)); clear hb99)
  go_ret
  exact ⟨rfl, HB.out⟩

set_option maxHeartbeats 1600000 in
theorem ptBoxes_short (w : World) (a : Option Addr) (n cap : Nat) (ax ay bx by' cx cy dx dy lx ly hx hy : Int) (R M : Bool) (hn : ¬ (100 : Int) < (n : Int))
    (HB1 : Hid (∀ W, Below w.heap.size w W → Calls Try.prog 7 #[.slice a n cap] W fun e w' => e = .returned (.tuple #[pv lx ly, pv hx hy, .bool R]) ∧ Below W.heap.size W w'))
    (HB2 : Hid (∀ W, Below w.heap.size w W → Calls Try.prog 8 #[.slice a n cap] W fun e w' => e = .returned (.tuple #[pv lx ly, pv hx hy, .bool R]) ∧ Below W.heap.size W w'))
    (HM1 : Hid (∀ W, Calls Try.prog 9 #[pv ax ay, pv bx by', pv cx cy, pv dx dy] W fun e w' => e = .returned (.bool M) ∧ Below W.heap.size W w'))
    (HM2 : Hid (∀ W, Calls Try.prog 10 #[pv ax ay, pv bx by', pv cx cy, pv dx dy] W fun e w' => e = .returned (.bool M) ∧ Below W.heap.size W w'))
    (HM3 : Hid (∀ W, Calls Try.prog 9 #[pv cx cy, pv dx dy, pv ax ay, pv bx by'] W fun e w' => e = .returned (.bool M) ∧ Below W.heap.size W w')) :
    Calls Try.prog 3 #[.slice a n cap, pv ax ay, pv bx by', pv cx cy, pv dx dy] w fun e w' => e = .returned (.bool true) ∧ Below w.heap.size w w' := by
  obtain ⟨wA, hwA⟩ : ∃ wA, w.alloc (.cells #[.int .i64 ax, .int .i64 ay] 24) = wA := ⟨_, rfl⟩
  obtain ⟨wB, hwB⟩ : ∃ wB, wA.alloc (.cells #[.int .i64 bx, .int .i64 by'] 24) = wB := ⟨_, rfl⟩
  obtain ⟨wC, hwC⟩ : ∃ wC, wB.alloc (.cells #[.int .i64 cx, .int .i64 cy] 24) = wC := ⟨_, rfl⟩
  obtain ⟨wD, hwD⟩ : ∃ wD, wC.alloc (.cells #[.int .i64 dx, .int .i64 dy] 24) = wD := ⟨_, rfl⟩
  obtain ⟨hA, hB, hC, hD, hBL, hszD, hszA, hszB, hszC⟩ := box4 hwA hwB hwC hwD
  have HB := hid hBL
  have HPA := hid hA
  have HPB := hid hB
  have HPC := hid hC
  have HPD := hid hD
  clear hA hB hC hD hBL
  go_enter Try.func3, Try.ntmps3
  go_wp2_with (first
    | (go_at_call 7; refine (HB1.out _ HB.out).mono ?_; rintro e w1 ⟨rfl, hb⟩; replace HPA := hid (HPA.out.below hb HPA.out.lt); replace HPB := hid (HPB.out.below hb HPB.out.lt); replace HPC := hid (HPC.out.below hb HPC.out.lt); replace HPD := hid (HPD.out.below hb HPD.out.lt); replace HB := hid (HB.out.trans (hb.mono HB.out.size)); obtain ⟨wT1, hwT1⟩ : ∃ wT, w1.alloc (.cells #[.int .i64 lx, .int .i64 ly] 24) = wT := ⟨_, rfl⟩; obtain ⟨wU1, hwU1⟩ : ∃ wU, wT1.alloc (.cells #[.int .i64 hx, .int .i64 hy] 24) = wU := ⟨_, rfl⟩; obtain ⟨g1, g2, g3, g4, g5⟩ := box2 hwT1 hwU1; replace HPA := hid (HPA.out.below g3 HPA.out.lt); replace HPB := hid (HPB.out.below g3 HPB.out.lt); replace HPC := hid (HPC.out.below g3 HPC.out.lt); replace HPD := hid (HPD.out.below g3 HPD.out.lt); replace HB := hid (HB.out.trans (g3.mono HB.out.size)); have HL := hid g1; have HH := hid g2; obtain ⟨B1, hB1⟩ : ∃ B, w1.heap.size = B := ⟨_, rfl⟩; rw [hB1] at HL HH g5; clear g1 g2 g3 g4 hb HB1)
    | (go_at_call 8; refine (HB2.out _ HB.out).mono ?_; rintro e w2 ⟨rfl, hb⟩; replace HPA := hid (HPA.out.below hb HPA.out.lt); replace HPB := hid (HPB.out.below hb HPB.out.lt); replace HPC := hid (HPC.out.below hb HPC.out.lt); replace HPD := hid (HPD.out.below hb HPD.out.lt); replace HL := hid (HL.out.below hb HL.out.lt); replace HH := hid (HH.out.below hb HH.out.lt); replace HB := hid (HB.out.trans (hb.mono HB.out.size)); obtain ⟨wT2, hwT2⟩ : ∃ wT, w2.alloc (.cells #[.int .i64 lx, .int .i64 ly] 24) = wT := ⟨_, rfl⟩; obtain ⟨wU2, hwU2⟩ : ∃ wU, wT2.alloc (.cells #[.int .i64 hx, .int .i64 hy] 24) = wU := ⟨_, rfl⟩; obtain ⟨g1, g2, g3, g4, g5⟩ := box2 hwT2 hwU2; replace HPA := hid (HPA.out.below g3 HPA.out.lt); replace HPB := hid (HPB.out.below g3 HPB.out.lt); replace HPC := hid (HPC.out.below g3 HPC.out.lt); replace HPD := hid (HPD.out.below g3 HPD.out.lt); replace HL := hid (HL.out.below g3 HL.out.lt); replace HH := hid (HH.out.below g3 HH.out.lt); replace HB := hid (HB.out.trans (g3.mono HB.out.size)); have HX := hid g1; have HY := hid g2; obtain ⟨B2, hB2⟩ : ∃ B, w2.heap.size = B := ⟨_, rfl⟩; rw [hB2] at HX HY g5; clear g1 g2 g3 g4 hb HB2))
  have kHPA0 := cell_regrown HPA.out.c0; have kHPA1 := cell_regrown HPA.out.c1
  have kHPB0 := cell_regrown HPB.out.c0; have kHPB1 := cell_regrown HPB.out.c1
  have kHPC0 := cell_regrown HPC.out.c0; have kHPC1 := cell_regrown HPC.out.c1
  have kHPD0 := cell_regrown HPD.out.c0; have kHPD1 := cell_regrown HPD.out.c1
  have kHL0 := cell_regrown HL.out.c0; have kHL1 := cell_regrown HL.out.c1
  have kHH0 := cell_regrown HH.out.c0; have kHH1 := cell_regrown HH.out.c1
  have kHX0 := cell_regrown HX.out.c0; have kHX1 := cell_regrown HX.out.c1
  have kHY0 := cell_regrown HY.out.c0; have kHY1 := cell_regrown HY.out.c1
  have m1 := fun d os => HM1.out (grow (redrawn wU2 d) os)
  have m2 := fun d os => HM2.out (grow (redrawn wU2 d) os)
  have m3 := fun d os => HM3.out (grow (redrawn wU2 d) os)
  have aw := fun d os => awake_any (grow (redrawn wU2 d) os)
  refine wp_region_quiet_below (by kernel_rfl) (by kernel_rfl) ?_
  go_big_quiet_step (fail)
  go_big_quiet_step (fail)
  go_big_quiet_step (fail)
  go_big_quiet_step (fail)
  go_big_quiet_step (fail)
  go_big_quiet_step (fail)
  go_big_quiet_step (fail)
  go_big_quiet_step (fail)
  go_big_quiet_step (fail)
  go_big_quiet_step (fail)
  go_big_quiet_step (fail)
  go_big_quiet_step (fail)
  go_big_quiet_step (fail)
  go_big_quiet_step (fail)
  go_big_quiet_step (fail)
  go_big_quiet_step (fail)
  go_big_quiet_step (fail)
  go_big_quiet_step (fail)
  go_big_quiet_step (exact Calls.regrown_of (m1 _ _))
  go_big_quiet_step (fail)
  go_big_quiet_step (fail)
  go_big_quiet_step (fail)
  go_big_quiet_step (fail)
  go_big_quiet_step (exact Calls.regrown_of (m2 _ _))
  go_big_quiet_step (fail)
  go_big_quiet_step (fail)
  go_big_quiet_step (fail)
  go_big_quiet_step (fail)
  go_big_quiet_step (fail)
  go_big_quiet_step (fail)
  go_big_quiet_step (fail)
  go_big_quiet_step (exact Calls.regrown_of (m3 _ _))
  go_big_quiet_step (fail)
  go_big_quiet_step (fail)
  go_big_quiet_step (fail)
  go_big_quiet_step (fail)
  go_big_quiet_step (exact Calls.regrown_of (m1 _ _))
  go_big_quiet_step (fail)
  go_big_quiet_step (fail)
  go_big_quiet_step (fail)
  go_big_quiet_step (exact Calls.regrown_of (aw _ _))
  go_big_quiet_step (fail)
  go_big_quiet_step (fail)
  refine wpQuiet_nil ?_
  intro W hW'
  obtain ⟨⟨dq, osq⟩, hW⟩ := hW'
  have hb : Below wU2.heap.size wU2 W := by rw [hW]; exact below_regrown _ _ _
  clear hW
  replace HB := hid (HB.out.trans (hb.mono HB.out.size))
  clear hb kHPA0 kHPA1 kHPB0 kHPB1 kHPC0 kHPC1 kHPD0 kHPD1 kHL0 kHL1 kHH0 kHH1 kHX0 kHX1 kHY0 kHY1 m1 m2 m3 aw
  go_wp2
  go_ret
  exact ⟨rfl, HB.out⟩

theorem ovl_comm (al ah bl bh : Int) : ovl bl bh al ah = ovl al ah bl bh := by
  by_cases h : al ≤ ah ∧ al ≤ bh ∧ bl ≤ ah ∧ bl ≤ bh
  · rw [ovl_true h, ovl_true (by omega)]
  · rw [ovl_false h, ovl_false (by omega)]
theorem Pts.below {w w' : World} {v : Value} {ps : List (Int × Int)} (h : Pts w v ps) (hb : Below w.heap.size w w') : Pts w' v ps := by
  obtain ⟨a, cap, hv, hx⟩ := h
  refine ⟨a, cap, hv, fun h1 => ?_⟩
  obtain ⟨b, off, ha, hc⟩ := hx h1
  refine ⟨b, off, ha, fun k p hk => ?_⟩
  obtain ⟨z0, z1⟩ := hc k p hk
  have hbb : b < w.heap.size := World.block_lt_of_cell? w _ z0
  exact ⟨(hb.cell (p := ⟨b, off + k * 2, none⟩) hbb).trans z0, (hb.cell (p := ⟨b, off + k * 2 + 1, none⟩) hbb).trans z1⟩

theorem ptBoxes_walk (w : World) (v : Value) (ps : List (Int × Int)) (hp : Pts w v ps) (_ : ps.length ≤ 140737488355328)
    (ax ay : Int) (_ : -9223372036854775808 ≤ ax ∧ ax ≤ 9223372036854775807) (_ : -9223372036854775808 ≤ ay ∧ ay ≤ 9223372036854775807)
    (bx by' : Int) (_ : -9223372036854775808 ≤ bx ∧ bx ≤ 9223372036854775807) (_ : -9223372036854775808 ≤ by' ∧ by' ≤ 9223372036854775807)
    (cx cy : Int) (_ : -9223372036854775808 ≤ cx ∧ cx ≤ 9223372036854775807) (_ : -9223372036854775808 ≤ cy ∧ cy ≤ 9223372036854775807)
    (dx dy : Int) (_ : -9223372036854775808 ≤ dx ∧ dx ≤ 9223372036854775807) (_ : -9223372036854775808 ≤ dy ∧ dy ≤ 9223372036854775807) :
    Calls Try.prog 3 #[v, pv ax ay, pv bx by', pv cx cy, pv dx dy] w fun e w' => e = .returned (.bool true) ∧ Below w.heap.size w w' := by
  have hp' := hp
  obtain ⟨a, cap, rfl, -⟩ := hp'
  by_cases hn : (100 : Int) < (ps.length : Int)
  · exact ptBoxes_long w a _ cap ax ay bx by' cx cy dx dy hn
  · have HM3 := hid (fun W => meet_any cx cy dx dy ax ay bx by' W)
    rw [ovl_comm (near ax), ovl_comm (near ay)] at HM3
    exact ptBoxes_short w a _ cap ax ay bx by' cx cy dx dy _ _ _ _ _ _ hn (hid fun W hb => box_any _ ps W (hp.below hb) (by omega)) (hid fun W hb => refBox_any _ ps W (hp.below hb) (by omega)) (hid fun W => meet_any ax ay bx by' cx cy dx dy W) (hid fun W => refMeet_any ax ay bx by' cx cy dx dy W) HM3
end Go.Proofs.Ytnfhnoacdmhlfab
