/-
  TurnCompares, given what turn answers.
-/
import Derived.Test.YtccbjohiaboipaaTLaw
namespace Go.Proofs.Ytccbjohiaboipaa
open Go.RowKit Go.Sort

/-- Three directions in a slice. -/
def Tri (W : World) (b off : Nat) (x0 x1 y0 y1 z0 z1 : Int) : Prop :=
  W.cell? ⟨b, off, none⟩ = some (.int .i64 x0) ∧ W.cell? ⟨b, off + 1, none⟩ = some (.int .i64 x1) ∧ W.cell? ⟨b, off + 2, none⟩ = some (.int .i64 y0) ∧ W.cell? ⟨b, off + 3, none⟩ = some (.int .i64 y1) ∧ W.cell? ⟨b, off + 4, none⟩ = some (.int .i64 z0) ∧ W.cell? ⟨b, off + 5, none⟩ = some (.int .i64 z1)
theorem Tri.below {W W' : World} {b off : Nat} {x0 x1 y0 y1 z0 z1 : Int} (h : Tri W b off x0 x1 y0 y1 z0 z1) (hb : Below W.heap.size W W') : Tri W' b off x0 x1 y0 y1 z0 z1 :=
  ⟨cell_below h.1 hb (lt_of_cell h.1), cell_below h.2.1 hb (lt_of_cell h.1), cell_below h.2.2.1 hb (lt_of_cell h.1), cell_below h.2.2.2.1 hb (lt_of_cell h.1), cell_below h.2.2.2.2.1 hb (lt_of_cell h.1), cell_below h.2.2.2.2.2 hb (lt_of_cell h.1)⟩
theorem Pts.tri {W : World} {v : Value} {x0 x1 y0 y1 z0 z1 : Int} (h : Pts W v [(x0, x1), (y0, y1), (z0, z1)]) : ∃ b off cap, v = .slice (some ⟨b, off, none⟩) 3 cap ∧ Tri W b off x0 x1 y0 y1 z0 z1 := by
  obtain ⟨a, cap, rfl, hx⟩ := h
  obtain ⟨b, off, rfl, hc⟩ := hx (by simp)
  obtain ⟨a0, a1⟩ := hc 0 (x0, x1) rfl
  obtain ⟨b0, b1⟩ := hc 1 (y0, y1) rfl
  obtain ⟨c0, c1⟩ := hc 2 (z0, z1) rfl
  exact ⟨b, off, cap, rfl, a0, a1, b0, b1, c0, c1⟩

set_option maxHeartbeats 6400000 in
theorem turnCompares_core (H : TurnC) (w : World) (x0 x1 y0 y1 z0 z1 p0 p1 q0 q1 K M N : Int) (S0 S1 : Int) (S2 : Bool) (BB : Bool) (h64x : P64 (x0, x1)) (h64y : P64 (y0, y1)) (h64z : P64 (z0, z1)) (h64p : P64 (p0, p1)) (h64q : P64 (q0, q1))
    (HK : Hid (cmpD (x0, x1) (y0, y1) = K)) (HM : Hid (cmpD (y0, y1) (z0, z1) = M)) (HN : Hid (cmpD (x0, x1) (z0, z1) = N)) (HS : Hid (ofD (near p0, near p1) (near q0, near q1) = ((S0, S1), S2))) (HBB : Hid (betwD (x0, x1) (y0, y1) (z0, z1) = BB)) :
    Calls Try.prog 4 #[pv x0 x1, pv y0 y1, pv z0 z1, pv p0 p1, pv q0 q1] w fun e w' => e = .returned (.bool true) ∧ Below w.heap.size w w' := by
  have hKi := cmpD_in (x0, x1) (y0, y1)
  have HANTI := hid (show cmpD (y0, y1) (x0, x1) = -K by rw [cmpD_anti (x0, x1) (y0, y1), HK.out])
  have HTR := hid (fun h1 h2 => cmpD_trans (x0, x1) (y0, y1) (z0, z1) h1 h2)
  have HSA := hid (fun h1 => cmpD_same (x0, x1) (y0, y1) (z0, z1) h1)
  rw [HK.out] at hKi HTR HSA
  rw [HM.out] at HTR HSA
  rw [HN.out] at HTR HSA
  have C1 := hid (fun W => H.cmp x0 x1 y0 y1 W h64x h64y)
  have C2 := hid (fun W => refCmp_any x0 x1 y0 y1 W)
  have C3 := hid (fun W => H.cmp y0 y1 x0 x1 W h64y h64x)
  have C4 := hid (fun W => H.half x0 x1 W h64x)
  have C5 := hid (fun W => refHalf_any x0 x1 W)
  have C6 := hid (fun W => H.cmp y0 y1 z0 z1 W h64y h64z)
  have C7 := hid (fun W => H.cmp x0 x1 z0 z1 W h64x h64z)
  have C8 := hid (fun W => H.of p0 p1 q0 q1 W h64p h64q)
  have C9 := hid (fun W => refOf_any p0 p1 q0 q1 W)
  have C10 := hid (fun W => H.betw x0 x1 y0 y1 z0 z1 W h64x h64y h64z)
  have C11 := hid (fun W => refBetween_any x0 x1 y0 y1 z0 z1 W)
  simp only [HK.out] at C1 C2
  simp only [HANTI.out] at C3
  simp only [HM.out] at C6
  simp only [HN.out] at C7
  simp only [HS.out] at C8 C9
  simp only [HBB.out] at C10 C11
  generalize halfD (x0, x1) = HX at *
  clear HK HM HN HS HBB HANTI h64x h64y h64z h64p h64q
  obtain ⟨wA, hwA⟩ : ∃ wA, w.alloc (.cells #[.int .i64 x0, .int .i64 x1] 30) = wA := ⟨_, rfl⟩
  obtain ⟨wB, hwB⟩ : ∃ wB, wA.alloc (.cells #[.int .i64 y0, .int .i64 y1] 30) = wB := ⟨_, rfl⟩
  obtain ⟨wC, hwC⟩ : ∃ wC, wB.alloc (.cells #[.int .i64 z0, .int .i64 z1] 30) = wC := ⟨_, rfl⟩
  obtain ⟨wD, hwD⟩ : ∃ wD, wC.alloc (.cells #[.int .i64 p0, .int .i64 p1] 30) = wD := ⟨_, rfl⟩
  obtain ⟨hA, hB, hC, hD, hBL, hszD, hszA, hszB, hszC⟩ := box4 hwA hwB hwC hwD
  obtain ⟨wE, hwE⟩ : ∃ wE, wD.alloc (.cells #[.int .i64 q0, .int .i64 q1] 30) = wE := ⟨_, rfl⟩
  have hszE : wE.heap.size = w.heap.size + 5 := by rw [← hwE]; simp [hszD]
  have hE : Pt wE (w.heap.size + 4) q0 q1 := by rw [← hwE, ← hszD]; exact Pt.new wD _ _
  replace hA : Pt wE w.heap.size x0 x1 := by rw [← hwE]; exact hA.alloc _
  replace hB : Pt wE (w.heap.size + 1) y0 y1 := by rw [← hwE]; exact hB.alloc _
  replace hC : Pt wE (w.heap.size + 2) z0 z1 := by rw [← hwE]; exact hC.alloc _
  replace hD : Pt wE (w.heap.size + 3) p0 p1 := by rw [← hwE]; exact hD.alloc _
  have hBE : Below w.heap.size w wE := by rw [← hwE]; exact hBL.alloc (by omega) _
  obtain ⟨wF, hwF⟩ : ∃ wF, wE.alloc (.cells #[.int .i64 x0, .int .i64 x1, .int .i64 y0, .int .i64 y1, .int .i64 z0, .int .i64 z1] 30) = wF := ⟨_, rfl⟩
  have hPF : Pts wF (.slice (some ⟨w.heap.size + 5, 0, none⟩) 3 3) [(x0, x1), (y0, y1), (z0, z1)] := by rw [← hwF, ← hszE]; exact tri_new _ wE _ _ _ _ _ _
  have HPF := hid hPF
  have HD := hid (show Pt wF (w.heap.size + 3) p0 p1 by rw [← hwF]; exact hD.alloc _)
  have HE := hid (show Pt wF (w.heap.size + 4) q0 q1 by rw [← hwF]; exact hE.alloc _)
  have HB := hid (show Below w.heap.size w wF by rw [← hwF]; exact hBE.alloc (by omega) _)
  have a0 := hA.c0; have a1 := hA.c1; have b0 := hB.c0; have b1 := hB.c1; have c0 := hC.c0; have c1 := hC.c1
  clear hA hB hC hD hE hBL hBE hPF
  go_enter Try.func4, Try.ntmps4
  go_wp2_with (go_at_call 12; refine (dirs_any _ _ wF HPF.out (by simp)).mono ?_; rintro e w1 ⟨va, vb, rfl, hra, hrb, hb1⟩; replace HB := hid (HB.out.trans (hb1.mono HB.out.size)); replace HD := hid (HD.out.below hb1 HD.out.lt); replace HE := hid (HE.out.below hb1 HE.out.lt); obtain ⟨ba, oa, ca, rfl, hta⟩ := hra.pts.tri; obtain ⟨bb, ob, cb, rfl, htb⟩ := hrb.pts.tri; have HTA := hid hta; have HTB := hid htb; clear hra hrb hb1 HPF hta htb)
  have ka0 := cell_regrown HTA.out.1
  have ka1 := cell_regrown HTA.out.2.1
  have ka2 := cell_regrown HTA.out.2.2.1
  have ka3 := cell_regrown HTA.out.2.2.2.1
  have ka4 := cell_regrown HTA.out.2.2.2.2.1
  have ka5 := cell_regrown HTA.out.2.2.2.2.2
  have kb0 := cell_regrown HTB.out.1
  have kb1 := cell_regrown HTB.out.2.1
  have kb2 := cell_regrown HTB.out.2.2.1
  have kb3 := cell_regrown HTB.out.2.2.2.1
  have kb4 := cell_regrown HTB.out.2.2.2.2.1
  have kb5 := cell_regrown HTB.out.2.2.2.2.2
  have e1 := fun d os => C1.out (grow (redrawn w1 d) os)
  refine wp_region_quiet_below (by kernel_rfl) (by kernel_rfl) ?_
  go_big_quiet_step (fail)
  go_big_quiet_step (fail)
  go_big_quiet_step (fail)
  go_big_quiet_step (fail)
  go_big_quiet_step (fail)
  go_big_quiet_step (fail)
  go_big_quiet_step (exact Calls.regrown_of (e1 _ _))
  go_big_quiet_step (fail)
  refine wpQuiet_nil ?_
  intro W2 hW2'
  obtain ⟨⟨dA, oA⟩, hW2⟩ := hW2'
  have hbA : Below w1.heap.size w1 W2 := by rw [hW2]; exact below_regrown _ _ _
  replace HTA := hid (HTA.out.below hbA)
  replace HTB := hid (HTB.out.below hbA)
  replace HD := hid (HD.out.below hbA HD.out.lt)
  replace HE := hid (HE.out.below hbA HE.out.lt)
  replace HB := hid (HB.out.trans (hbA.mono HB.out.size))
  clear hW2 hbA ka0 ka1 ka2 ka3 ka4 ka5 kb0 kb1 kb2 kb3 kb4 kb5 e1
  go_wp2
  have ka0 := cell_regrown HTA.out.1
  have ka1 := cell_regrown HTA.out.2.1
  have ka2 := cell_regrown HTA.out.2.2.1
  have ka3 := cell_regrown HTA.out.2.2.2.1
  have ka4 := cell_regrown HTA.out.2.2.2.2.1
  have ka5 := cell_regrown HTA.out.2.2.2.2.2
  have kb0 := cell_regrown HTB.out.1
  have kb1 := cell_regrown HTB.out.2.1
  have kb2 := cell_regrown HTB.out.2.2.1
  have kb3 := cell_regrown HTB.out.2.2.2.1
  have kb4 := cell_regrown HTB.out.2.2.2.2.1
  have kb5 := cell_regrown HTB.out.2.2.2.2.2
  have e2 := fun d os => C2.out (grow (redrawn W2 d) os)
  have e3 := fun d os => C3.out (grow (redrawn W2 d) os)
  have e4 := fun d os => C4.out (grow (redrawn W2 d) os)
  have e5 := fun d os => C5.out (grow (redrawn W2 d) os)
  refine wp_region_quiet_below (by kernel_rfl) (by kernel_rfl) ?_
  go_big_quiet_step (fail)
  go_big_quiet_step (fail)
  go_big_quiet_step (fail)
  go_big_quiet_step (fail)
  go_big_quiet_step (fail)
  go_big_quiet_step (fail)
  go_big_quiet_step (fail)
  go_big_quiet_step (exact Calls.regrown_of (e2 _ _))
  go_big_quiet_step (fail)
  go_big_quiet_step (fail)
  go_big_quiet_step (fail)
  go_big_quiet_step (fail)
  go_big_quiet_step (fail)
  go_big_quiet_step (fail)
  go_big_quiet_step (fail)
  go_big_quiet_step (fail)
  go_big_quiet_step (exact Calls.regrown_of (e3 _ _))
  go_big_quiet_step (fail)
  go_big_quiet_step (fail)
  go_big_quiet_step (fail)
  go_big_quiet_step (fail)
  go_big_quiet_step (fail)
  go_big_quiet_step (fail)
  go_big_quiet_step (fail)
  go_big_quiet_step (fail)
  go_big_quiet_step (exact Calls.regrown_of (e4 _ _))
  go_big_quiet_step (fail)
  go_big_quiet_step (fail)
  go_big_quiet_step (fail)
  go_big_quiet_step (exact Calls.regrown_of (e5 _ _))
  go_big_quiet_step (fail)
  go_big_quiet_step (fail)
  refine wpQuiet_nil ?_
  intro W3 hW3'
  obtain ⟨⟨dB, oB⟩, hW3⟩ := hW3'
  have hbB : Below W2.heap.size W2 W3 := by rw [hW3]; exact below_regrown _ _ _
  replace HTA := hid (HTA.out.below hbB)
  replace HTB := hid (HTB.out.below hbB)
  replace HD := hid (HD.out.below hbB HD.out.lt)
  replace HE := hid (HE.out.below hbB HE.out.lt)
  replace HB := hid (HB.out.trans (hbB.mono HB.out.size))
  clear hW3 hbB ka0 ka1 ka2 ka3 ka4 ka5 kb0 kb1 kb2 kb3 kb4 kb5 e2 e3 e4 e5
  go_wp2
  have ka0 := cell_regrown HTA.out.1
  have ka1 := cell_regrown HTA.out.2.1
  have ka2 := cell_regrown HTA.out.2.2.1
  have ka3 := cell_regrown HTA.out.2.2.2.1
  have ka4 := cell_regrown HTA.out.2.2.2.2.1
  have ka5 := cell_regrown HTA.out.2.2.2.2.2
  have kb0 := cell_regrown HTB.out.1
  have kb1 := cell_regrown HTB.out.2.1
  have kb2 := cell_regrown HTB.out.2.2.1
  have kb3 := cell_regrown HTB.out.2.2.2.1
  have kb4 := cell_regrown HTB.out.2.2.2.2.1
  have kb5 := cell_regrown HTB.out.2.2.2.2.2
  have e6 := fun d os => C6.out (grow (redrawn W3 d) os)
  have e7 := fun d os => C7.out (grow (redrawn W3 d) os)
  refine wp_region_quiet_below (by kernel_rfl) (by kernel_rfl) ?_
  go_big_quiet_step (fail)
  go_big_quiet_step (fail)
  go_big_quiet_step (fail)
  go_big_quiet_step (fail)
  go_big_quiet_step (fail)
  go_big_quiet_step (fail)
  go_big_quiet_step (exact Calls.regrown_of (e6 _ _))
  go_big_quiet_step (fail)
  go_big_quiet_step (fail)
  go_big_quiet_step (fail)
  go_big_quiet_step (fail)
  go_big_quiet_step (fail)
  go_big_quiet_step (fail)
  go_big_quiet_step (exact Calls.regrown_of (e7 _ _))
  go_big_quiet_step (fail)
  go_big_quiet_step (fail)
  refine wpQuiet_nil ?_
  intro W4 hW4'
  obtain ⟨⟨dC, oC⟩, hW4⟩ := hW4'
  have hbC : Below W3.heap.size W3 W4 := by rw [hW4]; exact below_regrown _ _ _
  replace HTA := hid (HTA.out.below hbC)
  replace HTB := hid (HTB.out.below hbC)
  replace HD := hid (HD.out.below hbC HD.out.lt)
  replace HE := hid (HE.out.below hbC HE.out.lt)
  replace HB := hid (HB.out.trans (hbC.mono HB.out.size))
  clear hW4 hbC ka0 ka1 ka2 ka3 ka4 ka5 kb0 kb1 kb2 kb3 kb4 kb5 e6 e7
  have d0 := HD.out.c0; have d1 := HD.out.c1; have e0 := HE.out.c0; have e1 := HE.out.c1
  have hcase : (decide (0 < K) = true ∧ (K != 0) = true) ∨ (decide (0 < K) = false ∧ (K != 0) = false ∧ decide (0 < M) = true ∧ (M == N) = true) ∨ (decide (0 < K) = false ∧ (K != 0) = false ∧ decide (0 < M) = false ∧ decide (N ≤ 0) = true ∧ (M == N) = true) ∨ (decide (0 < K) = false ∧ (K != 0) = true ∧ decide (0 < M) = true) ∨ (decide (0 < K) = false ∧ (K != 0) = true ∧ decide (0 < M) = false ∧ decide (N ≤ 0) = true) := by
    have h1 := HTR.out
    have h2 := HSA.out
    simp only [decide_eq_true_eq, decide_eq_false_iff_not, beq_iff_eq, bne_iff_ne, bne_eq_false_iff_eq, ne_eq]
    omega
  clear HTR HSA
  go_wp2_with (first
    | (go_at_call 16; refine (C8.out _).mono ?_; rintro e w5 ⟨rfl, hb5⟩; replace HTA := hid (HTA.out.below hb5); replace HTB := hid (HTB.out.below hb5); replace HB := hid (HB.out.trans (hb5.mono HB.out.size)); replace HD := hid (HD.out.below hb5 HD.out.lt); replace HE := hid (HE.out.below hb5 HE.out.lt); obtain ⟨wN5, hwN5⟩ : ∃ wN, w5.alloc (.cells #[.int .i64 S0, .int .i64 S1] 24) = wN := ⟨_, rfl⟩; have HU := hid (show Dt 24 wN5 w5.heap.size S0 S1 by rw [← hwN5]; exact Dt.new _ w5 _ _); have hbn5 : Below w5.heap.size w5 wN5 := (by rw [← hwN5]; exact (Below.refl _ w5).alloc (Nat.le_refl _) _); obtain ⟨BU, hBU⟩ : ∃ B, w5.heap.size = B := ⟨_, rfl⟩; rw [hBU] at HU; replace HTA := hid (HTA.out.below hbn5); replace HTB := hid (HTB.out.below hbn5); replace HB := hid (HB.out.trans (hbn5.mono HB.out.size)); replace HD := hid (HD.out.below hbn5 HD.out.lt); replace HE := hid (HE.out.below hbn5 HE.out.lt); have hd05 := HD.out.c0; have hd15 := HD.out.c1; have he05 := HE.out.c0; have he15 := HE.out.c1; have hu05 := HU.out.c0; have hu15 := HU.out.c1; clear hb5 hbn5 C8)
    | (go_at_call 17; refine (C9.out _).mono ?_; rintro e w6 ⟨rfl, hb6⟩; replace HTA := hid (HTA.out.below hb6); replace HTB := hid (HTB.out.below hb6); replace HB := hid (HB.out.trans (hb6.mono HB.out.size)); replace HU := hid (HU.out.below hb6 HU.out.lt); obtain ⟨wN6, hwN6⟩ : ∃ wN, w6.alloc (.cells #[.int .i64 S0, .int .i64 S1] 37) = wN := ⟨_, rfl⟩; have HV := hid (show Dt 37 wN6 w6.heap.size S0 S1 by rw [← hwN6]; exact Dt.new _ w6 _ _); have hbn6 : Below w6.heap.size w6 wN6 := (by rw [← hwN6]; exact (Below.refl _ w6).alloc (Nat.le_refl _) _); obtain ⟨BV, hBV⟩ : ∃ B, w6.heap.size = B := ⟨_, rfl⟩; rw [hBV] at HV; replace HTA := hid (HTA.out.below hbn6); replace HTB := hid (HTB.out.below hbn6); replace HB := hid (HB.out.trans (hbn6.mono HB.out.size)); replace HU := hid (HU.out.below hbn6 HU.out.lt); have hu06 := HU.out.c0; have hu16 := HU.out.c1; have hv06 := HV.out.c0; have hv16 := HV.out.c1; have ta06 := HTA.out.1; have ta16 := HTA.out.2.1; have ta26 := HTA.out.2.2.1; have ta36 := HTA.out.2.2.2.1; have ta46 := HTA.out.2.2.2.2.1; have ta56 := HTA.out.2.2.2.2.2; have tb06 := HTB.out.1; have tb16 := HTB.out.2.1; have tb26 := HTB.out.2.2.1; have tb36 := HTB.out.2.2.2.1; have tb46 := HTB.out.2.2.2.2.1; have tb56 := HTB.out.2.2.2.2.2; clear hb6 hbn6 C9))
  have ku0 := cell_regrown HU.out.c0; have ku1 := cell_regrown HU.out.c1; have kv0 := cell_regrown HV.out.c0; have kv1 := cell_regrown HV.out.c1
  have ka0 := cell_regrown HTA.out.1
  have ka1 := cell_regrown HTA.out.2.1
  have ka2 := cell_regrown HTA.out.2.2.1
  have ka3 := cell_regrown HTA.out.2.2.2.1
  have ka4 := cell_regrown HTA.out.2.2.2.2.1
  have ka5 := cell_regrown HTA.out.2.2.2.2.2
  have kb0 := cell_regrown HTB.out.1
  have kb1 := cell_regrown HTB.out.2.1
  have kb2 := cell_regrown HTB.out.2.2.1
  have kb3 := cell_regrown HTB.out.2.2.2.1
  have kb4 := cell_regrown HTB.out.2.2.2.2.1
  have kb5 := cell_regrown HTB.out.2.2.2.2.2
  have e10 := fun d os => C10.out (grow (redrawn wN6 d) os)
  have e11 := fun d os => C11.out (grow (redrawn wN6 d) os)
  have e12 := fun d os => turnAwake_any H (grow (redrawn wN6 d) os)
  rcases hcase with ⟨f1, f2⟩ | ⟨f1, f2, f3, f5⟩ | ⟨f1, f2, f3, f4, f5⟩ | ⟨f1, f2, f3⟩ | ⟨f1, f2, f3, f4⟩ <;> cases S2 <;> (
    refine wp_region_quiet_below (by kernel_rfl) (by kernel_rfl) ?_
    simp only [List.append]
    go_big_quiet_step (fail)
    go_big_quiet_step (fail)
    go_big_quiet_step (fail)
    go_big_quiet_step (fail)
    go_big_quiet_step (fail)
    go_big_quiet_step (fail)
    go_big_quiet_step (fail)
    go_big_quiet_step (fail)
    go_big_quiet_step (fail)
    go_big_quiet_step (fail)
    go_big_quiet_step (fail)
    go_big_quiet_step (fail)
    go_big_quiet_step (fail)
    go_big_quiet_step (fail)
    go_big_quiet_step (fail)
    go_big_quiet_step (fail)
    go_big_quiet_step (fail)
    go_big_quiet_step (fail)
    go_big_quiet_step (fail)
    go_big_quiet_step (fail)
    go_big_quiet_step (fail)
    go_big_quiet_step (fail)
    go_big_quiet_step (fail)
    go_big_quiet_step (fail)
    go_big_quiet_step (fail)
    go_big_quiet_step (fail)
    go_big_quiet_step (fail)
    go_big_quiet_step (fail)
    go_big_quiet_step (fail)
    go_big_quiet_step (fail)
    go_big_quiet_step (fail)
    go_big_quiet_step (fail)
    go_big_quiet_step (fail)
    go_big_quiet_step (fail)
    go_big_quiet_step (fail)
    go_big_quiet_step (fail)
    go_big_quiet_step (fail)
    go_big_quiet_step (fail)
    go_big_quiet_step (fail)
    go_big_quiet_step (fail)
    go_big_quiet_step (fail)
    go_big_quiet_step (fail)
    go_big_quiet_step (fail)
    go_big_quiet_step (fail)
    go_big_quiet_step (fail)
    go_big_quiet_step (fail)
    go_big_quiet_step (fail)
    go_big_quiet_step (fail)
    go_big_quiet_step (fail)
    go_big_quiet_step (fail)
    go_big_quiet_step (fail)
    go_big_quiet_step (fail)
    go_big_quiet_step (exact Calls.regrown_of (e10 _ _))
    go_big_quiet_step (fail)
    go_big_quiet_step (fail)
    go_big_quiet_step (fail)
    go_big_quiet_step (fail)
    go_big_quiet_step (fail)
    go_big_quiet_step (fail)
    go_big_quiet_step (fail)
    go_big_quiet_step (fail)
    go_big_quiet_step (fail)
    go_big_quiet_step (exact Calls.regrown_of (e11 _ _))
    go_big_quiet_step (fail)
    go_big_quiet_step (fail)
    go_big_quiet_step (fail)
    go_big_quiet_step (exact Calls.regrown_of (e12 _ _))
    go_big_quiet_step (fail)
    go_big_quiet_step (fail)
    refine wpQuiet_nil ?_
    intro W7 hW7'
    obtain ⟨⟨d7, o7⟩, hW7⟩ := hW7'
    have hb7 : Below wN6.heap.size wN6 W7 := by rw [hW7]; exact below_regrown _ _ _
    replace HB := hid (HB.out.trans (hb7.mono HB.out.size))
    clear hW7 hb7 ku0 ku1 kv0 kv1 e10 e11 e12 ka0 ka1 ka2 ka3 ka4 ka5 kb0 kb1 kb2 kb3 kb4 kb5
    go_wp2
    go_ret
    exact ⟨rfl, HB.out⟩)
end Go.Proofs.Ytccbjohiaboipaa
