/-
  line.At of any points, and ring's has and meets.
-/
import Derived.Test.YtepnjknblppfcaaMAt
import Derived.Test.YtepnjknblppfcaaERayB
import Derived.Test.YtepnjknblppfcaaRRefB
namespace Go.Proofs.Ytepnjknblppfcaa
open Go.RowKit Go.Sort

/-- Is p on the segment, and in its box as it was told? -/
def hasP (a b p : Pp) : Bool := btw p.1 a.1 b.1 && btw p.2 a.2 b.2 && onP (near a.1) (near a.2) (near b.1) (near b.2) (near p.1) (near p.2)
def hasL (ps : List Pp) (p : Pp) (i : Nat) : Bool := hasP (lpt ps i) (lpt ps (i + 1)) p
def athL (ps : List Pp) (p : Pp) : Option Nat := (List.range (ps.length - 1)).find? (hasL ps p)
theorem athL_none {ps : List Pp} {p : Pp} (h : ∀ i, i < ps.length - 1 → hasL ps p i = false) : athL ps p = none := by
  unfold athL
  rw [List.find?_eq_none]
  intro i hi
  rw [h i (List.mem_range.1 hi)]
  decide
theorem athL_some {ps : List Pp} {p : Pp} {k : Nat} (hk : k < ps.length - 1) (h : hasL ps p k = true) (h0 : ∀ i, i < k → hasL ps p i = false) : athL ps p = some k := by
  unfold athL
  rw [List.find?_eq_some_iff_getElem]
  refine ⟨h, k, by simpa using hk, by simp, fun j hj => ?_⟩
  simp only [List.getElem_range, h0 j hj, Bool.not_false]

set_option maxHeartbeats 1600000 in
theorem lineAtH_any (v : Value) (ps : List Pp) (px py : Int) (w : World) (hp : Pts w v ps) (hl : ps.length ≤ 100000) :
    Calls Try.prog 30 #[v, pv px py] w fun e w' => e = .returned (.int .i64 (atI (athL ps (px, py)))) ∧ Below w.heap.size w w' := by
  have hp' := hp
  obtain ⟨a, cap, rfl, _⟩ := hp'
  have HP := hid hp
  obtain ⟨n, hn⟩ : ∃ n, ps.length = n := ⟨_, rfl⟩
  have HN := hid hn
  rw [hn] at hl HP ⊢
  obtain ⟨wA, hwA⟩ : ∃ wA, w.alloc (.cells #[.int .i64 px, .int .i64 py] 24) = wA := ⟨_, rfl⟩
  obtain ⟨hA, hBL, hszA⟩ := box1 hwA
  have HA := hid hA
  have HBL := hid hBL
  obtain ⟨N, hNN⟩ : ∃ N, n - 1 = N := ⟨_, rfl⟩
  have HNN := hid hNN
  have HS := hid (fun W => segments_any a n cap W hl)
  rw [hNN] at HS
  clear hNN
  clear hA hBL hp hn
  go_enter Try.func30, Try.ntmps30
  go_wp2_with (go_at_call 41; refine (HS.out _).mono ?_; rintro e w1 ⟨rfl, hb1⟩; have HB1 := hid hb1; clear hb1)
  go_loopw [8] (fun iv wr => ∃ k : Nat, k ≤ N ∧ iv = .int .i64 k ∧ (∀ i, i < k → hasL ps (px, py) i = false) ∧ Below wA.heap.size wA wr) (fun iv _ => N - (intOf iv).toNat)
  case atStart => exact ⟨0, by omega, rfl, (fun i hi => absurd hi (Nat.not_lt_zero i)), HB1.out⟩
  case round =>
    obtain ⟨k, hk, rfl, hno, hbr⟩ := hrel
    clear HB1 HS
    have HNO := hid hno
    have HBR := hid hbr
    have HBW := hid (HBL.out.trans (hbr.mono HBL.out.size))
    have hA := HA.out.below hbr HA.out.lt
    by_cases hlt : k < N
    · have hkI : (k : Int) < (N : Int) := by omega
      have hkN : k + 1 < n := by have := HNN.out; omega
      have hkn : (k : Int) + 1 < (n : Int) := by omega
      have hkm : (k : Int) < (n : Int) := by omega
      obtain ⟨b, off, rfl, hc⟩ := (HP.out.below HBW.out).row (by rw [HN.out]; omega)
      obtain ⟨z0, z1⟩ := hc k (by rw [HN.out]; omega)
      obtain ⟨x0, x1⟩ := hc (k + 1) (by rw [HN.out]; omega)
      have y0 := cell_regrown z0; have y1 := cell_regrown z1; have u0 := cell_regrown x0; have u1 := cell_regrown x1; have a0 := cell_regrown hA.c0; have a1 := cell_regrown hA.c1
      have c1 := fun d os => lineHas_any (lpt ps k).1 (lpt ps k).2 (lpt ps (k + 1)).1 (lpt ps (k + 1)).2 px py (grow (redrawn wr d) os)
      have HON : Hid (hasL ps (px, py) k = (btw px (lpt ps k).1 (lpt ps (k + 1)).1 && btw py (lpt ps k).2 (lpt ps (k + 1)).2 && onP (near (lpt ps k).1) (near (lpt ps k).2) (near (lpt ps (k + 1)).1) (near (lpt ps (k + 1)).2) (near px) (near py))) := hid rfl
      generalize (lpt ps k).1 = X0 at *
      generalize (lpt ps k).2 = Y0 at *
      generalize (lpt ps (k + 1)).1 = X1 at *
      generalize (lpt ps (k + 1)).2 = Y1 at *
      generalize (btw px X0 X1 && btw py Y0 Y1 && onP (near X0) (near Y0) (near X1) (near Y1) (near px) (near py)) = O at *
      clear z0 z1 x0 x1 hc hA hbr hno
      cases O with
      | true =>
        go_wp2
        refine wp_region_quiet_below (by kernel_rfl) (by kernel_rfl) ?_
        go_big_quiet_step (fail)
        go_big_quiet_step (fail)
        go_big_quiet_step (fail)
        go_big_quiet_step (fail)
        go_big_quiet_step (fail)
        go_big_quiet_step (fail)
        go_big_quiet_step (fail)
        go_big_quiet_step (fail)
        go_big_quiet_step (fail)
        go_big_quiet_step (fail)
        go_big_quiet_step (exact Calls.regrown_of (c1 _ _))
        refine wpQuiet_nil ?_
        intro W1 hW'
        obtain ⟨⟨dq, osq⟩, hW⟩ := hW'
        have HW1 := hid (show Below wr.heap.size wr W1 by rw [hW]; exact below_regrown _ _ _)
        clear hW
        clear y0 y1 u0 u1 a0 a1 c1
        go_wp2
        go_ret
        refine ⟨?_, HBW.out.trans (HW1.out.mono HBW.out.size)⟩
        rw [athL_some (by rw [HN.out]; omega) HON.out HNO.out]
        rfl
      | false =>
        go_wp2
        refine wp_region_quiet_below (by kernel_rfl) (by kernel_rfl) ?_
        go_big_quiet_step (fail)
        go_big_quiet_step (fail)
        go_big_quiet_step (fail)
        go_big_quiet_step (fail)
        go_big_quiet_step (fail)
        go_big_quiet_step (fail)
        go_big_quiet_step (fail)
        go_big_quiet_step (fail)
        go_big_quiet_step (fail)
        go_big_quiet_step (fail)
        go_big_quiet_step (exact Calls.regrown_of (c1 _ _))
        refine wpQuiet_nil ?_
        intro W1 hW'
        obtain ⟨⟨dq, osq⟩, hW⟩ := hW'
        have HW1 := hid (show Below wr.heap.size wr W1 by rw [hW]; exact below_regrown _ _ _)
        clear hW
        clear y0 y1 u0 u1 a0 a1 c1
        go_wp2
        go_roundw
        case rel =>
          refine ⟨k + 1, by omega, by go_num, fun i hi => ?_, HBR.out.trans (HW1.out.mono HBR.out.size)⟩
          by_cases hik : i = k
          · rw [hik]; exact HON.out
          · exact HNO.out i (by omega)
        case measure => simp [intOf]; omega
    · have hkI : ¬ (k : Int) < (N : Int) := by omega
      clear hA hbr hno
      go_wp2
      go_ret
      refine ⟨?_, HBW.out⟩
      rw [athL_none (fun i hi => HNO.out i (by have := HNN.out; rw [HN.out] at hi; omega))]
      rfl

theorem src2 {W : World} {b : Nat} {x0 y0 x1 y1 : Int} (hh : W.heap[b]? = some (.cells #[.int .i64 x0, .int .i64 y0, .int .i64 x1, .int .i64 y1] 24)) : Src W (.slice (some ⟨b, 0, none⟩) 2 2) [(x0, y0), (x1, y1)] := by
  refine .inr ⟨b, 0, 2, rfl, Nat.le_refl _, fun k p hk => ?_⟩
  match k, hk with
  | 0, hk => simp at hk; subst hk; simp [World.cell?, hh]
  | 1, hk => simp at hk; subst hk; simp [World.cell?, hh]
  | k + 2, hk => simp at hk
theorem ath_two (a b p : Pp) : (atI (athL [a, b] p) == 0) = hasP a b p := by
  cases h : hasP a b p with
  | true => rw [athL_some (k := 0) (by show 0 < 1; decide) (show hasL [a, b] p 0 = true from h) (fun i hi => by omega)]; rfl
  | false => rw [athL_none (fun i hi => by have : i = 0 := by have : i < 1 := hi; omega
                                           subst this; exact h)]; rfl

set_option maxHeartbeats 1600000 in
theorem ringHas_any (ax ay bx by' px py : Int) (w : World) :
    Calls Try.prog 20 #[pv ax ay, pv bx by', pv px py] w fun e w' => e = .returned (.bool (hasP (ax, ay) (bx, by') (px, py))) ∧ Below w.heap.size w w' := by
  obtain ⟨wA, hwA⟩ : ∃ wA, w.alloc (.cells #[.int .i64 ax, .int .i64 ay] 24) = wA := ⟨_, rfl⟩
  obtain ⟨wB, hwB⟩ : ∃ wB, wA.alloc (.cells #[.int .i64 bx, .int .i64 by'] 24) = wB := ⟨_, rfl⟩
  obtain ⟨wC, hwC⟩ : ∃ wC, wB.alloc (.cells #[.int .i64 px, .int .i64 py] 24) = wC := ⟨_, rfl⟩
  obtain ⟨hA, hB, hC, hBL, hszC, hszA, hszB⟩ := box3 hwA hwB hwC
  obtain ⟨wD, hwD⟩ : ∃ wD, wC.alloc (.cells #[.int .i64 ax, .int .i64 ay, .int .i64 bx, .int .i64 by'] 24) = wD := ⟨_, rfl⟩
  have hbD : Below wC.heap.size wC wD := by rw [← hwD]; exact (Below.refl _ _).alloc (Nat.le_refl _) _
  have HB := hid (hBL.trans (hbD.mono hBL.size))
  have a0 := hA.c0; have a1 := hA.c1; have b0 := hB.c0; have b1 := hB.c1
  have hC' := hC.below hbD hC.lt
  have c0 := hC'.c0; have c1 := hC'.c1
  have HS : Src wD (.slice (some ⟨w.heap.size + 3, 0, none⟩) 2 2) [(ax, ay), (bx, by')] := src2 (by rw [← hwD, ← hszC]; unfold World.alloc; simp)
  have hszD : wD.heap.size = w.heap.size + 4 := by rw [← hwD]; simp [hszC]
  have H1 := hid (lineAtH_any _ [(ax, ay), (bx, by')] px py wD HS.pts (by show 2 ≤ 100000; decide))
  have HE := hid (ath_two (ax, ay) (bx, by') (px, py))
  generalize hasP (ax, ay) (bx, by') (px, py) = R at *
  generalize atI (athL [(ax, ay), (bx, by')] (px, py)) = T at *
  clear hA hB hC hBL HS hC' hbD
  go_enter Try.func20, Try.ntmps20
  go_wp2_with (go_at_call 30; refine H1.out.mono ?_; rintro e w1 ⟨rfl, hb1⟩; replace HB := hid (HB.out.trans (hb1.mono HB.out.size)); clear hb1 H1)
  go_ret
  exact ⟨by rw [← HE.out]; rfl, HB.out⟩

set_option maxHeartbeats 1600000 in
theorem ringMeets_any (ax ay bx by' px py : Int) (w : World) :
    Calls Try.prog 21 #[pv ax ay, pv bx by', pv px py] w fun e w' => e = .returned (.bool (okP px py && rayP (near ax, near ay) (near bx, near by') (near px, near py))) ∧ Below w.heap.size w w' := by
  obtain ⟨wA, hwA⟩ : ∃ wA, w.alloc (.cells #[.int .i64 ax, .int .i64 ay] 24) = wA := ⟨_, rfl⟩
  obtain ⟨wB, hwB⟩ : ∃ wB, wA.alloc (.cells #[.int .i64 bx, .int .i64 by'] 24) = wB := ⟨_, rfl⟩
  obtain ⟨wC, hwC⟩ : ∃ wC, wB.alloc (.cells #[.int .i64 px, .int .i64 py] 24) = wC := ⟨_, rfl⟩
  obtain ⟨hA, hB, hC, hBL, hszC, hszA, hszB⟩ := box3 hwA hwB hwC
  have HB := hid hBL
  have HPA := hid hA
  have HPB := hid hB
  have HPC := hid hC
  have c0 := hC.c0; have c1 := hC.c1
  have H1 := hid (fun W => ok_any px py W)
  have H2 := hid (fun W => segRay_any ax ay bx by' px py W)
  generalize okP px py = R1 at *
  generalize rayP (near ax, near ay) (near bx, near by') (near px, near py) = R2 at *
  clear hA hB hC hBL
  cases R1 with
  | false =>
    go_enter Try.func21, Try.ntmps21
    go_wp2_with (go_at_call 31; refine (H1.out _).mono ?_; rintro e w1 ⟨rfl, hb1⟩; replace HB := hid (HB.out.trans (hb1.mono HB.out.size)); clear hb1 H1)
    go_ret
    exact ⟨rfl, HB.out⟩
  | true =>
    go_enter Try.func21, Try.ntmps21
    go_wp2_with (first
      | (go_at_call 31; refine (H1.out _).mono ?_; rintro e w1 ⟨rfl, hb1⟩; replace HB := hid (HB.out.trans (hb1.mono HB.out.size)); have p0 := (HPA.out.below hb1 (by omega)).c0; have p1 := (HPA.out.below hb1 (by omega)).c1; have q0 := (HPB.out.below hb1 (by omega)).c0; have q1 := (HPB.out.below hb1 (by omega)).c1; have r0 := (HPC.out.below hb1 (by omega)).c0; have r1 := (HPC.out.below hb1 (by omega)).c1; clear hb1 H1)
      | (go_at_call 32; refine (H2.out _).mono ?_; rintro e w2 ⟨rfl, hb2⟩; replace HB := hid (HB.out.trans (hb2.mono HB.out.size)); clear hb2 H2))
    go_ret
    exact ⟨rfl, HB.out⟩
end Go.Proofs.Ytepnjknblppfcaa
