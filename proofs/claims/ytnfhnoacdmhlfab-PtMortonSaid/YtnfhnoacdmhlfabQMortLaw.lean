/-
  PtMorton: the walk.
-/
import Derived.Test.YtnfhnoacdmhlfabQMortR
import Derived.Test.YtnfhnoacdmhlfabQAwake
namespace Go.Proofs.Ytnfhnoacdmhlfab
open Go.RowKit Go.Sort

set_option maxHeartbeats 400000 in
theorem ptMorton_core (w : World) (px py : Int) (m N : Nat) (NX NY rx ry : Int) (is : Bool)
    (HM : Hid (∀ W, Calls Try.prog 11 #[pv px py] W fun e w' => e = .returned (.int .u64 (N : Int)) ∧ Below W.heap.size W w'))
    (HF1 : Hid (∀ W, Calls Try.prog 12 #[.int .u64 (N : Int)] W fun e w' => e = .returned (.tuple #[pv NX NY, .bool true]) ∧ Below W.heap.size W w'))
    (HF2 : Hid (∀ W, Calls Try.prog 12 #[.int .u64 (m : Int)] W fun e w' => e = .returned (.tuple #[pv rx ry, .bool is]) ∧ Below W.heap.size W w'))
    (HF3 : Hid (∀ W, Calls Try.prog 13 #[.int .u64 (m : Int)] W fun e w' => e = .returned (.tuple #[pv rx ry, .bool is]) ∧ Below W.heap.size W w'))
    (HRM : Hid (∀ W, Calls Try.prog 14 #[pv px py] W fun e w' => e = .returned (.int .u64 (N : Int)) ∧ Below W.heap.size W w'))
    (HC : Hid (∀ W, Calls Try.prog 15 #[pv px py] W fun e w' => e = .returned (pv NX NY) ∧ Below W.heap.size W w'))
    (HM2 : Hid (is = true → ∀ W, Calls Try.prog 11 #[pv rx ry] W fun e w' => e = .returned (.int .u64 (m : Int)) ∧ Below W.heap.size W w')) :
    Calls Try.prog 4 #[pv px py, .int .u64 m] w fun e w' => e = .returned (.bool true) ∧ Below w.heap.size w w' := by
  obtain ⟨wA, hwA⟩ : ∃ wA, w.alloc (.cells #[.int .i64 px, .int .i64 py] 24) = wA := ⟨_, rfl⟩
  obtain ⟨hA, hBL, hszA⟩ := box1 hwA
  have HPA := hid hA
  have HB := hid hBL
  have a0 := hA.c0; have a1 := hA.c1
  clear hA hBL
  cases is with
  | true =>
    go_enter Try.func4, Try.ntmps4
    go_wp2_with (first
      | (go_at_call 11; refine (HM.out _).mono ?_; rintro e w1 ⟨rfl, hb1⟩; replace HPA := hid (HPA.out.below hb1 HPA.out.lt); replace HB := hid (HB.out.trans (hb1.mono HB.out.size)); clear hb1 HM)
      | (go_at_call 12; refine (HF1.out _).mono ?_; rintro e w2 ⟨rfl, hb2⟩; replace HPA := hid (HPA.out.below hb2 HPA.out.lt); replace HB := hid (HB.out.trans (hb2.mono HB.out.size)); obtain ⟨W2, hW2⟩ : ∃ W2, w2.alloc (.cells #[.int .i64 NX, .int .i64 NY] 24) = W2 := ⟨_, rfl⟩; have HPQ := hid (show Pt W2 w2.heap.size NX NY by rw [← hW2]; exact Pt.new w2 NX NY); replace HPA := hid (show Pt W2 _ _ _ by rw [← hW2]; exact HPA.out.alloc _); replace HB := hid (show Below w.heap.size w W2 by rw [← hW2]; exact HB.out.alloc HB.out.size _); obtain ⟨QB, hQB⟩ : ∃ QB, w2.heap.size = QB := ⟨_, rfl⟩; rw [hQB] at HPQ; clear hb2 HF1)
      | (go_at_call 12; refine (HF2.out _).mono ?_; rintro e w3 ⟨rfl, hb3⟩; replace HPA := hid (HPA.out.below hb3 HPA.out.lt); replace HPQ := hid (HPQ.out.below hb3 HPQ.out.lt); replace HB := hid (HB.out.trans (hb3.mono HB.out.size)); obtain ⟨W3, hW3⟩ : ∃ W3, w3.alloc (.cells #[.int .i64 rx, .int .i64 ry] 24) = W3 := ⟨_, rfl⟩; have HPR := hid (show Pt W3 w3.heap.size rx ry by rw [← hW3]; exact Pt.new w3 rx ry); replace HPA := hid (show Pt W3 _ _ _ by rw [← hW3]; exact HPA.out.alloc _); replace HPQ := hid (show Pt W3 _ _ _ by rw [← hW3]; exact HPQ.out.alloc _); replace HB := hid (show Below w.heap.size w W3 by rw [← hW3]; exact HB.out.alloc HB.out.size _); obtain ⟨RB, hRB⟩ : ∃ RB, w3.heap.size = RB := ⟨_, rfl⟩; rw [hRB] at HPR; clear hb3 HF2)
      | (go_at_call 13; refine (HF3.out _).mono ?_; rintro e w4 ⟨rfl, hb4⟩; replace HPA := hid (HPA.out.below hb4 HPA.out.lt); replace HPQ := hid (HPQ.out.below hb4 HPQ.out.lt); replace HPR := hid (HPR.out.below hb4 HPR.out.lt); replace HB := hid (HB.out.trans (hb4.mono HB.out.size)); obtain ⟨W4, hW4⟩ : ∃ W4, w4.alloc (.cells #[.int .i64 rx, .int .i64 ry] 24) = W4 := ⟨_, rfl⟩; have HPS := hid (show Pt W4 w4.heap.size rx ry by rw [← hW4]; exact Pt.new w4 rx ry); replace HPA := hid (show Pt W4 _ _ _ by rw [← hW4]; exact HPA.out.alloc _); replace HPQ := hid (show Pt W4 _ _ _ by rw [← hW4]; exact HPQ.out.alloc _); replace HPR := hid (show Pt W4 _ _ _ by rw [← hW4]; exact HPR.out.alloc _); replace HB := hid (show Below w.heap.size w W4 by rw [← hW4]; exact HB.out.alloc HB.out.size _); obtain ⟨SB, hSB⟩ : ∃ SB, w4.heap.size = SB := ⟨_, rfl⟩; rw [hSB] at HPS; clear hb4 HF3))
    have kA0 := cell_regrown HPA.out.c0
    have kA1 := cell_regrown HPA.out.c1
    have kQ0 := cell_regrown HPQ.out.c0
    have kQ1 := cell_regrown HPQ.out.c1
    have kR0 := cell_regrown HPR.out.c0
    have kR1 := cell_regrown HPR.out.c1
    have kS0 := cell_regrown HPS.out.c0
    have kS1 := cell_regrown HPS.out.c1
    have crm := fun d os => HRM.out (grow (redrawn W4 d) os)
    have cc := fun d os => HC.out (grow (redrawn W4 d) os)
    have cm := fun d os => HM2.out (by simp) (grow (redrawn W4 d) os)
    have aw := fun d os => awake_any (grow (redrawn W4 d) os)
    refine wp_region_quiet_below (by kernel_rfl) (by kernel_rfl) ?_
    go_big_quiet_step (fail)
    go_big_quiet_step (fail)
    go_big_quiet_step (exact Calls.regrown_of (crm _ _))
    go_big_quiet_step (fail)
    go_big_quiet_step (fail)
    go_big_quiet_step (fail)
    go_big_quiet_step (fail)
    go_big_quiet_step (fail)
    go_big_quiet_step (fail)
    go_big_quiet_step (fail)
    go_big_quiet_step (exact Calls.regrown_of (cc _ _))
    go_big_quiet_step (fail)
    go_big_quiet_step (fail)
    go_big_quiet_step (fail)
    go_big_quiet_step (fail)
    go_big_quiet_step (fail)
    go_big_quiet_step (fail)
    go_big_quiet_step (fail)
    go_big_quiet_step (fail)
    go_big_quiet_step (fail)
    go_big_quiet_step (fail)
    go_big_quiet_step (fail)
    go_big_quiet_step (fail)
    go_big_quiet_step (fail)
    go_big_quiet_step (fail)
    go_big_quiet_step (fail)
    go_big_quiet_step (fail)
    go_big_quiet_step (fail)
    go_big_quiet_step (exact Calls.regrown_of (cm _ _))
    go_big_quiet_step (fail)
    go_big_quiet_step (fail)
    go_big_quiet_step (fail)
    go_big_quiet_step (fail)
    go_big_quiet_step (fail)
    go_big_quiet_step (exact Calls.regrown_of (aw _ _))
    go_big_quiet_step (fail)
    go_big_quiet_step (fail)
    refine wpQuiet_nil ?_
    intro W hW'
    obtain ⟨⟨dq, osq⟩, hW⟩ := hW'
    have HB1 := hid (show Below W4.heap.size W4 W by rw [hW]; exact below_regrown _ _ _)
    clear hW
    go_wp2
    go_ret
    exact ⟨rfl, HB.out.trans (HB1.out.mono HB.out.size)⟩
  | false =>
    go_enter Try.func4, Try.ntmps4
    go_wp2_with (first
      | (go_at_call 11; refine (HM.out _).mono ?_; rintro e w1 ⟨rfl, hb1⟩; replace HPA := hid (HPA.out.below hb1 HPA.out.lt); replace HB := hid (HB.out.trans (hb1.mono HB.out.size)); clear hb1 HM)
      | (go_at_call 12; refine (HF1.out _).mono ?_; rintro e w2 ⟨rfl, hb2⟩; replace HPA := hid (HPA.out.below hb2 HPA.out.lt); replace HB := hid (HB.out.trans (hb2.mono HB.out.size)); obtain ⟨W2, hW2⟩ : ∃ W2, w2.alloc (.cells #[.int .i64 NX, .int .i64 NY] 24) = W2 := ⟨_, rfl⟩; have HPQ := hid (show Pt W2 w2.heap.size NX NY by rw [← hW2]; exact Pt.new w2 NX NY); replace HPA := hid (show Pt W2 _ _ _ by rw [← hW2]; exact HPA.out.alloc _); replace HB := hid (show Below w.heap.size w W2 by rw [← hW2]; exact HB.out.alloc HB.out.size _); obtain ⟨QB, hQB⟩ : ∃ QB, w2.heap.size = QB := ⟨_, rfl⟩; rw [hQB] at HPQ; clear hb2 HF1)
      | (go_at_call 12; refine (HF2.out _).mono ?_; rintro e w3 ⟨rfl, hb3⟩; replace HPA := hid (HPA.out.below hb3 HPA.out.lt); replace HPQ := hid (HPQ.out.below hb3 HPQ.out.lt); replace HB := hid (HB.out.trans (hb3.mono HB.out.size)); obtain ⟨W3, hW3⟩ : ∃ W3, w3.alloc (.cells #[.int .i64 rx, .int .i64 ry] 24) = W3 := ⟨_, rfl⟩; have HPR := hid (show Pt W3 w3.heap.size rx ry by rw [← hW3]; exact Pt.new w3 rx ry); replace HPA := hid (show Pt W3 _ _ _ by rw [← hW3]; exact HPA.out.alloc _); replace HPQ := hid (show Pt W3 _ _ _ by rw [← hW3]; exact HPQ.out.alloc _); replace HB := hid (show Below w.heap.size w W3 by rw [← hW3]; exact HB.out.alloc HB.out.size _); obtain ⟨RB, hRB⟩ : ∃ RB, w3.heap.size = RB := ⟨_, rfl⟩; rw [hRB] at HPR; clear hb3 HF2)
      | (go_at_call 13; refine (HF3.out _).mono ?_; rintro e w4 ⟨rfl, hb4⟩; replace HPA := hid (HPA.out.below hb4 HPA.out.lt); replace HPQ := hid (HPQ.out.below hb4 HPQ.out.lt); replace HPR := hid (HPR.out.below hb4 HPR.out.lt); replace HB := hid (HB.out.trans (hb4.mono HB.out.size)); obtain ⟨W4, hW4⟩ : ∃ W4, w4.alloc (.cells #[.int .i64 rx, .int .i64 ry] 24) = W4 := ⟨_, rfl⟩; have HPS := hid (show Pt W4 w4.heap.size rx ry by rw [← hW4]; exact Pt.new w4 rx ry); replace HPA := hid (show Pt W4 _ _ _ by rw [← hW4]; exact HPA.out.alloc _); replace HPQ := hid (show Pt W4 _ _ _ by rw [← hW4]; exact HPQ.out.alloc _); replace HPR := hid (show Pt W4 _ _ _ by rw [← hW4]; exact HPR.out.alloc _); replace HB := hid (show Below w.heap.size w W4 by rw [← hW4]; exact HB.out.alloc HB.out.size _); obtain ⟨SB, hSB⟩ : ∃ SB, w4.heap.size = SB := ⟨_, rfl⟩; rw [hSB] at HPS; clear hb4 HF3))
    have kA0 := cell_regrown HPA.out.c0
    have kA1 := cell_regrown HPA.out.c1
    have kQ0 := cell_regrown HPQ.out.c0
    have kQ1 := cell_regrown HPQ.out.c1
    have kR0 := cell_regrown HPR.out.c0
    have kR1 := cell_regrown HPR.out.c1
    have kS0 := cell_regrown HPS.out.c0
    have kS1 := cell_regrown HPS.out.c1
    have crm := fun d os => HRM.out (grow (redrawn W4 d) os)
    have cc := fun d os => HC.out (grow (redrawn W4 d) os)
    have aw := fun d os => awake_any (grow (redrawn W4 d) os)
    refine wp_region_quiet_below (by kernel_rfl) (by kernel_rfl) ?_
    go_big_quiet_step (fail)
    go_big_quiet_step (fail)
    go_big_quiet_step (exact Calls.regrown_of (crm _ _))
    go_big_quiet_step (fail)
    go_big_quiet_step (fail)
    go_big_quiet_step (fail)
    go_big_quiet_step (fail)
    go_big_quiet_step (fail)
    go_big_quiet_step (fail)
    go_big_quiet_step (fail)
    go_big_quiet_step (exact Calls.regrown_of (cc _ _))
    go_big_quiet_step (fail)
    go_big_quiet_step (fail)
    go_big_quiet_step (fail)
    go_big_quiet_step (fail)
    go_big_quiet_step (fail)
    go_big_quiet_step (fail)
    go_big_quiet_step (fail)
    go_big_quiet_step (fail)
    go_big_quiet_step (fail)
    go_big_quiet_step (fail)
    go_big_quiet_step (fail)
    go_big_quiet_step (fail)
    go_big_quiet_step (fail)
    go_big_quiet_step (fail)
    go_big_quiet_step (fail)
    go_big_quiet_step (fail)
    go_big_quiet_step (fail)
    go_big_quiet_step (fail)
    go_big_quiet_step (fail)
    go_big_quiet_step (fail)
    go_big_quiet_step (fail)
    go_big_quiet_step (fail)
    go_big_quiet_step (fail)
    go_big_quiet_step (exact Calls.regrown_of (aw _ _))
    go_big_quiet_step (fail)
    go_big_quiet_step (fail)
    refine wpQuiet_nil ?_
    intro W hW'
    obtain ⟨⟨dq, osq⟩, hW⟩ := hW'
    have HB1 := hid (show Below W4.heap.size W4 W by rw [hW]; exact below_regrown _ _ _)
    clear hW
    go_wp2
    go_ret
    exact ⟨rfl, HB.out.trans (HB1.out.mono HB.out.size)⟩

theorem from_mort {X Y : Nat} (hX : X ≤ 2097152) (hY : Y ≤ 2097152) : fromV (mort X Y) = .tuple #[pv ((X : Int) - 1048576) ((Y : Int) - 1048576), .bool true] := by
  have h := tg_ap 22 X Y (by omega) (by omega)
  have hm : mort X Y < 17592186044416 := by have := mo_lt X Y 22; unfold mort; generalize ap X 22 + 2 * ap Y 22 = z at *; simp at this; omega
  have ho : fromOk (mort X Y) = true := by
    unfold fromOk mort at *
    rw [h.1, h.2, okP_iff]
    simp
    omega
  unfold fromV
  rw [ho]
  unfold mort
  rw [h.1, h.2]
  rfl
theorem mort_from {m : Nat} (h : fromOk m = true) : mort (up ((tg m 22 : Nat) - 1048576)) (up ((tg (m / 2) 22 : Nat) - 1048576)) = m := by
  unfold fromOk at h
  rw [okP_iff] at h
  have hl := ap_tg 22 m
  generalize tg m 22 = X at *
  generalize tg (m / 2) 22 = Y at *
  simp at h
  have e1 : up ((X : Int) - 1048576) = X := by unfold up; rw [near_in (by omega) (by omega)]; omega
  have e2 : up ((Y : Int) - 1048576) = Y := by unfold up; rw [near_in (by omega) (by omega)]; omega
  rw [e1, e2]
  exact hl (by simp; omega)

theorem ptMorton_walk (w : World) (px py : Int) (_ : -9223372036854775808 ≤ px ∧ px ≤ 9223372036854775807) (_ : -9223372036854775808 ≤ py ∧ py ≤ 9223372036854775807) (m : Int) (h0 : 0 ≤ m) (h1 : m ≤ 18446744073709551615) :
    Calls Try.prog 4 #[pv px py, .int .u64 m] w fun e w' => e = .returned (.bool true) ∧ Below w.heap.size w w' := by
  obtain ⟨M, rfl⟩ := Int.eq_ofNat_of_zero_le h0
  have hN : mort (up px) (up py) < 18446744073709551616 := by have := mo_lt (up px) (up py) 22; unfold mort; generalize ap (up px) 22 + 2 * ap (up py) 22 = z at *; simp at this; omega
  have HF1 := hid (fun W => fromMorton_any (mort (up px) (up py)) W hN)
  rw [from_mort (up_le px) (up_le py), ← up_is, ← up_is, Int.add_sub_cancel, Int.add_sub_cancel] at HF1
  have hV : ∃ rx ry, fromV M = .tuple #[pv rx ry, .bool (fromOk M)] ∧ (fromOk M = true → mort (up rx) (up ry) = M) := by
    unfold fromV
    cases ho : fromOk M with
    | true => exact ⟨_, _, rfl, fun _ => mort_from ho⟩
    | false => exact ⟨0, 0, rfl, fun h => by cases h⟩
  obtain ⟨rx, ry, hv, hm⟩ := hV
  have HF2 := hid (fun W => fromMorton_any M W (by omega))
  have HF3 := hid (fun W => refFromMorton_any M W (by omega))
  rw [hv] at HF2 HF3
  refine ptMorton_core w px py M (mort (up px) (up py)) (near px) (near py) rx ry (fromOk M) (hid (fun W => morton_any px py W)) HF1 HF2 HF3 (hid (fun W => refMorton_any px py W)) (hid (fun W => refClean_any px py W)) (hid fun ho W => ?_)
  have := morton_any rx ry W
  rw [hm ho] at this
  exact this
end Go.Proofs.Ytnfhnoacdmhlfab
