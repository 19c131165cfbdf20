/-
  slices.Clone and slices.Reverse of points; line's Reverse.
-/
import Derived.Test.YtlnjjkgjknheiaaLSplit
import Derived.BigRegion
import Derived.Lib.SliceRun
import Derived.Test.YtlnjjkgjknheiaaMG
namespace Go.Proofs.Ytlnjjkgjknheiaa
open Go.RowKit Go.Sort

































































































































































end Go.Proofs.Ytlnjjkgjknheiaa

namespace Go.Proofs.Ytlnjjkgjknheiaa
open Go.RowKit Go.Sort

set_option maxHeartbeats 1600000 in
theorem lineBetween_any (x a b : Int) (w : World) :
    Calls Try.prog 56 #[.int .i64 a, .int .i64 b, .int .i64 x] w fun e w' => e = .returned (.bool (btw x a b)) ∧ w' = w := by
  have hw : btw x a b = (decide (min a b ≤ x) && decide (x ≤ max a b)) := rfl
  generalize btw x a b = R at *
  have HW := hid hw
  clear hw
  rcases (show a < b ∨ a = b ∨ b < a by omega) with h | h | h
  · rcases (show x < a ∨ (a ≤ x ∧ x ≤ b) ∨ (a ≤ x ∧ b < x) by omega) with g | ⟨g, g'⟩ | ⟨g, g'⟩
    · have HE := hid (show R = false by rw [HW.out, show decide (min a b ≤ x) = false from decide_eq_false (by omega)]; rfl)
      go_enter Try.func56, Try.ntmps56
      go_wp2
      go_ret
      exact ⟨by rw [HE.out]; first | rfl | (show Ending.returned (Value.bool (decide _)) = _; first | rw [decide_eq_false (by omega)] | rw [decide_eq_true (by omega)]), rfl⟩
    · have HE := hid (show R = true by rw [HW.out, show decide (min a b ≤ x) = true from decide_eq_true (by omega), show decide (x ≤ max a b) = true from decide_eq_true (by omega)]; rfl)
      go_enter Try.func56, Try.ntmps56
      go_wp2
      go_ret
      exact ⟨by rw [HE.out]; first | rfl | (show Ending.returned (Value.bool (decide _)) = _; first | rw [decide_eq_false (by omega)] | rw [decide_eq_true (by omega)]), rfl⟩
    · have HE := hid (show R = false by rw [HW.out, show decide (min a b ≤ x) = true from decide_eq_true (by omega), show decide (x ≤ max a b) = false from decide_eq_false (by omega)]; rfl)
      go_enter Try.func56, Try.ntmps56
      go_wp2
      go_ret
      exact ⟨by rw [HE.out]; first | rfl | (show Ending.returned (Value.bool (decide _)) = _; first | rw [decide_eq_false (by omega)] | rw [decide_eq_true (by omega)]), rfl⟩
  · subst h
    rcases (show x < a ∨ (a ≤ x ∧ x ≤ a) ∨ (a ≤ x ∧ a < x) by omega) with g | ⟨g, g'⟩ | ⟨g, g'⟩
    · have HE := hid (show R = false by rw [HW.out, show decide (min a a ≤ x) = false from decide_eq_false (by omega)]; rfl)
      go_enter Try.func56, Try.ntmps56
      go_wp2
      go_ret
      exact ⟨by rw [HE.out]; first | rfl | (show Ending.returned (Value.bool (decide _)) = _; first | rw [decide_eq_false (by omega)] | rw [decide_eq_true (by omega)]), rfl⟩
    · have HE := hid (show R = true by rw [HW.out, show decide (min a a ≤ x) = true from decide_eq_true (by omega), show decide (x ≤ max a a) = true from decide_eq_true (by omega)]; rfl)
      go_enter Try.func56, Try.ntmps56
      go_wp2
      go_ret
      exact ⟨by rw [HE.out]; first | rfl | (show Ending.returned (Value.bool (decide _)) = _; first | rw [decide_eq_false (by omega)] | rw [decide_eq_true (by omega)]), rfl⟩
    · have HE := hid (show R = false by rw [HW.out, show decide (min a a ≤ x) = true from decide_eq_true (by omega), show decide (x ≤ max a a) = false from decide_eq_false (by omega)]; rfl)
      go_enter Try.func56, Try.ntmps56
      go_wp2
      go_ret
      exact ⟨by rw [HE.out]; first | rfl | (show Ending.returned (Value.bool (decide _)) = _; first | rw [decide_eq_false (by omega)] | rw [decide_eq_true (by omega)]), rfl⟩
  · rcases (show x < b ∨ (b ≤ x ∧ x ≤ a) ∨ (b ≤ x ∧ a < x) by omega) with g | ⟨g, g'⟩ | ⟨g, g'⟩
    · have HE := hid (show R = false by rw [HW.out, show decide (min a b ≤ x) = false from decide_eq_false (by omega)]; rfl)
      go_enter Try.func56, Try.ntmps56
      go_wp2
      go_ret
      exact ⟨by rw [HE.out]; first | rfl | (show Ending.returned (Value.bool (decide _)) = _; first | rw [decide_eq_false (by omega)] | rw [decide_eq_true (by omega)]), rfl⟩
    · have HE := hid (show R = true by rw [HW.out, show decide (min a b ≤ x) = true from decide_eq_true (by omega), show decide (x ≤ max a b) = true from decide_eq_true (by omega)]; rfl)
      go_enter Try.func56, Try.ntmps56
      go_wp2
      go_ret
      exact ⟨by rw [HE.out]; first | rfl | (show Ending.returned (Value.bool (decide _)) = _; first | rw [decide_eq_false (by omega)] | rw [decide_eq_true (by omega)]), rfl⟩
    · have HE := hid (show R = false by rw [HW.out, show decide (min a b ≤ x) = true from decide_eq_true (by omega), show decide (x ≤ max a b) = false from decide_eq_false (by omega)]; rfl)
      go_enter Try.func56, Try.ntmps56
      go_wp2
      go_ret
      exact ⟨by rw [HE.out]; first | rfl | (show Ending.returned (Value.bool (decide _)) = _; first | rw [decide_eq_false (by omega)] | rw [decide_eq_true (by omega)]), rfl⟩

set_option maxHeartbeats 1600000 in
theorem lineHas_any (ax ay bx by' px py : Int) (w : World) :
    Calls Try.prog 40 #[pv ax ay, pv bx by', pv px py] w fun e w' => e = .returned (.bool (btw px ax bx && btw py ay by' && onP (near ax) (near ay) (near bx) (near by') (near px) (near py))) ∧ Below w.heap.size w w' := by
  obtain ⟨wA, hwA⟩ : ∃ wA, w.alloc (.cells #[.int .i64 ax, .int .i64 ay] 24) = wA := ⟨_, rfl⟩
  obtain ⟨wB, hwB⟩ : ∃ wB, wA.alloc (.cells #[.int .i64 bx, .int .i64 by'] 24) = wB := ⟨_, rfl⟩
  obtain ⟨wC, hwC⟩ : ∃ wC, wB.alloc (.cells #[.int .i64 px, .int .i64 py] 24) = wC := ⟨_, rfl⟩
  obtain ⟨hA, hB, hC, hBL, hszC, hszA, hszB⟩ := box3 hwA hwB hwC
  have HB := hid hBL
  have a0 := hA.c0; have a1 := hA.c1; have b0 := hB.c0; have b1 := hB.c1; have c0 := hC.c0; have c1 := hC.c1
  have H1 := hid (fun W => lineBetween_any px ax bx W)
  have H2 := hid (fun W => lineBetween_any py ay by' W)
  have H3 := hid (fun W => on_any ax ay bx by' px py W)
  generalize btw px ax bx = R1 at *
  generalize btw py ay by' = R2 at *
  generalize onP (near ax) (near ay) (near bx) (near by') (near px) (near py) = R3 at *
  clear hA hB hC hBL
  cases R1 with
  | false =>
    go_enter Try.func40, Try.ntmps40
    go_wp2_with (go_at_call 56; refine (H1.out _).mono ?_; rintro e w1 ⟨rfl, rfl⟩; clear H1)
    go_ret
    exact ⟨rfl, HB.out⟩
  | true =>
    cases R2 with
    | false =>
      go_enter Try.func40, Try.ntmps40
      go_wp2_with (first
        | (go_at_call 56; refine (H1.out _).mono ?_; rintro e w1 ⟨rfl, rfl⟩; clear H1)
        | (go_at_call 56; refine (H2.out _).mono ?_; rintro e w1 ⟨rfl, rfl⟩; clear H2))
      go_ret
      exact ⟨rfl, HB.out⟩
    | true =>
      go_enter Try.func40, Try.ntmps40
      go_wp2_with (first
        | (go_at_call 56; refine (H1.out _).mono ?_; rintro e w1 ⟨rfl, rfl⟩; clear H1)
        | (go_at_call 56; refine (H2.out _).mono ?_; rintro e w1 ⟨rfl, rfl⟩; clear H2)
        | (go_at_call 54; refine (H3.out _).mono ?_; rintro e w1 ⟨rfl, hb1⟩; replace HB := hid (HB.out.trans (hb1.mono HB.out.size)); clear hb1 H3))
      go_ret
      exact ⟨rfl, HB.out⟩

/-- Of points of the grid the box says nothing new. -/
theorem has_gl {a b : Pp} {px py : Int} (ha : clP a = a) (hb : clP b = b) (hp : clP (px, py) = (px, py)) (w : World) :
    Calls Try.prog 40 #[pv a.1 a.2, pv b.1 b.2, pv px py] w fun e w' => e = .returned (.bool (onP (near a.1) (near a.2) (near b.1) (near b.2) (near px) (near py))) ∧ Below w.heap.size w w' := by
  have h := lineHas_any a.1 a.2 b.1 b.2 px py w
  have a1 : near a.1 = a.1 := congrArg Prod.fst ha
  have a2 : near a.2 = a.2 := congrArg Prod.snd ha
  have b1 : near b.1 = b.1 := congrArg Prod.fst hb
  have b2 : near b.2 = b.2 := congrArg Prod.snd hb
  have p1 : near px = px := congrArg Prod.fst hp
  have p2 : near py = py := congrArg Prod.snd hp
  rw [a1, a2, b1, b2, p1, p2] at h ⊢
  have e : (btw px a.1 b.1 && btw py a.2 b.2 && onP a.1 a.2 b.1 b.2 px py) = onP a.1 a.2 b.1 b.2 px py := by
    unfold onP
    rw [inBox_btw]
    cases btw px a.1 b.1 <;> cases btw py a.2 b.2 <;> simp
  rwa [e] at h

set_option maxHeartbeats 1600000 in
theorem lineAt_any (v : Value) (ps : List Pp) (px py : Int) (w : World) (hp : Pts w v ps) (hg : Gl ps) (hgp : clP (px, py) = (px, py)) (hl : ps.length ≤ 100000) :
    Calls Try.prog 28 #[v, pv px py] w fun e w' => e = .returned (.int .i64 (atI (atL ps (px, py)))) ∧ Below w.heap.size w w' := by
  have hp' := hp
  obtain ⟨a, cap, rfl, _⟩ := hp'
  have HP := hid hp
  obtain ⟨n, hn⟩ : ∃ n, ps.length = n := ⟨_, rfl⟩
  have HN := hid hn
  rw [hn] at hl HP ⊢
  obtain ⟨wA, hwA⟩ : ∃ wA, w.alloc (.cells #[.int .i64 px, .int .i64 py] 24) = wA := ⟨_, rfl⟩
  obtain ⟨hA, hBL, hszA⟩ := box1 hwA
  have HA := hid hA
  have HBL := hid hBL
  have HG := hid hg
  have HGP := hid hgp
  obtain ⟨N, hNN⟩ : ∃ N, n - 1 = N := ⟨_, rfl⟩
  have HNN := hid hNN
  have HS := hid (fun W => segments_any a n cap W hl)
  rw [hNN] at HS
  clear hg hgp hNN
  clear hA hBL hp hn
  go_enter Try.func28, Try.ntmps28
  go_wp2_with (go_at_call 24; refine (HS.out _).mono ?_; rintro e w1 ⟨rfl, hb1⟩; have HB1 := hid hb1; clear hb1)
  go_loopw [8] (fun iv wr => ∃ k : Nat, k ≤ N ∧ iv = .int .i64 k ∧ (∀ i, i < k → onL ps (px, py) i = false) ∧ Below wA.heap.size wA wr) (fun iv _ => N - (intOf iv).toNat)
  case atStart => exact ⟨0, by omega, rfl, (fun i hi => absurd hi (Nat.not_lt_zero i)), HB1.out⟩
  case round =>
    obtain ⟨k, hk, rfl, hno, hbr⟩ := hrel
    clear HB1 HS
    have HNO := hid hno
    have HBR := hid hbr
    have HBW := hid (HBL.out.trans (hbr.mono HBL.out.size))
    have hA := HA.out.below hbr HA.out.lt
    by_cases hlt : k < N
    · have hkI : (k : Int) < (N : Int) := by omega
      have hkN : k + 1 < n := by have := HNN.out; omega
      have hkn : (k : Int) + 1 < (n : Int) := by omega
      have hkm : (k : Int) < (n : Int) := by omega
      obtain ⟨b, off, rfl, hc⟩ := (HP.out.below HBW.out).row (by rw [HN.out]; omega)
      obtain ⟨z0, z1⟩ := hc k (by rw [HN.out]; omega)
      obtain ⟨x0, x1⟩ := hc (k + 1) (by rw [HN.out]; omega)
      have y0 := cell_regrown z0; have y1 := cell_regrown z1; have u0 := cell_regrown x0; have u1 := cell_regrown x1; have a0 := cell_regrown hA.c0; have a1 := cell_regrown hA.c1
      have c1 := fun d os => has_gl (a := lpt ps k) (b := lpt ps (k + 1)) (HG.out.at (i := k) (by rw [HN.out]; omega)) (HG.out.at (i := k + 1) (by rw [HN.out]; omega)) HGP.out (grow (redrawn wr d) os)
      have HON : Hid (onL ps (px, py) k = onP (near (lpt ps k).1) (near (lpt ps k).2) (near (lpt ps (k + 1)).1) (near (lpt ps (k + 1)).2) (near px) (near py)) := hid rfl
      generalize (lpt ps k).1 = X0 at *
      generalize (lpt ps k).2 = Y0 at *
      generalize (lpt ps (k + 1)).1 = X1 at *
      generalize (lpt ps (k + 1)).2 = Y1 at *
      generalize onP (near X0) (near Y0) (near X1) (near Y1) (near px) (near py) = O at *
      clear z0 z1 x0 x1 hc hA hbr hno
      cases O with
      | true =>
        go_wp2
        refine wp_region_quiet_below (by kernel_rfl) (by kernel_rfl) ?_
        go_big_quiet_step (fail)
        go_big_quiet_step (fail)
        go_big_quiet_step (fail)
        go_big_quiet_step (fail)
        go_big_quiet_step (fail)
        go_big_quiet_step (fail)
        go_big_quiet_step (fail)
        go_big_quiet_step (fail)
        go_big_quiet_step (fail)
        go_big_quiet_step (fail)
        go_big_quiet_step (exact Calls.regrown_of (c1 _ _))
        refine wpQuiet_nil ?_
        intro W1 hW'
        obtain ⟨⟨dq, osq⟩, hW⟩ := hW'
        have HW1 := hid (show Below wr.heap.size wr W1 by rw [hW]; exact below_regrown _ _ _)
        clear hW
        clear y0 y1 u0 u1 a0 a1 c1
        go_wp2
        go_ret
        refine ⟨?_, HBW.out.trans (HW1.out.mono HBW.out.size)⟩
        rw [atL_some (by rw [HN.out]; omega) HON.out HNO.out]
        rfl
      | false =>
        go_wp2
        refine wp_region_quiet_below (by kernel_rfl) (by kernel_rfl) ?_
        go_big_quiet_step (fail)
        go_big_quiet_step (fail)
        go_big_quiet_step (fail)
        go_big_quiet_step (fail)
        go_big_quiet_step (fail)
        go_big_quiet_step (fail)
        go_big_quiet_step (fail)
        go_big_quiet_step (fail)
        go_big_quiet_step (fail)
        go_big_quiet_step (fail)
        go_big_quiet_step (exact Calls.regrown_of (c1 _ _))
        refine wpQuiet_nil ?_
        intro W1 hW'
        obtain ⟨⟨dq, osq⟩, hW⟩ := hW'
        have HW1 := hid (show Below wr.heap.size wr W1 by rw [hW]; exact below_regrown _ _ _)
        clear hW
        clear y0 y1 u0 u1 a0 a1 c1
        go_wp2
        go_roundw
        case rel =>
          refine ⟨k + 1, by omega, by go_num, fun i hi => ?_, HBR.out.trans (HW1.out.mono HBR.out.size)⟩
          by_cases hik : i = k
          · rw [hik]; exact HON.out
          · exact HNO.out i (by omega)
        case measure => simp [intOf]; omega
    · have hkI : ¬ (k : Int) < (N : Int) := by omega
      clear hA hbr hno
      go_wp2
      go_ret
      refine ⟨?_, HBW.out⟩
      rw [atL_none (fun i hi => HNO.out i (by have := HNN.out; rw [HN.out] at hi; omega))]
      rfl
end Go.Proofs.Ytlnjjkgjknheiaa
