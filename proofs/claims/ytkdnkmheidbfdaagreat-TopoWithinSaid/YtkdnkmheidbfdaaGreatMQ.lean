/-
  line's segments, Closed, isEnd.
-/
import Derived.Test.YtkdnkmheidbfdaaGreatMC
import Derived.Test.YtkdnkmheidbfdaaGreatMB
import Derived.Test.YtkdnkmheidbfdaaGreatMO
import Derived.Test.YtkdnkmheidbfdaaGreatMP
namespace Go.Proofs.YtkdnkmheidbfdaaGreat
open Go.RowKit Go.Sort

theorem Gl.at {ps : List Pp} (h : Gl ps) {i : Nat} (hi : i < ps.length) : clP (lpt ps i) = lpt ps i := h _ (List.mem_of_getElem? (at_lpt hi))
set_option maxHeartbeats 1600000 in
theorem segments_any (ao : Option Addr) (n cap : Nat) (w : World) (hl : n ≤ 100000) :
    Calls Tryz.prog 113 #[.slice ao n cap] w fun e w' => e = .returned (.int .i64 ((n - 1 : Nat) : Int)) ∧ Below w.heap.size w w' := by
  cases n with
  | zero =>
    go_enter Tryz.func113, Tryz.ntmps113
    go_wp2
    go_ret
    exact ⟨rfl, Below.refl _ _⟩
  | succ m =>
    have h1 : (m : Int) + 1 - 1 = (m : Int) := by omega
    have h2 : ¬ (m : Int) < 0 := by omega
    have h3 : ¬ (0 : Int) > (m : Int) := by omega
    have h4 : max (m : Int) 0 = (m : Int) := by omega
    rw [Nat.add_sub_cancel]
    go_enter Tryz.func113, Tryz.ntmps113
    go_wp2
    all_goals (go_ret; refine ⟨?_, Below.refl _ _⟩)
    all_goals (first | rfl | (congr 2; omega))



end Go.Proofs.YtkdnkmheidbfdaaGreat

namespace Go.Proofs.YtkdnkmheidbfdaaGreat
open Go.RowKit Go.Sort

set_option maxHeartbeats 1600000 in
theorem lineBetween_any (x a b : Int) (w : World) :
    Calls Tryz.prog 140 #[.int .i64 a, .int .i64 b, .int .i64 x] w fun e w' => e = .returned (.bool (btw x a b)) ∧ w' = w := by
  have hw : btw x a b = (decide (min a b ≤ x) && decide (x ≤ max a b)) := rfl
  generalize btw x a b = R at *
  have HW := hid hw
  clear hw
  rcases (show a < b ∨ a = b ∨ b < a by omega) with h | h | h
  · rcases (show x < a ∨ (a ≤ x ∧ x ≤ b) ∨ (a ≤ x ∧ b < x) by omega) with g | ⟨g, g'⟩ | ⟨g, g'⟩
    · have HE := hid (show R = false by rw [HW.out, show decide (min a b ≤ x) = false from decide_eq_false (by omega)]; rfl)
      go_enter Tryz.func140, Tryz.ntmps140
      go_wp2
      go_ret
      exact ⟨by rw [HE.out]; first | rfl | (show Ending.returned (Value.bool (decide _)) = _; first | rw [decide_eq_false (by omega)] | rw [decide_eq_true (by omega)]), rfl⟩
    · have HE := hid (show R = true by rw [HW.out, show decide (min a b ≤ x) = true from decide_eq_true (by omega), show decide (x ≤ max a b) = true from decide_eq_true (by omega)]; rfl)
      go_enter Tryz.func140, Tryz.ntmps140
      go_wp2
      go_ret
      exact ⟨by rw [HE.out]; first | rfl | (show Ending.returned (Value.bool (decide _)) = _; first | rw [decide_eq_false (by omega)] | rw [decide_eq_true (by omega)]), rfl⟩
    · have HE := hid (show R = false by rw [HW.out, show decide (min a b ≤ x) = true from decide_eq_true (by omega), show decide (x ≤ max a b) = false from decide_eq_false (by omega)]; rfl)
      go_enter Tryz.func140, Tryz.ntmps140
      go_wp2
      go_ret
      exact ⟨by rw [HE.out]; first | rfl | (show Ending.returned (Value.bool (decide _)) = _; first | rw [decide_eq_false (by omega)] | rw [decide_eq_true (by omega)]), rfl⟩
  · subst h
    rcases (show x < a ∨ (a ≤ x ∧ x ≤ a) ∨ (a ≤ x ∧ a < x) by omega) with g | ⟨g, g'⟩ | ⟨g, g'⟩
    · have HE := hid (show R = false by rw [HW.out, show decide (min a a ≤ x) = false from decide_eq_false (by omega)]; rfl)
      go_enter Tryz.func140, Tryz.ntmps140
      go_wp2
      go_ret
      exact ⟨by rw [HE.out]; first | rfl | (show Ending.returned (Value.bool (decide _)) = _; first | rw [decide_eq_false (by omega)] | rw [decide_eq_true (by omega)]), rfl⟩
    · have HE := hid (show R = true by rw [HW.out, show decide (min a a ≤ x) = true from decide_eq_true (by omega), show decide (x ≤ max a a) = true from decide_eq_true (by omega)]; rfl)
      go_enter Tryz.func140, Tryz.ntmps140
      go_wp2
      go_ret
      exact ⟨by rw [HE.out]; first | rfl | (show Ending.returned (Value.bool (decide _)) = _; first | rw [decide_eq_false (by omega)] | rw [decide_eq_true (by omega)]), rfl⟩
    · have HE := hid (show R = false by rw [HW.out, show decide (min a a ≤ x) = true from decide_eq_true (by omega), show decide (x ≤ max a a) = false from decide_eq_false (by omega)]; rfl)
      go_enter Tryz.func140, Tryz.ntmps140
      go_wp2
      go_ret
      exact ⟨by rw [HE.out]; first | rfl | (show Ending.returned (Value.bool (decide _)) = _; first | rw [decide_eq_false (by omega)] | rw [decide_eq_true (by omega)]), rfl⟩
  · rcases (show x < b ∨ (b ≤ x ∧ x ≤ a) ∨ (b ≤ x ∧ a < x) by omega) with g | ⟨g, g'⟩ | ⟨g, g'⟩
    · have HE := hid (show R = false by rw [HW.out, show decide (min a b ≤ x) = false from decide_eq_false (by omega)]; rfl)
      go_enter Tryz.func140, Tryz.ntmps140
      go_wp2
      go_ret
      exact ⟨by rw [HE.out]; first | rfl | (show Ending.returned (Value.bool (decide _)) = _; first | rw [decide_eq_false (by omega)] | rw [decide_eq_true (by omega)]), rfl⟩
    · have HE := hid (show R = true by rw [HW.out, show decide (min a b ≤ x) = true from decide_eq_true (by omega), show decide (x ≤ max a b) = true from decide_eq_true (by omega)]; rfl)
      go_enter Tryz.func140, Tryz.ntmps140
      go_wp2
      go_ret
      exact ⟨by rw [HE.out]; first | rfl | (show Ending.returned (Value.bool (decide _)) = _; first | rw [decide_eq_false (by omega)] | rw [decide_eq_true (by omega)]), rfl⟩
    · have HE := hid (show R = false by rw [HW.out, show decide (min a b ≤ x) = true from decide_eq_true (by omega), show decide (x ≤ max a b) = false from decide_eq_false (by omega)]; rfl)
      go_enter Tryz.func140, Tryz.ntmps140
      go_wp2
      go_ret
      exact ⟨by rw [HE.out]; first | rfl | (show Ending.returned (Value.bool (decide _)) = _; first | rw [decide_eq_false (by omega)] | rw [decide_eq_true (by omega)]), rfl⟩

set_option maxHeartbeats 1600000 in
theorem lineHas_any (ax ay bx by' px py : Int) (w : World) :
    Calls Tryz.prog 114 #[pv ax ay, pv bx by', pv px py] w fun e w' => e = .returned (.bool (btw px ax bx && btw py ay by' && onP (near ax) (near ay) (near bx) (near by') (near px) (near py))) ∧ Below w.heap.size w w' := by
  obtain ⟨wA, hwA⟩ : ∃ wA, w.alloc (.cells #[.int .i64 ax, .int .i64 ay] 23) = wA := ⟨_, rfl⟩
  obtain ⟨wB, hwB⟩ : ∃ wB, wA.alloc (.cells #[.int .i64 bx, .int .i64 by'] 23) = wB := ⟨_, rfl⟩
  obtain ⟨wC, hwC⟩ : ∃ wC, wB.alloc (.cells #[.int .i64 px, .int .i64 py] 23) = wC := ⟨_, rfl⟩
  obtain ⟨hA, hB, hC, hBL, hszC, hszA, hszB⟩ := box3 hwA hwB hwC
  have HB := hid hBL
  have a0 := hA.c0; have a1 := hA.c1; have b0 := hB.c0; have b1 := hB.c1; have c0 := hC.c0; have c1 := hC.c1
  have H1 := hid (fun W => lineBetween_any px ax bx W)
  have H2 := hid (fun W => lineBetween_any py ay by' W)
  have H3 := hid (fun W => on_any ax ay bx by' px py W)
  generalize btw px ax bx = R1 at *
  generalize btw py ay by' = R2 at *
  generalize onP (near ax) (near ay) (near bx) (near by') (near px) (near py) = R3 at *
  clear hA hB hC hBL
  cases R1 with
  | false =>
    go_enter Tryz.func114, Tryz.ntmps114
    go_wp2_with (go_at_call 140; refine (H1.out _).mono ?_; rintro e w1 ⟨rfl, rfl⟩; clear H1)
    go_ret
    exact ⟨rfl, HB.out⟩
  | true =>
    cases R2 with
    | false =>
      go_enter Tryz.func114, Tryz.ntmps114
      go_wp2_with (first
        | (go_at_call 140; refine (H1.out _).mono ?_; rintro e w1 ⟨rfl, rfl⟩; clear H1)
        | (go_at_call 140; refine (H2.out _).mono ?_; rintro e w1 ⟨rfl, rfl⟩; clear H2))
      go_ret
      exact ⟨rfl, HB.out⟩
    | true =>
      go_enter Tryz.func114, Tryz.ntmps114
      go_wp2_with (first
        | (go_at_call 140; refine (H1.out _).mono ?_; rintro e w1 ⟨rfl, rfl⟩; clear H1)
        | (go_at_call 140; refine (H2.out _).mono ?_; rintro e w1 ⟨rfl, rfl⟩; clear H2)
        | (go_at_call 141; refine (H3.out _).mono ?_; rintro e w1 ⟨rfl, hb1⟩; replace HB := hid (HB.out.trans (hb1.mono HB.out.size)); clear hb1 H3))
      go_ret
      exact ⟨rfl, HB.out⟩

end Go.Proofs.YtkdnkmheidbfdaaGreat

namespace Go.Proofs.YtkdnkmheidbfdaaGreat
open Go.RowKit Go.Sort

/-- A point of the grid. -/
def Gp (p : Pp) : Prop := near p.1 = p.1 ∧ near p.2 = p.2
theorem turn_gp {a b c : Pp} (ha : Gp a) (hb : Gp b) (hc : Gp c) (w : World) :
    Calls Tryz.prog 165 #[pv a.1 a.2, pv b.1 b.2, pv c.1 c.2] w fun e w' => e = .returned (.int .i64 (tr2 a b c)) ∧ Below w.heap.size w w' := by
  have := turn_any a.1 a.2 b.1 b.2 c.1 c.2 w
  rw [ha.1, ha.2, hb.1, hb.2, hc.1, hc.2] at this
  exact this
theorem on_gp {a b p : Pp} (ha : Gp a) (hb : Gp b) (hp : Gp p) (w : World) :
    Calls Tryz.prog 141 #[pv a.1 a.2, pv b.1 b.2, pv p.1 p.2] w fun e w' => e = .returned (.bool (on2 a b p)) ∧ Below w.heap.size w w' := by
  have := on_any a.1 a.2 b.1 b.2 p.1 p.2 w
  rw [ha.1, ha.2, hb.1, hb.2, hp.1, hp.2] at this
  exact this
theorem gp_near (x y : Int) : Gp (near x, near y) := ⟨near_near x, near_near y⟩
end Go.Proofs.YtkdnkmheidbfdaaGreat

namespace Go.Proofs.YtkdnkmheidbfdaaGreat
open Go.RowKit Go.Sort

set_option maxHeartbeats 3200000 in
theorem segRay_core (w : World) (ax ay bx by' px py AX AY BX BY PX PY T1 T2 : Int) (Rr : Bool)
    (HCa : Hid (∀ W, Calls Tryz.prog 218 #[pv ax ay] W fun e w' => e = .returned (pv AX AY) ∧ Below W.heap.size W w'))
    (HCb : Hid (∀ W, Calls Tryz.prog 218 #[pv bx by'] W fun e w' => e = .returned (pv BX BY) ∧ Below W.heap.size W w'))
    (HCp : Hid (∀ W, Calls Tryz.prog 218 #[pv px py] W fun e w' => e = .returned (pv PX PY) ∧ Below W.heap.size W w'))
    (HT1 : Hid (∀ W, Calls Tryz.prog 165 #[pv BX BY, pv AX AY, pv PX PY] W fun e w' => e = .returned (.int .i64 T1) ∧ Below W.heap.size W w'))
    (HT2 : Hid (∀ W, Calls Tryz.prog 165 #[pv AX AY, pv BX BY, pv PX PY] W fun e w' => e = .returned (.int .i64 T2) ∧ Below W.heap.size W w'))
    (HR1 : Hid (BY < AY → Rr = (decide (BY ≤ PY) && decide (PY < AY) && decide (0 < T1)))) (HR2 : Hid (¬ BY < AY → Rr = (decide (AY ≤ PY) && decide (PY < BY) && decide (0 < T2)))) :
    Calls Tryz.prog 206 #[pv ax ay, pv bx by', pv px py] w fun e w' => e = .returned (.bool Rr) ∧ Below w.heap.size w w' := by
  obtain ⟨wA, hwA⟩ : ∃ wA, w.alloc (.cells #[.int .i64 ax, .int .i64 ay] 23) = wA := ⟨_, rfl⟩
  obtain ⟨wB, hwB⟩ : ∃ wB, wA.alloc (.cells #[.int .i64 bx, .int .i64 by'] 23) = wB := ⟨_, rfl⟩
  obtain ⟨wC, hwC⟩ : ∃ wC, wB.alloc (.cells #[.int .i64 px, .int .i64 py] 23) = wC := ⟨_, rfl⟩
  obtain ⟨hA, hB, hC, hBL, hszC, hszA, hszB⟩ := box3 hwA hwB hwC
  have HBL := hid hBL
  have HA := hid hA
  have HB := hid hB
  have HC := hid hC
  clear hA hB hC hBL
  go_enter Tryz.func206, Tryz.ntmps206
  go_wp2
  refine wp_region_free (Z := .cells #[.int .i64 0, .int .i64 0] 23) 6 8 (by kernel_rfl) (by kernel_rfl) ?_ ?_
  · intro o ho
    simp only [List.take, List.drop, List.mem_cons, List.not_mem_nil, or_false] at ho
    rcases ho with rfl | rfl <;> exact ⟨rfl, fun ρ w => exec_newP rfl ρ w⟩
  apply Exists.intro
  apply And.intro
  · intro wq hbq
    have hA := HA.out.below hbq (by omega)
    have hB := HB.out.below hbq (by omega)
    have hC := HC.out.below hbq (by omega)
    have ka0 := cell_regrown hA.c0; have ka1 := cell_regrown hA.c1; have kb0 := cell_regrown hB.c0; have kb1 := cell_regrown hB.c1; have kc0 := cell_regrown hC.c0; have kc1 := cell_regrown hC.c1
    have ca := fun d os => HCa.out (grow (redrawn wq d) os)
    have cb := fun d os => HCb.out (grow (redrawn wq d) os)
    have cc := fun d os => HCp.out (grow (redrawn wq d) os)
    clear hA hB hC hbq
    simp only [List.take]
    go_big_quiet_step (fail)
    go_big_quiet_step (exact Calls.regrown_of (ca _ _))
    go_big_quiet_step (fail)
    go_big_quiet_step (exact Calls.regrown_of (cb _ _))
    go_big_quiet_step (fail)
    go_big_quiet_step (exact Calls.regrown_of (cc _ _))
    exact wpQuiet_nil rfl
  · intro bs W hlen hb hbs hnd
    obtain ⟨b1, b2, rfl⟩ : ∃ b1 b2, bs = [b1, b2] := by
      match bs, hlen with
      | [b1, b2], _ => exact ⟨b1, b2, rfl⟩
    simp only [List.mem_cons, List.not_mem_nil, or_false, forall_eq_or_imp, forall_eq] at hbs
    simp only [List.nodup_cons, List.mem_cons, List.not_mem_nil, or_false, not_false_eq_true, List.nodup_nil, and_true] at hnd
    obtain ⟨⟨l1, p1⟩, l2, p2⟩ := hbs
    replace p1 : Pt W b1 0 0 := p1
    replace p2 : Pt W b2 0 0 := p2
    have hC := HC.out.below hb (by omega)
    have HB0 := hid (HBL.out.trans (hb.mono HBL.out.size))
    have d10 := p1.c0; have d11 := p1.c1; have f10 := p1.f0; have f11 := p1.f1
    obtain ⟨V1, hV1⟩ : ∃ V, (W.setCell ⟨b1, 0, none⟩ (.int .i64 AX)).setCell ⟨b1, 1, none⟩ (.int .i64 AY) = V := ⟨_, rfl⟩
    replace p1 : Pt V1 b1 AX AY := by rw [← hV1]; exact p1.set _ _
    replace p2 : Pt V1 b2 0 0 := by rw [← hV1]; exact p2.far (fun h => hnd h.symm) _ _
    replace hC : Pt V1 (w.heap.size + 2) px py := by rw [← hV1]; exact hC.far (by omega) _ _
    replace HB0 := hid (show Below w.heap.size w V1 by rw [← hV1]; exact below_set2 HB0.out (by omega))
    have d20 := p2.c0; have d21 := p2.c1; have f20 := p2.f0; have f21 := p2.f1
    obtain ⟨V2, hV2⟩ : ∃ V, (V1.setCell ⟨b2, 0, none⟩ (.int .i64 BX)).setCell ⟨b2, 1, none⟩ (.int .i64 BY) = V := ⟨_, rfl⟩
    replace p1 : Pt V2 b1 AX AY := by rw [← hV2]; exact p1.far hnd _ _
    replace p2 : Pt V2 b2 BX BY := by rw [← hV2]; exact p2.set _ _
    replace hC : Pt V2 (w.heap.size + 2) px py := by rw [← hV2]; exact hC.far (by omega) _ _
    replace HB0 := hid (show Below w.heap.size w V2 by rw [← hV2]; exact below_set2 HB0.out (by omega))
    have d30 := hC.c0; have d31 := hC.c1; have f30 := hC.f0; have f31 := hC.f1
    obtain ⟨V3, hV3⟩ : ∃ V, (V2.setCell ⟨w.heap.size + 2, 0, none⟩ (.int .i64 PX)).setCell ⟨w.heap.size + 2, 1, none⟩ (.int .i64 PY) = V := ⟨_, rfl⟩
    replace p1 : Pt V3 b1 AX AY := by rw [← hV3]; exact p1.far (by omega) _ _
    replace p2 : Pt V3 b2 BX BY := by rw [← hV3]; exact p2.far (by omega) _ _
    replace hC : Pt V3 (w.heap.size + 2) PX PY := by rw [← hV3]; exact hC.set _ _
    replace HB0 := hid (show Below w.heap.size w V3 by rw [← hV3]; exact below_set2 HB0.out (by omega))
    have g10 := p1.c0; have g11 := p1.c1; have g20 := p2.c0; have g21 := p2.c1; have g30 := hC.c0; have g31 := hC.c1; have h10 := p1.f0; have h11 := p1.f1
    have HD := hid hnd
    simp only [List.take, List.drop, puts]
    by_cases hs : BY < AY
    · obtain ⟨V4, hV4⟩ : ∃ V, (V3.setCell ⟨b1, 0, none⟩ (.int .i64 BX)).setCell ⟨b1, 1, none⟩ (.int .i64 BY) = V := ⟨_, rfl⟩
      replace p1 : Pt V4 b1 BX BY := by rw [← hV4]; exact p1.set _ _
      replace p2 : Pt V4 b2 BX BY := by rw [← hV4]; exact p2.far (fun h => hnd h.symm) _ _
      replace hC : Pt V4 (w.heap.size + 2) PX PY := by rw [← hV4]; exact hC.far (by omega) _ _
      replace HB0 := hid (show Below w.heap.size w V4 by rw [← hV4]; exact below_set2 HB0.out (by omega))
      have i20 := p2.c0; have i21 := p2.c1; have i22 := p2.f0; have i23 := p2.f1
      obtain ⟨V5, hV5⟩ : ∃ V, (V4.setCell ⟨b2, 0, none⟩ (.int .i64 AX)).setCell ⟨b2, 1, none⟩ (.int .i64 AY) = V := ⟨_, rfl⟩
      replace p1 : Pt V5 b1 BX BY := by rw [← hV5]; exact p1.far hnd _ _
      replace p2 : Pt V5 b2 AX AY := by rw [← hV5]; exact p2.set _ _
      replace hC : Pt V5 (w.heap.size + 2) PX PY := by rw [← hV5]; exact hC.far (by omega) _ _
      replace HB0 := hid (show Below w.heap.size w V5 by rw [← hV5]; exact below_set2 HB0.out (by omega))
      have j10 := p1.c0; have j11 := p1.c1; have j20 := p2.c0; have j21 := p2.c1; have j30 := hC.c0; have j31 := hC.c1
      clear p1 p2 hC hb hlen l1 l2 hnd
      have HRR := hid (HR1.out hs)
      by_cases h1 : BY ≤ PY
      · by_cases h2 : PY < AY
        · go_wp2_with (go_at_call 165; refine (HT1.out _).mono ?_; rintro e w1 ⟨rfl, hb1⟩; replace HB0 := hid (HB0.out.trans (hb1.mono HB0.out.size)); clear hb1)
          go_ret
          exact ⟨by rw [HRR.out, decide_eq_true (show BY ≤ PY by omega), decide_eq_true (show PY < AY by omega)]; rfl, HB0.out⟩
        · go_wp2
          go_ret
          exact ⟨by rw [HRR.out, decide_eq_true (show BY ≤ PY by omega), decide_eq_false (show ¬ PY < AY by omega)]; rfl, HB0.out⟩
      · go_wp2
        go_ret
        exact ⟨by rw [HRR.out, decide_eq_false (show ¬ BY ≤ PY by omega)]; rfl, HB0.out⟩
    · clear p1 p2 hC hb hlen l1 l2 hnd
      have HRR := hid (HR2.out (by omega))
      by_cases h1 : AY ≤ PY
      · by_cases h2 : PY < BY
        · go_wp2_with (go_at_call 165; refine (HT2.out _).mono ?_; rintro e w1 ⟨rfl, hb1⟩; replace HB0 := hid (HB0.out.trans (hb1.mono HB0.out.size)); clear hb1)
          go_ret
          exact ⟨by rw [HRR.out, decide_eq_true (show AY ≤ PY by omega), decide_eq_true (show PY < BY by omega)]; rfl, HB0.out⟩
        · go_wp2
          go_ret
          exact ⟨by rw [HRR.out, decide_eq_true (show AY ≤ PY by omega), decide_eq_false (show ¬ PY < BY by omega)]; rfl, HB0.out⟩
      · go_wp2
        go_ret
        exact ⟨by rw [HRR.out, decide_eq_false (show ¬ AY ≤ PY by omega)]; rfl, HB0.out⟩

theorem rayP_down {a b p : Pp} (h : b.2 < a.2) : rayP a b p = (decide (b.2 ≤ p.2) && decide (p.2 < a.2) && decide (0 < tr2 b a p)) := by
  by_cases h1 : p.2 < a.2 <;> by_cases h2 : p.2 < b.2
  · simp [rayP, h1, h2, show ¬ b.2 ≤ p.2 by omega]
  · simp [rayP, h, h1, h2, show b.2 ≤ p.2 by omega]
  · omega
  · simp [rayP, h1, h2]
theorem rayP_up {a b p : Pp} (h : ¬ b.2 < a.2) : rayP a b p = (decide (a.2 ≤ p.2) && decide (p.2 < b.2) && decide (0 < tr2 a b p)) := by
  by_cases h1 : p.2 < a.2 <;> by_cases h2 : p.2 < b.2
  · simp [rayP, h1, h2, show ¬ a.2 ≤ p.2 by omega]
  · omega
  · simp [rayP, h, h1, h2, show a.2 ≤ p.2 by omega]
  · simp [rayP, h1, h2]

theorem segRay_any (ax ay bx by' px py : Int) (w : World) :
    Calls Tryz.prog 206 #[pv ax ay, pv bx by', pv px py] w fun e w' => e = .returned (.bool (rayP (near ax, near ay) (near bx, near by') (near px, near py))) ∧ Below w.heap.size w w' :=
  segRay_core w ax ay bx by' px py _ _ _ _ _ _ _ _ _ (hid fun W => segHeld_any ax ay W) (hid fun W => segHeld_any bx by' W) (hid fun W => segHeld_any px py W) (hid fun W => turn_gp (gp_near bx by') (gp_near ax ay) (gp_near px py) W) (hid fun W => turn_gp (gp_near ax ay) (gp_near bx by') (gp_near px py) W)
    (hid fun h => rayP_down h) (hid fun h => rayP_up h)
end Go.Proofs.YtkdnkmheidbfdaaGreat

namespace Go.Proofs.YtkdnkmheidbfdaaGreat
open Go.RowKit Go.Sort

/-- Is p on the segment, and in its box as it was told? -/
def hasP (a b p : Pp) : Bool := btw p.1 a.1 b.1 && btw p.2 a.2 b.2 && onP (near a.1) (near a.2) (near b.1) (near b.2) (near p.1) (near p.2)
def hasL (ps : List Pp) (p : Pp) (i : Nat) : Bool := hasP (lpt ps i) (lpt ps (i + 1)) p
def athL (ps : List Pp) (p : Pp) : Option Nat := (List.range (ps.length - 1)).find? (hasL ps p)
theorem athL_none {ps : List Pp} {p : Pp} (h : ∀ i, i < ps.length - 1 → hasL ps p i = false) : athL ps p = none := by
  unfold athL
  rw [List.find?_eq_none]
  intro i hi
  rw [h i (List.mem_range.1 hi)]
  decide
theorem athL_some {ps : List Pp} {p : Pp} {k : Nat} (hk : k < ps.length - 1) (h : hasL ps p k = true) (h0 : ∀ i, i < k → hasL ps p i = false) : athL ps p = some k := by
  unfold athL
  rw [List.find?_eq_some_iff_getElem]
  refine ⟨h, k, by simpa using hk, by simp, fun j hj => ?_⟩
  simp only [List.getElem_range, h0 j hj, Bool.not_false]

set_option maxHeartbeats 1600000 in
theorem lineAtH_any (v : Value) (ps : List Pp) (px py : Int) (w : World) (hp : Pts w v ps) (hl : ps.length ≤ 100000) :
    Calls Tryz.prog 82 #[v, pv px py] w fun e w' => e = .returned (.int .i64 (atI (athL ps (px, py)))) ∧ Below w.heap.size w w' := by
  have hp' := hp
  obtain ⟨a, cap, rfl, _⟩ := hp'
  have HP := hid hp
  obtain ⟨n, hn⟩ : ∃ n, ps.length = n := ⟨_, rfl⟩
  have HN := hid hn
  rw [hn] at hl HP ⊢
  obtain ⟨wA, hwA⟩ : ∃ wA, w.alloc (.cells #[.int .i64 px, .int .i64 py] 23) = wA := ⟨_, rfl⟩
  obtain ⟨hA, hBL, hszA⟩ := box1 hwA
  have HA := hid hA
  have HBL := hid hBL
  obtain ⟨N, hNN⟩ : ∃ N, n - 1 = N := ⟨_, rfl⟩
  have HNN := hid hNN
  have HS := hid (fun W => segments_any a n cap W hl)
  rw [hNN] at HS
  clear hNN
  clear hA hBL hp hn
  go_enter Tryz.func82, Tryz.ntmps82
  go_wp2_with (go_at_call 113; refine (HS.out _).mono ?_; rintro e w1 ⟨rfl, hb1⟩; have HB1 := hid hb1; clear hb1)
  go_loopw [8] (fun iv wr => ∃ k : Nat, k ≤ N ∧ iv = .int .i64 k ∧ (∀ i, i < k → hasL ps (px, py) i = false) ∧ Below wA.heap.size wA wr) (fun iv _ => N - (intOf iv).toNat)
  case atStart => exact ⟨0, by omega, rfl, (fun i hi => absurd hi (Nat.not_lt_zero i)), HB1.out⟩
  case round =>
    obtain ⟨k, hk, rfl, hno, hbr⟩ := hrel
    clear HB1 HS
    have HNO := hid hno
    have HBR := hid hbr
    have HBW := hid (HBL.out.trans (hbr.mono HBL.out.size))
    have hA := HA.out.below hbr HA.out.lt
    by_cases hlt : k < N
    · have hkI : (k : Int) < (N : Int) := by omega
      have hkN : k + 1 < n := by have := HNN.out; omega
      have hkn : (k : Int) + 1 < (n : Int) := by omega
      have hkm : (k : Int) < (n : Int) := by omega
      obtain ⟨b, off, rfl, hc⟩ := (HP.out.below HBW.out).row (by rw [HN.out]; omega)
      obtain ⟨z0, z1⟩ := hc k (by rw [HN.out]; omega)
      obtain ⟨x0, x1⟩ := hc (k + 1) (by rw [HN.out]; omega)
      have y0 := cell_regrown z0; have y1 := cell_regrown z1; have u0 := cell_regrown x0; have u1 := cell_regrown x1; have a0 := cell_regrown hA.c0; have a1 := cell_regrown hA.c1
      have c1 := fun d os => lineHas_any (lpt ps k).1 (lpt ps k).2 (lpt ps (k + 1)).1 (lpt ps (k + 1)).2 px py (grow (redrawn wr d) os)
      have HON : Hid (hasL ps (px, py) k = (btw px (lpt ps k).1 (lpt ps (k + 1)).1 && btw py (lpt ps k).2 (lpt ps (k + 1)).2 && onP (near (lpt ps k).1) (near (lpt ps k).2) (near (lpt ps (k + 1)).1) (near (lpt ps (k + 1)).2) (near px) (near py))) := hid rfl
      generalize (lpt ps k).1 = X0 at *
      generalize (lpt ps k).2 = Y0 at *
      generalize (lpt ps (k + 1)).1 = X1 at *
      generalize (lpt ps (k + 1)).2 = Y1 at *
      generalize (btw px X0 X1 && btw py Y0 Y1 && onP (near X0) (near Y0) (near X1) (near Y1) (near px) (near py)) = O at *
      clear z0 z1 x0 x1 hc hA hbr hno
      cases O with
      | true =>
        go_wp2
        refine wp_region_quiet_below (by kernel_rfl) (by kernel_rfl) ?_
        go_big_quiet_step (fail)
        go_big_quiet_step (fail)
        go_big_quiet_step (fail)
        go_big_quiet_step (fail)
        go_big_quiet_step (fail)
        go_big_quiet_step (fail)
        go_big_quiet_step (fail)
        go_big_quiet_step (fail)
        go_big_quiet_step (fail)
        go_big_quiet_step (fail)
        go_big_quiet_step (exact Calls.regrown_of (c1 _ _))
        refine wpQuiet_nil ?_
        intro W1 hW'
        obtain ⟨⟨dq, osq⟩, hW⟩ := hW'
        have HW1 := hid (show Below wr.heap.size wr W1 by rw [hW]; exact below_regrown _ _ _)
        clear hW
        clear y0 y1 u0 u1 a0 a1 c1
        go_wp2
        go_ret
        refine ⟨?_, HBW.out.trans (HW1.out.mono HBW.out.size)⟩
        rw [athL_some (by rw [HN.out]; omega) HON.out HNO.out]
        rfl
      | false =>
        go_wp2
        refine wp_region_quiet_below (by kernel_rfl) (by kernel_rfl) ?_
        go_big_quiet_step (fail)
        go_big_quiet_step (fail)
        go_big_quiet_step (fail)
        go_big_quiet_step (fail)
        go_big_quiet_step (fail)
        go_big_quiet_step (fail)
        go_big_quiet_step (fail)
        go_big_quiet_step (fail)
        go_big_quiet_step (fail)
        go_big_quiet_step (fail)
        go_big_quiet_step (exact Calls.regrown_of (c1 _ _))
        refine wpQuiet_nil ?_
        intro W1 hW'
        obtain ⟨⟨dq, osq⟩, hW⟩ := hW'
        have HW1 := hid (show Below wr.heap.size wr W1 by rw [hW]; exact below_regrown _ _ _)
        clear hW
        clear y0 y1 u0 u1 a0 a1 c1
        go_wp2
        go_roundw
        case rel =>
          refine ⟨k + 1, by omega, by go_num, fun i hi => ?_, HBR.out.trans (HW1.out.mono HBR.out.size)⟩
          by_cases hik : i = k
          · rw [hik]; exact HON.out
          · exact HNO.out i (by omega)
        case measure => simp [intOf]; omega
    · have hkI : ¬ (k : Int) < (N : Int) := by omega
      clear hA hbr hno
      go_wp2
      go_ret
      refine ⟨?_, HBW.out⟩
      rw [athL_none (fun i hi => HNO.out i (by have := HNN.out; rw [HN.out] at hi; omega))]
      rfl

theorem src2 {W : World} {b : Nat} {x0 y0 x1 y1 : Int} (hh : W.heap[b]? = some (.cells #[.int .i64 x0, .int .i64 y0, .int .i64 x1, .int .i64 y1] 23)) : Src W (.slice (some ⟨b, 0, none⟩) 2 2) [(x0, y0), (x1, y1)] := by
  refine .inr ⟨b, 0, 2, rfl, Nat.le_refl _, fun k p hk => ?_⟩
  match k, hk with
  | 0, hk => simp at hk; subst hk; simp [World.cell?, hh]
  | 1, hk => simp at hk; subst hk; simp [World.cell?, hh]
  | k + 2, hk => simp at hk
theorem ath_two (a b p : Pp) : (atI (athL [a, b] p) == 0) = hasP a b p := by
  cases h : hasP a b p with
  | true => rw [athL_some (k := 0) (by show 0 < 1; decide) (show hasL [a, b] p 0 = true from h) (fun i hi => by omega)]; rfl
  | false => rw [athL_none (fun i hi => by have : i = 0 := by have : i < 1 := hi; omega
                                           subst this; exact h)]; rfl

set_option maxHeartbeats 1600000 in
theorem ringHas_any (ax ay bx by' px py : Int) (w : World) :
    Calls Tryz.prog 194 #[pv ax ay, pv bx by', pv px py] w fun e w' => e = .returned (.bool (hasP (ax, ay) (bx, by') (px, py))) ∧ Below w.heap.size w w' := by
  obtain ⟨wA, hwA⟩ : ∃ wA, w.alloc (.cells #[.int .i64 ax, .int .i64 ay] 23) = wA := ⟨_, rfl⟩
  obtain ⟨wB, hwB⟩ : ∃ wB, wA.alloc (.cells #[.int .i64 bx, .int .i64 by'] 23) = wB := ⟨_, rfl⟩
  obtain ⟨wC, hwC⟩ : ∃ wC, wB.alloc (.cells #[.int .i64 px, .int .i64 py] 23) = wC := ⟨_, rfl⟩
  obtain ⟨hA, hB, hC, hBL, hszC, hszA, hszB⟩ := box3 hwA hwB hwC
  obtain ⟨wD, hwD⟩ : ∃ wD, wC.alloc (.cells #[.int .i64 ax, .int .i64 ay, .int .i64 bx, .int .i64 by'] 23) = wD := ⟨_, rfl⟩
  have hbD : Below wC.heap.size wC wD := by rw [← hwD]; exact (Below.refl _ _).alloc (Nat.le_refl _) _
  have HB := hid (hBL.trans (hbD.mono hBL.size))
  have a0 := hA.c0; have a1 := hA.c1; have b0 := hB.c0; have b1 := hB.c1
  have hC' := hC.below hbD hC.lt
  have c0 := hC'.c0; have c1 := hC'.c1
  have HS : Src wD (.slice (some ⟨w.heap.size + 3, 0, none⟩) 2 2) [(ax, ay), (bx, by')] := src2 (by rw [← hwD, ← hszC]; unfold World.alloc; simp)
  have hszD : wD.heap.size = w.heap.size + 4 := by rw [← hwD]; simp [hszC]
  have H1 := hid (lineAtH_any _ [(ax, ay), (bx, by')] px py wD HS.pts (by show 2 ≤ 100000; decide))
  have HE := hid (ath_two (ax, ay) (bx, by') (px, py))
  generalize hasP (ax, ay) (bx, by') (px, py) = R at *
  generalize atI (athL [(ax, ay), (bx, by')] (px, py)) = T at *
  clear hA hB hC hBL HS hC' hbD
  go_enter Tryz.func194, Tryz.ntmps194
  go_wp2_with (go_at_call 82; refine H1.out.mono ?_; rintro e w1 ⟨rfl, hb1⟩; replace HB := hid (HB.out.trans (hb1.mono HB.out.size)); clear hb1 H1)
  go_ret
  exact ⟨by rw [← HE.out]; rfl, HB.out⟩

set_option maxHeartbeats 1600000 in
theorem ringMeets_any (ax ay bx by' px py : Int) (w : World) :
    Calls Tryz.prog 195 #[pv ax ay, pv bx by', pv px py] w fun e w' => e = .returned (.bool (okP px py && rayP (near ax, near ay) (near bx, near by') (near px, near py))) ∧ Below w.heap.size w w' := by
  obtain ⟨wA, hwA⟩ : ∃ wA, w.alloc (.cells #[.int .i64 ax, .int .i64 ay] 23) = wA := ⟨_, rfl⟩
  obtain ⟨wB, hwB⟩ : ∃ wB, wA.alloc (.cells #[.int .i64 bx, .int .i64 by'] 23) = wB := ⟨_, rfl⟩
  obtain ⟨wC, hwC⟩ : ∃ wC, wB.alloc (.cells #[.int .i64 px, .int .i64 py] 23) = wC := ⟨_, rfl⟩
  obtain ⟨hA, hB, hC, hBL, hszC, hszA, hszB⟩ := box3 hwA hwB hwC
  have HB := hid hBL
  have HPA := hid hA
  have HPB := hid hB
  have HPC := hid hC
  have c0 := hC.c0; have c1 := hC.c1
  have H1 := hid (fun W => ok_any px py W)
  have H2 := hid (fun W => segRay_any ax ay bx by' px py W)
  generalize okP px py = R1 at *
  generalize rayP (near ax, near ay) (near bx, near by') (near px, near py) = R2 at *
  clear hA hB hC hBL
  cases R1 with
  | false =>
    go_enter Tryz.func195, Tryz.ntmps195
    go_wp2_with (go_at_call 11; refine (H1.out _).mono ?_; rintro e w1 ⟨rfl, hb1⟩; replace HB := hid (HB.out.trans (hb1.mono HB.out.size)); clear hb1 H1)
    go_ret
    exact ⟨rfl, HB.out⟩
  | true =>
    go_enter Tryz.func195, Tryz.ntmps195
    go_wp2_with (first
      | (go_at_call 11; refine (H1.out _).mono ?_; rintro e w1 ⟨rfl, hb1⟩; replace HB := hid (HB.out.trans (hb1.mono HB.out.size)); have p0 := (HPA.out.below hb1 (by omega)).c0; have p1 := (HPA.out.below hb1 (by omega)).c1; have q0 := (HPB.out.below hb1 (by omega)).c0; have q1 := (HPB.out.below hb1 (by omega)).c1; have r0 := (HPC.out.below hb1 (by omega)).c0; have r1 := (HPC.out.below hb1 (by omega)).c1; clear hb1 H1)
      | (go_at_call 206; refine (H2.out _).mono ?_; rintro e w2 ⟨rfl, hb2⟩; replace HB := hid (HB.out.trans (hb2.mono HB.out.size)); clear hb2 H2))
    go_ret
    exact ⟨rfl, HB.out⟩
end Go.Proofs.YtkdnkmheidbfdaaGreat

namespace Go.Proofs.YtkdnkmheidbfdaaGreat
open Go.RowKit Go.Shelf Go.Sort

attribute [local go_sem] Oper.semAt_some

/-- Is p on the segment at k, does it ray p, as ring asks it? -/
def hasK (ps : List Pp) (p : Pp) (k : Nat) : Bool := hasP (lpt ps k) (nxt ps k) p
def meetK (ps : List Pp) (p : Pp) (k : Nat) : Bool := okP p.1 p.2 && rayP (clP (lpt ps k)) (clP (nxt ps k)) (clP p)
def odF (mb : Nat → Bool) (ks : List Nat) : Bool := ks.foldl (fun o k => if mb k then !o else o) false
theorem odF_snoc (mb : Nat → Bool) (ks : List Nat) (k : Nat) : odF mb (ks ++ [k]) = if mb k then !odF mb ks else odF mb ks := by unfold odF; rw [List.foldl_append]; rfl
def inF (ps : List Pp) (p : Pp) : Int := if (List.range ps.length).any (hasK ps p) then 0 else if odF (meetK ps p) (List.range ps.length) then 1 else -1

/-- Amid Inside. -/
structure InI (w : World) (px py r : Int) (o : Bool) (W : World) : Prop where
  pp : Pt W w.heap.size px py
  res : Boxed W (w.heap.size + 1) 3 (.int .i64 r)
  odd : Boxed W (w.heap.size + 2) 4 (.bool o)
  big : w.heap.size + 4 ≤ W.heap.size
  below : Below w.heap.size w W
theorem InI.turn {w W W' : World} {px py r : Int} {o : Bool} {row : Option Nat} (h : InI w px py r o W) (hg : W.grownBy W' row) (hr : ∀ r, row = some r → w.heap.size ≤ r ∧ ∃ o : Obj, W.heap[r]? = some o ∧ o.isCells = false) : InI w px py r o W' :=
  ⟨block_turn hg (fun r e => (hr r e).2) h.pp, block_turn hg (fun r e => (hr r e).2) h.res, block_turn hg (fun r e => (hr r e).2) h.odd, Nat.le_trans h.big hg.size, h.below.grown hg h.below.size (fun k e => (hr k e).1)⟩
theorem InI.fresh {w W W' : World} {px py r : Int} {o : Bool} (h : InI w px py r o W) (hb : Below W.heap.size W W') : InI w px py r o W' :=
  ⟨(hb.block _ h.pp.lt).trans h.pp, boxed_below h.res hb, boxed_below h.odd hb, Nat.le_trans h.big hb.size, h.below.trans (hb.mono h.below.size)⟩
theorem InI.setR {w W : World} {px py r : Int} {o : Bool} (h : InI w px py r o W) (t : Int) : InI w px py t o (W.setCell ⟨w.heap.size + 1, 0, none⟩ (.int .i64 t)) :=
  ⟨(Below.heap_setCell W _ _ _ (by show w.heap.size ≠ w.heap.size + 1; omega)).trans h.pp, h.res.set _, (Below.heap_setCell W _ _ _ (by show w.heap.size + 2 ≠ w.heap.size + 1; omega)).trans h.odd, by rw [World.size_setCell]; exact h.big, h.below.setCell (p := ⟨w.heap.size + 1, 0, none⟩) (by show w.heap.size ≤ w.heap.size + 1; omega) _⟩
theorem InI.setO {w W : World} {px py r : Int} {o : Bool} (h : InI w px py r o W) (t : Bool) : InI w px py r t (W.setCell ⟨w.heap.size + 2, 0, none⟩ (.bool t)) :=
  ⟨(Below.heap_setCell W _ _ _ (by show w.heap.size ≠ w.heap.size + 2; omega)).trans h.pp, (Below.heap_setCell W _ _ _ (by show w.heap.size + 1 ≠ w.heap.size + 2; omega)).trans h.res, h.odd.set _, by rw [World.size_setCell]; exact h.big, h.below.setCell (p := ⟨w.heap.size + 2, 0, none⟩) (by show w.heap.size ≤ w.heap.size + 2; omega) _⟩
theorem push4 (a : Array Obj) (x0 x1 x2 x3 : Obj) : ((((a.push x0).push x1).push x2).push x3)[a.size]? = some x0 ∧ ((((a.push x0).push x1).push x2).push x3)[a.size + 1]? = some x1 ∧ ((((a.push x0).push x1).push x2).push x3)[a.size + 2]? = some x2 ∧ ((((a.push x0).push x1).push x2).push x3)[a.size + 3]? = some x3 := by
  refine ⟨?_, ?_, ?_, ?_⟩ <;> simp only [Array.getElem?_push, Array.size_push] <;> repeat (first | rw [if_pos (by omega)] | rw [if_neg (by omega)] | rw [if_pos trivial])

set_option maxRecDepth 100000 in
set_option maxHeartbeats 3200000 in
theorem inside_in (ao : Option Addr) (n cap b off : Nat) (ps : List Pp) (px py : Int) (w : World) (hn : ps.length = n) (hao : 1 ≤ n → ao = some ⟨b, off, none⟩) (hat : CellsAt w b off ps) (hb : b ≤ w.heap.size) (hl : n ≤ 4096) :
    CallsIn Fence.wide 12 Tryz.prog 180 #[.slice ao n cap, pv px py] w fun e w' => e = .returned (.int .i64 (inF ps (px, py))) ∧ Below w.heap.size w w' := by
  have HN := hid hn
  have HAO := hid hao
  have HAT := hid hat
  have hmx : Tryz.prog.follows .mixedOrders = true := by kernel_rfl
  clear hao hat hn
  refine callsIn_of_wp_marks Tryz.func180 rfl trivial ?_ rfl
  simp only [Tryz.ntmps180, List.size_toArray, List.length_cons, List.length_nil, Nat.reduceAdd, Nat.reduceSub, Array.replicate_succ, Array.replicate_zero, List.push_toArray, List.append_toArray, List.nil_append, List.cons_append]
  have hw : ∀ k, Fence.wide.fn k := fun _ => trivial
  gi_wp2_with (gi_at_call 150; refine (callsIn_wide.2 (segmentsOf_any _ _ _ _)).mono ?_; rintro e w' ⟨rfl, rfl⟩)
  obtain ⟨W0, hW0⟩ : ∃ W0, (((w.alloc (.cells #[.int .i64 px, .int .i64 py] 23)).alloc (.cells #[.int .i64 0] 3)).alloc (.cells #[.bool false] 4)).alloc (.cells #[.slice ao n cap] 27) = W0 := ⟨_, rfl⟩
  have hsz : W0.heap.size = w.heap.size + 4 := by rw [← hW0]; simp
  have hF0 : Below w.heap.size w W0 := by rw [← hW0]; exact ((((Below.refl _ w).alloc (Nat.le_refl _) _).alloc (by simp) _).alloc (by simp; omega) _).alloc (by simp; omega) _
  have hpush := push4 w.heap (.cells #[.int .i64 px, .int .i64 py] 23) (.cells #[.int .i64 0] 3) (.cells #[.bool false] 4) (.cells #[.slice ao n cap] 27)
  have h0 : InI w px py 0 false W0 := ⟨by rw [← hW0]; exact hpush.1, by rw [← hW0]; exact hpush.2.1, by rw [← hW0]; exact hpush.2.2.1, by omega, hF0⟩
  have hbx : Boxed W0 (w.heap.size + 3) 27 (.slice ao n cap) := by rw [← hW0]; exact hpush.2.2.2
  rw [hW0]
  clear hW0 hpush
  refine wpIn_rangeFunc_ownH rfl (by decide) (gf := 177) (lb := #[.pointer (some ⟨w.heap.size + 1 + 1 + 1, 0, none⟩)]) rfl trivial (enters_of Tryz.func177 (by kernel_rfl) rfl)
    (segs_stops (12 - 1) (by decide) (w.heap.size + 3) b off n cap ao ps HN.out W0 hbx.cell HAO.out (HAT.out.below hF0) (by omega)) (fun h k => Kq.trans h k) (fun W l o o' h1 h2 _ _ => Kq.putObj W l o' (by have := lt_of_heap h2; omega) (by have := lt_of_heap h2; omega) (by omega) (by omega)) (Below.refl _ _) (fun _ => rfl)
    (fun pre W => InI w px py 0 (odF (meetK ps (px, py)) (pre.map (·.1))) W ∧ ∀ x ∈ pre, hasK ps (px, py) x.1 = false) (fun c _ W => c = .ret ∧ (∃ k, k < n ∧ hasK ps (px, py) k = true) ∧ ∃ o, InI w px py 0 o W) ?hI ?hIx ?h0
    (fun x a' W => ∃ B1 B2, a' = { tmps := #[.slice ao n cap, pv px py, undef, .pointer (some ⟨w.heap.size, 0, none⟩), .pointer (some ⟨w.heap.size + 1, 0, none⟩), .pointer (some ⟨w.heap.size + 1 + 1, 0, none⟩), .pointer (some ⟨B1, 0, none⟩), .pointer (some ⟨B2, 0, none⟩), .slice ao n cap, .func (.func 177) #[] #[.pointer (some ⟨w.heap.size + 1 + 1 + 1, 0, none⟩)], pv (lpt ps x.1).1 (lpt ps x.1).2, pv (nxt ps x.1).1 (nxt ps x.1).2, undef, undef, undef, undef, undef, undef, undef, undef, undef, undef, undef], defers := [] } ∧ Pt W B1 (lpt ps x.1).1 (lpt ps x.1).2 ∧ Pt W B2 (nxt ps x.1).1 (nxt ps x.1).2)
    ?hAx ?assign ?body ?done ?stop
  case hI =>
    rintro s A B' row ⟨hs, hq⟩ hg' hrow
    exact ⟨hs.turn hg' (fun r e => ⟨by have := (hrow r e).1; omega, (hrow r e).2⟩), hq⟩
  case hIx =>
    rintro c s A B' row ⟨hc, hk, o, hs⟩ hg' hrow
    exact ⟨hc, hk, o, hs.turn hg' (fun r e => ⟨by have := (hrow r e).1; omega, (hrow r e).2⟩)⟩
  case h0 => exact ⟨h0, fun x hx => by cases hx⟩
  case hAx =>
    rintro x a' _ A B' row ⟨B1, B2, rfl, h1, h2⟩ hg hrow
    exact ⟨B1, B2, rfl, block_turn hg (fun r e => (hrow r e).2) h1, block_turn hg (fun r e => (hrow r e).2) h2⟩
  case assign =>
    rintro l pre x W K ⟨hI, hq⟩ hK
    have hfr : Below W.heap.size W ((W.alloc (.cells #[.int .i64 (lpt ps x.1).1, .int .i64 (lpt ps x.1).2] 23)).alloc (.cells #[.int .i64 (nxt ps x.1).1, .int .i64 (nxt ps x.1).2] 23)) := ((Below.refl _ W).alloc (Nat.le_refl _) _).alloc (by simp) _
    have hbig := hI.big
    have h1 : Pt ((W.alloc (.cells #[.int .i64 (lpt ps x.1).1, .int .i64 (lpt ps x.1).2] 23)).alloc (.cells #[.int .i64 (nxt ps x.1).1, .int .i64 (nxt ps x.1).2] 23)) W.heap.size (lpt ps x.1).1 (lpt ps x.1).2 := (Pt.new W _ _).alloc _
    have h2 : Pt ((W.alloc (.cells #[.int .i64 (lpt ps x.1).1, .int .i64 (lpt ps x.1).2] 23)).alloc (.cells #[.int .i64 (nxt ps x.1).1, .int .i64 (nxt ps x.1).2] 23)) (W.heap.size + 1) (nxt ps x.1).1 (nxt ps x.1).2 := by
      have := Pt.new (W.alloc (.cells #[.int .i64 (lpt ps x.1).1, .int .i64 (lpt ps x.1).2] 23)) (nxt ps x.1).1 (nxt ps x.1).2
      rwa [World.size_alloc] at this
    have HK := hid (hK _ _ ((keeps_fresh hfr).from _) (Kq.fresh hfr (by omega) (by omega)) ⟨hI.fresh hfr, hq⟩ ⟨W.heap.size, W.heap.size + 1, rfl, h1, h2⟩)
    clear hK hI hfr h1 h2
    gi_wp2
    exact HK.out
  case body =>
    rintro l pre x a' W _ _ ⟨hI, hq⟩ ⟨B1, B2, rfl, hP1, hP2⟩ hlt
    have hd1 : 1 ≤ 12 - 1 - 1 := by decide
    have HE := hid (show odF (meetK ps (px, py)) ((pre ++ [x]).map (·.1)) = if meetK ps (px, py) x.1 then !odF (meetK ps (px, py)) (pre.map (·.1)) else odF (meetK ps (px, py)) (pre.map (·.1)) by rw [List.map_append]; exact odF_snoc _ _ _)
    have HQ := hid hq
    have HI := hid hI
    have HP1 := hid hP1
    have HP2 := hid hP2
    have c00 := hI.pp.c0; have c01 := hI.pp.c1
    have c10 := hP1.c0; have c11 := hP1.c1; have c20 := hP2.c0; have c21 := hP2.c1
    have H1 := hid (fun W => ringHas_any (lpt ps x.1).1 (lpt ps x.1).2 (nxt ps x.1).1 (nxt ps x.1).2 px py W)
    have H2 := hid (fun W => ringMeets_any (lpt ps x.1).1 (lpt ps x.1).2 (nxt ps x.1).1 (nxt ps x.1).2 px py W)
    have e1 : hasP ((lpt ps x.1).1, (lpt ps x.1).2) ((nxt ps x.1).1, (nxt ps x.1).2) (px, py) = hasK ps (px, py) x.1 := rfl
    have e2 : (okP px py && rayP (near (lpt ps x.1).1, near (lpt ps x.1).2) (near (nxt ps x.1).1, near (nxt ps x.1).2) (near px, near py)) = meetK ps (px, py) x.1 := rfl
    rw [e1] at H1
    rw [e2] at H2
    have HX := hid x.2
    clear hI hP1 hP2 h0 hbx hq e1 e2
    obtain ⟨R1, hR1⟩ : ∃ R, hasK ps (px, py) x.1 = R := ⟨_, rfl⟩
    obtain ⟨R2, hR2⟩ : ∃ R, meetK ps (px, py) x.1 = R := ⟨_, rfl⟩
    rw [hR1] at H1
    rw [hR2] at H2 HE
    have HR1 := hid hR1
    clear hR1 hR2
    generalize odF (meetK ps (px, py)) (pre.map (·.1)) = o at *
    generalize (lpt ps x.1).1 = X1 at *
    generalize (lpt ps x.1).2 = Y1 at *
    generalize (nxt ps x.1).1 = X2 at *
    generalize (nxt ps x.1).2 = Y2 at *
    cases R1 with
    | true =>
      gi_wp2_with (gi_at_call 194; refine (CallsIn.inRound l (callsIn_wide.2 (H1.out _))).mono ?_; rintro e w1 ⟨rfl, hb1⟩; have HI1 := hid (HI.out.fresh hb1); have HKO := hid (keeps_fresh hb1); have g0 := HI1.out.res.cell; have g1 := HI1.out.res.frozen; clear hb1 H1)
      exact ⟨(HKO.out.trans (KeepsOthers.setCell w1 _ _)).from _, rfl, ⟨x.1, HX.out, HR1.out⟩, o, HI1.out.setR 0⟩
    | false =>
      have HQ' := hid (show ∀ y ∈ pre ++ [x], hasK ps (px, py) y.1 = false from fun y hy => by
        rcases List.mem_append.1 hy with h | h
        · exact HQ.out y h
        · rw [List.mem_singleton.1 h]; exact HR1.out)
      cases R2 with
      | true =>
        gi_wp2_with (first
          | (gi_at_call 194; refine (CallsIn.inRound l (callsIn_wide.2 (H1.out _))).mono ?_; rintro e w1 ⟨rfl, hb1⟩; have HKO := hid (keeps_fresh hb1); have HKQ := hid (show Kq (w.heap.size + 3) b W w1 from Kq.fresh hb1 (by have := HI.out.big; omega) (by have := HI.out.big; omega)); replace HI := hid (HI.out.fresh hb1); replace HP1 := hid (HP1.out.below hb1 HP1.out.lt); replace HP2 := hid (HP2.out.below hb1 HP2.out.lt); have c30 := HI.out.pp.c0; have c31 := HI.out.pp.c1; have c40 := HP1.out.c0; have c41 := HP1.out.c1; have c50 := HP2.out.c0; have c51 := HP2.out.c1; clear hb1 H1)
          | (gi_at_call 195; refine (CallsIn.inRound l (callsIn_wide.2 (H2.out _))).mono ?_; rintro e w2 ⟨rfl, hb2⟩; have HKO2 := hid (HKO.out.trans (keeps_fresh hb2)); have HKQ2 := hid (HKQ.out.trans (show Kq (w.heap.size + 3) b w1 w2 from Kq.fresh hb2 (by have := HI.out.big; omega) (by have := HI.out.big; omega))); replace HI := hid (HI.out.fresh hb2); have g0 := HI.out.odd.cell; have g1 := HI.out.odd.frozen; clear hb2 H2))
        refine ⟨(HKO2.out.trans (KeepsOthers.setCell w2 _ _)).from _, HKQ2.out.trans ⟨Below.heap_setCell w2 _ _ _ (by show w.heap.size + 3 ≠ w.heap.size + 2; omega), Below.heap_setCell w2 _ _ _ (by show b ≠ w.heap.size + 2; omega)⟩, ?_, HQ'.out⟩
        rw [HE.out]
        exact HI.out.setO _
      | false =>
        gi_wp2_with (first
          | (gi_at_call 194; refine (CallsIn.inRound l (callsIn_wide.2 (H1.out _))).mono ?_; rintro e w1 ⟨rfl, hb1⟩; have HKO := hid (keeps_fresh hb1); have HKQ := hid (show Kq (w.heap.size + 3) b W w1 from Kq.fresh hb1 (by have := HI.out.big; omega) (by have := HI.out.big; omega)); replace HI := hid (HI.out.fresh hb1); replace HP1 := hid (HP1.out.below hb1 HP1.out.lt); replace HP2 := hid (HP2.out.below hb1 HP2.out.lt); have c30 := HI.out.pp.c0; have c31 := HI.out.pp.c1; have c40 := HP1.out.c0; have c41 := HP1.out.c1; have c50 := HP2.out.c0; have c51 := HP2.out.c1; clear hb1 H1)
          | (gi_at_call 195; refine (CallsIn.inRound l (callsIn_wide.2 (H2.out _))).mono ?_; rintro e w2 ⟨rfl, hb2⟩; have HKO2 := hid (HKO.out.trans (keeps_fresh hb2)); have HKQ2 := hid (HKQ.out.trans (show Kq (w.heap.size + 3) b w1 w2 from Kq.fresh hb2 (by have := HI.out.big; omega) (by have := HI.out.big; omega))); replace HI := hid (HI.out.fresh hb2); clear hb2 H2))
        refine ⟨HKO2.out.from _, HKQ2.out, ?_, HQ'.out⟩
        rw [HE.out]
        exact HI.out
  case done =>
    rintro D ys W hD hS ⟨hI, hq⟩ hK
    have HNO := hid (show (List.range ps.length).any (hasK ps (px, py)) = false by
      rw [HN.out, ← hS, List.any_eq_false]
      intro k hk
      obtain ⟨y, hy, rfl⟩ := List.mem_map.1 hk
      rw [hq y hy]
      decide)
    rw [hS, ← HN.out] at hI
    obtain ⟨o, ho⟩ : ∃ o, odF (meetK ps (px, py)) (List.range ps.length) = o := ⟨_, rfl⟩
    rw [ho] at hI
    have HRE := hid (show inF ps (px, py) = if o then 1 else -1 by unfold inF; rw [HNO.out, ho]; rfl)
    have cb := hI.odd.cell
    have g0 := hI.res.cell; have g1 := hI.res.frozen
    have HI := hid hI
    have HK := hid hK
    clear hI hK hS h0 hbx ho hq HNO
    cases o with
    | true =>
      gi_wp2
      have hfin := HI.out.setR 1
      have hK' := (KeepsOthers.setCell W ⟨w.heap.size + 1, 0, none⟩ (.int .i64 1)).same D _ HK.out rfl
      have hrow : ∀ r, some D = some r → w.heap.size ≤ r ∧ ∃ o : Obj, (W.setCell ⟨w.heap.size + 1, 0, none⟩ (.int .i64 1)).heap[r]? = some o ∧ o.isCells = false := fun r e => by cases e; exact ⟨by omega, _, hK', rfl⟩
      refine ⟨by simp, .inl ⟨_, _, rfl, run_takeDeferred hK', ?_⟩⟩
      have h2 := hfin.turn (grownBy_putObj' _ D (.deferred none)) hrow
      have hb5 := h2.res.cell
      exact ⟨.int .i64 1, by simp [results, Tryz.f180, go_sem, hb5], by rw [HRE.out]; rfl, h2.below⟩
    | false =>
      gi_wp2
      have hfin := HI.out.setR (-1)
      have hK' := (KeepsOthers.setCell W ⟨w.heap.size + 1, 0, none⟩ (.int .i64 (-1))).same D _ HK.out rfl
      have hrow : ∀ r, some D = some r → w.heap.size ≤ r ∧ ∃ o : Obj, (W.setCell ⟨w.heap.size + 1, 0, none⟩ (.int .i64 (-1))).heap[r]? = some o ∧ o.isCells = false := fun r e => by cases e; exact ⟨by omega, _, hK', rfl⟩
      refine ⟨by simp, .inl ⟨_, _, rfl, run_takeDeferred hK', ?_⟩⟩
      have h2 := hfin.turn (grownBy_putObj' _ D (.deferred none)) hrow
      have hb5 := h2.res.cell
      exact ⟨.int .i64 (-1), by simp [results, Tryz.f180, go_sem, hb5], by rw [HRE.out]; rfl, h2.below⟩
  case stop =>
    rintro D c pre W hD hSp ⟨rfl, ⟨k, hk, hhk⟩, o, hI⟩ hK
    have HRE := hid (show inF ps (px, py) = 0 by
      unfold inF
      rw [if_pos (List.any_eq_true.2 ⟨k, List.mem_range.2 (by rw [HN.out]; exact hk), hhk⟩)])
    have HI := hid hI
    have HK := hid hK
    clear hI hK h0 hbx hk hhk
    gi_wp2
    have hrow : ∀ r, some D = some r → w.heap.size ≤ r ∧ ∃ o : Obj, W.heap[r]? = some o ∧ o.isCells = false := fun r e => by cases e; exact ⟨by omega, _, HK.out, rfl⟩
    refine ⟨by simp, .inl ⟨_, _, rfl, run_takeDeferred HK.out, ?_⟩⟩
    have h2 := HI.out.turn (grownBy_putObj' _ D (.deferred none)) hrow
    have hb5 := h2.res.cell
    exact ⟨.int .i64 0, by simp [results, Tryz.f180, go_sem, hb5], by rw [HRE.out], h2.below⟩

theorem ringIn_any (v : Value) (ps : List Pp) (px py : Int) (w : World) (hs : Src w v ps) (hl : ps.length ≤ 4096) :
    Calls Tryz.prog 180 #[v, pv px py] w fun e w' => e = .returned (.int .i64 (inF ps (px, py))) ∧ Below w.heap.size w w' := by
  obtain ⟨ao, cap, b, off, rfl, h1, h2, h3⟩ := hs.view
  exact callsIn_wide.1 (inside_in ao ps.length cap b off ps px py w rfl h1 h2 h3 hl)
end Go.Proofs.YtkdnkmheidbfdaaGreat

namespace Go.Proofs.YtkdnkmheidbfdaaGreat
open Go.RowKit Go.Sort

set_option maxHeartbeats 1600000 in
theorem holds1_any (Bl : Nat) (lv : Value) (ps : List Pp) (x y : Int) (w : World) (hb : w.cell? ⟨Bl, 0, none⟩ = some lv) (hs : Src w lv ps) (hl : ps.length ≤ 4096) :
    Calls Tryz.prog 179 #[pv x y, .pointer (some ⟨Bl, 0, none⟩)] w fun e w' => e = .returned (.bool (!(inF ps (x, y) == 1))) ∧ Below w.heap.size w w' := by
  obtain ⟨ao, ca, hu, _⟩ := hs.pts
  subst hu
  obtain ⟨wA, hwA⟩ : ∃ wA, w.alloc (.cells #[.int .i64 x, .int .i64 y] 23) = wA := ⟨_, rfl⟩
  obtain ⟨hA, hBL, hszA⟩ := box1 hwA
  have HB := hid hBL
  have a0 := hA.c0; have a1 := hA.c1
  have b0 : wA.cell? ⟨Bl, 0, none⟩ = some (.slice ao ps.length ca) := (hBL.cell (p := ⟨Bl, 0, none⟩) (World.block_lt_of_cell? w _ hb)).trans hb
  have H := hid (ringIn_any _ ps x y wA (hs.below hBL) hl)
  generalize inF ps (x, y) = R at *
  generalize ps.length = n at *
  clear hA hBL hb hs
  go_enter Tryz.func179, Tryz.ntmps179
  go_wp2_with (go_at_call 180; refine H.out.mono ?_; rintro e w1 ⟨rfl, hb1⟩; replace HB := hid (HB.out.trans (hb1.mono HB.out.size)); clear hb1 H)
  go_ret
  exact ⟨rfl, HB.out⟩

set_option maxHeartbeats 1600000 in
theorem ringIndex_any (nb : Pp → Bool) (cp : Value) (v : Value) (ms : List Pp) (w : World) (hp : Pts w v ms) (hl : ms.length ≤ 100000)
    (hcl : ∀ W, Below w.heap.size w W → ∀ x y, Calls Tryz.prog 179 #[pv x y, cp] W fun e w' => e = .returned (.bool (nb (x, y))) ∧ Below W.heap.size W w') :
    Calls Tryz.prog 196 #[v, .func (.func 179) #[] #[cp]] w fun e w' => (∃ i : Int, e = .returned (.int .i64 i) ∧ decide (0 ≤ i) = ms.any nb) ∧ Below w.heap.size w w' := by
  have hp' := hp
  obtain ⟨a, cap, rfl, _⟩ := hp'
  obtain ⟨n, hn⟩ : ∃ n, ms.length = n := ⟨_, rfl⟩
  have HN := hid hn
  rw [hn] at hl hp ⊢
  have HP := hid hp
  have HCL := hid hcl
  clear hp hn hcl
  go_enter Tryz.func196, Tryz.ntmps196
  go_wp2
  go_loopw [8] (fun iv wr => ∃ k : Nat, k ≤ n ∧ iv = .int .i64 k ∧ (∀ i, i < k → nb (lpt ms i) = false) ∧ Below w.heap.size w wr) (fun iv _ => n - (intOf iv).toNat)
  case atStart => exact ⟨0, by omega, rfl, (fun i hi => absurd hi (Nat.not_lt_zero i)), Below.refl _ _⟩
  case round =>
    obtain ⟨k, hk, rfl, hok, hbr⟩ := hrel
    have HG := hid hok
    have HBR := hid hbr
    clear hok
    by_cases hlt : k < n
    · have hkI : (k : Int) < (n : Int) := by omega
      obtain ⟨b, off, rfl, hc⟩ := (HP.out.below hbr).row (by rw [HN.out]; omega)
      obtain ⟨z0, z1⟩ := hc k (by rw [HN.out]; omega)
      obtain ⟨O, hO⟩ : ∃ O, nb (lpt ms k) = O := ⟨_, rfl⟩
      have HC := hid (HCL.out wr hbr (lpt ms k).1 (lpt ms k).2)
      have HO := hid (show ∀ i, i = k → nb (lpt ms i) = O from fun i hi => by rw [hi]; exact hO)
      rw [show nb ((lpt ms k).1, (lpt ms k).2) = O from hO] at HC
      have HMEM := hid (List.mem_of_getElem? (at_lpt (ps := ms) (i := k) (by rw [HN.out]; exact hlt)))
      have HOK := hid hO
      clear hO
      generalize (lpt ms k).1 = X0 at *
      generalize (lpt ms k).2 = Y0 at *
      clear hc hbr
      cases O with
      | false =>
        go_wp2_with (go_at_call 179; refine HC.out.mono ?_; rintro e w1 ⟨rfl, hb1⟩; replace HBR := hid (HBR.out.trans (hb1.mono HBR.out.size)); clear hb1)
        go_roundw
        case rel =>
          refine ⟨k + 1, by omega, by go_num, fun i hi => ?_, HBR.out⟩
          by_cases hik : i = k
          · exact HO.out i hik
          · exact HG.out i (by omega)
        case measure => simp [intOf]; omega
      | true =>
        go_wp2_with (go_at_call 179; refine HC.out.mono ?_; rintro e w1 ⟨rfl, hb1⟩; replace HBR := hid (HBR.out.trans (hb1.mono HBR.out.size)); clear hb1)
        go_ret
        refine ⟨⟨_, rfl, ?_⟩, HBR.out⟩
        rw [List.any_eq_true.2 ⟨_, HMEM.out, HOK.out⟩]
        exact decide_eq_true (Int.natCast_nonneg k)
    · have hkI : ¬ (k : Int) < (n : Int) := by omega
      clear hbr
      go_wp2
      go_ret
      refine ⟨⟨_, rfl, ?_⟩, HBR.out⟩
      rw [show ms.any nb = false from ?_]
      · rfl
      · rw [List.any_eq_false]
        intro p hp
        obtain ⟨i, hi⟩ := List.mem_iff_getElem?.1 hp
        have hil := (List.getElem?_eq_some_iff.1 hi).1
        rw [← lpt_at hi, HG.out i (by rw [HN.out] at hil; omega)]
        decide

set_option maxHeartbeats 1600000 in
theorem ringHolds_any (u v : Value) (ps ms : List Pp) (w : World) (hu : Src w u ps) (hv : Src w v ms) (hl : ps.length ≤ 4096) (hm : ms.length ≤ 4096) :
    Calls Tryz.prog 155 #[u, v] w fun e w' => e = .returned (.bool (decide (0 < ms.length) && ms.all fun m => inF ps m == 1)) ∧ Below w.heap.size w w' := by
  obtain ⟨wA, hwA⟩ : ∃ wA, w.alloc (.cells #[u] 27) = wA := ⟨_, rfl⟩
  have hBL : Below w.heap.size w wA := by rw [← hwA]; exact (Below.refl _ _).alloc (Nat.le_refl _) _
  have hbx : Boxed wA w.heap.size 27 u := by rw [← hwA]; exact Boxed.new w _ _
  have HB := hid hBL
  have HC := hid (show ∀ W, Below wA.heap.size wA W → Calls Tryz.prog 181 #[v, .func (.func 179) #[] #[.pointer (some ⟨w.heap.size, 0, none⟩)]] W fun e w' => e = .returned (.bool (ms.any fun m => !(inF ps m == 1))) ∧ Below W.heap.size W w' from fun W hW => by
    have HI := hid (ringIndex_any (fun m => !(inF ps m == 1)) (.pointer (some ⟨w.heap.size, 0, none⟩)) v ms W ((hv.below hBL).below hW).pts (by omega) (fun W' hW' x y => holds1_any w.heap.size u ps x y W' ((hW'.cell (p := ⟨w.heap.size, 0, none⟩) (by have := hbx.lt; have := hW.size; show w.heap.size < W.heap.size; omega)).trans ((hW.cell (p := ⟨w.heap.size, 0, none⟩) hbx.lt).trans hbx.cell)) (((hu.below hBL).below hW).below hW') hl))
    obtain ⟨vo, vc, ev, _⟩ := hv.pts
    subst ev
    generalize (ms.any fun m => !(inF ps m == 1)) = G at *
    clear hu hv hBL hbx HB
    go_enter Tryz.func181, Tryz.ntmps181
    go_wp2_with (go_at_call 196; refine HI.out.mono ?_; rintro e w1 ⟨⟨i, rfl, hi⟩, hb1⟩; have HB1 := hid hb1; have HII := hid hi; clear hb1 hi HI)
    go_ret
    exact ⟨by rw [← HII.out]; rfl, HB1.out⟩)
  obtain ⟨uo, uc, eu, _⟩ := hu.pts
  obtain ⟨vo, vc, ev, _⟩ := hv.pts
  subst eu ev
  have HG := hid (show (ms.all fun m => inF ps m == 1) = !(ms.any fun m => !(inF ps m == 1)) by rw [List.not_any_eq_all_not]; simp)
  rw [HG.out]
  generalize (ms.any fun m => !(inF ps m == 1)) = G at *
  generalize ms.length = k at *
  generalize ps.length = n at *
  clear hu hv hBL hbx HG
  by_cases h : 0 < k
  · have hI : (0 : Int) < (k : Int) := by omega
    have gI : decide ((0 : Int) < (k : Int)) = true := decide_eq_true hI
    have HD := hid (show decide (0 < k) = true from decide_eq_true h)
    go_enter Tryz.func155, Tryz.ntmps155
    go_wp2_with (go_at_call 181; refine (HC.out _ (Below.refl _ _)).mono ?_; rintro e w1 ⟨rfl, hb1⟩; replace HB := hid (HB.out.trans (hb1.mono HB.out.size)); clear hb1 HC)
    go_ret
    exact ⟨by rw [HD.out]; cases G <;> rfl, HB.out⟩
  · have hI : ¬ (0 : Int) < (k : Int) := by omega
    have gI : decide ((0 : Int) < (k : Int)) = false := decide_eq_false hI
    have HD := hid (show decide (0 < k) = false from decide_eq_false h)
    go_enter Tryz.func155, Tryz.ntmps155
    go_wp2
    go_ret
    exact ⟨by first | rfl | (rw [HD.out]; rfl), HB.out⟩

end Go.Proofs.YtkdnkmheidbfdaaGreat

namespace Go.Proofs.YtkdnkmheidbfdaaGreat
open Go.RowKit Go.Sort

/-- Does a border of these points hold q? -/
def holdsB (x : Bd) (ps : List Pp) (q : Pp) : Bool := (ovl (near x.lx) (near x.hx) (near q.1) (near q.1) && ovl (near x.ly) (near x.hy) (near q.2) (near q.2)) && inF ps q == 1

/-- Points in a block of their own. -/
theorem src_new {w : World} {g : Nat} {ps : List Pp} (h : w.heap[g]? = some (.cells (ptCells ps).toArray 23 (0, 0))) : Src w (.slice (some ⟨g, 0, none⟩) ps.length ps.length) ps := by
  refine .inr ⟨g, 0, ps.length, rfl, Nat.le_refl _, fun j p hp => ?_⟩
  obtain ⟨c0, c1⟩ := ptCells_at _ j p hp
  rw [Nat.zero_add]
  simp only [World.cell?, h, Option.isSome_none, Bool.false_eq_true, if_false, List.getElem?_toArray]
  exact ⟨c0, c1⟩

set_option maxRecDepth 100000 in
set_option maxHeartbeats 3200000 in
theorem holds_any {w : World} (x : Bd) {ps : List Pp} (hs : Src w (.slice x.po x.pl x.pc) ps) (hl : ps.length ≤ 4096) (qx qy : Int) :
    Calls Tryz.prog 124 #[bdV x, pv qx qy] w fun e w' => e = .returned (.bool (holdsB x ps (qx, qy))) ∧ Below w.heap.size w w' := by
  obtain ⟨wA, hwA⟩ : ∃ wA, w.alloc (bdO x) = wA := ⟨_, rfl⟩
  have hbA : Below w.heap.size w wA := by rw [← hwA]; exact (Below.refl _ w).alloc (Nat.le_refl _) _
  have hhA : wA.heap[w.heap.size]? = some (bdO x) := by rw [← hwA]; exact bd_new w x
  obtain ⟨wB, hwB⟩ : ∃ wB, wA.alloc (.cells #[.int .i64 qx, .int .i64 qy] 23) = wB := ⟨_, rfl⟩
  have hbB : Below wA.heap.size wA wB := by rw [← hwB]; exact (Below.refl _ wA).alloc (Nat.le_refl _) _
  have hhB : wB.heap[wA.heap.size]? = some (.cells #[.int .i64 qx, .int .i64 qy] 23 (0, 0)) := by rw [← hwB]; exact World.alloc_heap_new wA _
  have hh2 := (hbB.block _ (lt_of_heap hhA)).trans hhA
  have hb : Below w.heap.size w wB := hbA.trans (hbB.mono hbA.size)
  obtain ⟨y0, y1, y2, y3, y4, y5, y6, y7, y8⟩ := bd_cells hh2
  have p0 : wB.cell? ⟨wA.heap.size, 0, none⟩ = some (.int .i64 qx) := by simp [World.cell?, hhB]
  have p1 : wB.cell? ⟨wA.heap.size, 1, none⟩ = some (.int .i64 qy) := by simp [World.cell?, hhB]
  have HB := hid (And.intro hs (And.intro hb (And.intro hh2 hhB)))
  have HM := hid (meet_any x.lx x.ly x.hx x.hy qx qy qx qy wB)
  unfold holdsB
  clear hs hbA hhA hbB hhB hh2 hb
  cases hm : (ovl (near x.lx) (near x.hx) (near qx) (near qx) && ovl (near x.ly) (near x.hy) (near qy) (near qy)) with
  | false =>
    rw [hm] at HM
    rw [Bool.false_and]
    clear hm
    go_enter Tryz.func124, Tryz.ntmps124
    go_wp2_with (first
      | (go_at_call 154; refine HM.out.mono ?_; rintro e w1 ⟨rfl, hb1⟩; have H1 := hid (HB.out.2.1.trans (hb1.mono HB.out.2.1.size)); clear hb1 HM))
    go_ret
    exact ⟨rfl, H1.out⟩
  | true =>
    rw [hm] at HM
    rw [Bool.true_and]
    clear hm
    go_enter Tryz.func124, Tryz.ntmps124
    go_wp2_with (first
      | (go_at_call 154; refine HM.out.mono ?_; rintro e w1 ⟨rfl, hb1⟩; have hh3 := (hb1.block _ (lt_of_heap HB.out.2.2.1)).trans HB.out.2.2.1; have hh4 := (hb1.block _ (lt_of_heap HB.out.2.2.2)).trans HB.out.2.2.2; clear y0 y1 y2 y3 y4 y5 y6 y7 y8 p0 p1; obtain ⟨y0, y1, y2, y3, y4, y5, y6, y7, y8⟩ := bd_cells hh3; have p0 : w1.cell? ⟨wA.heap.size, 0, none⟩ = some (.int .i64 qx) := (by simp [World.cell?, hh4]); have p1 : w1.cell? ⟨wA.heap.size, 1, none⟩ = some (.int .i64 qy) := (by simp [World.cell?, hh4]); have H1 := hid (HB.out.2.1.trans (hb1.mono HB.out.2.1.size)); clear hb1 HM hh3 hh4)
      | (go_at_call 155; generalize hV : World.alloc _ _ = V; have hbV : Below w1.heap.size w1 V := (by rw [← hV]; exact (Below.refl _ w1).alloc (Nat.le_refl _) _); have hhV : V.heap[w1.heap.size]? = some (.cells (ptCells [(qx, qy)]).toArray 23 (0, 0)) := (by rw [← hV]; exact World.alloc_heap_new w1 _); have H2 := hid (H1.out.trans (hbV.mono H1.out.size)); refine (ringHolds_any _ _ ps [(qx, qy)] V (HB.out.1.below H2.out) (src_new hhV) hl (by simp)).mono ?_; rintro e w3 ⟨rfl, hb3⟩; have H3 := hid (H2.out.trans (hb3.mono H2.out.size)); clear hV hbV hhV hb3))
    go_ret
    refine ⟨?_, H3.out⟩
    simp
end Go.Proofs.YtkdnkmheidbfdaaGreat
