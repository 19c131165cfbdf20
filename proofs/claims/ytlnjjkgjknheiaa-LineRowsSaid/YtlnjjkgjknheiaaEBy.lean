/-
  seg's relateByEnds and relate.
-/
import Derived.Test.YtlnjjkgjknheiaaECommon
import Derived.Test.YtlnjjkgjknheiaaETurns
import Derived.Test.YtlnjjkgjknheiaaSShr
namespace Go.Proofs.Ytlnjjkgjknheiaa
open Go.RowKit Go.Sort

theorem Row4.pts0 {w : World} {b : Nat} {t : TypeId} {x0 y0 x1 y1 x2 y2 x3 y3 : Int} (h : Row4 w b t x0 y0 x1 y1 x2 y2 x3 y3) (cap : Nat) : Pts w (.slice (some ⟨b, 0, none⟩) 2 cap) [(x0, y0), (x1, y1)] := by
  refine ⟨_, cap, rfl, fun _ => ⟨b, 0, rfl, fun k p hk => ?_⟩⟩
  match k, hk with
  | 0, hk => simp at hk; subst hk; exact ⟨h.c0, h.c1⟩
  | 1, hk => simp at hk; subst hk; exact ⟨h.c2, h.c3⟩
  | k + 2, hk => simp at hk
theorem Row4.pts2 {w : World} {b : Nat} {t : TypeId} {x0 y0 x1 y1 x2 y2 x3 y3 : Int} (h : Row4 w b t x0 y0 x1 y1 x2 y2 x3 y3) (cap : Nat) : Pts w (.slice (some ⟨b, 4, none⟩) 2 cap) [(x2, y2), (x3, y3)] := by
  refine ⟨_, cap, rfl, fun _ => ⟨b, 4, rfl, fun k p hk => ?_⟩⟩
  match k, hk with
  | 0, hk => simp at hk; subst hk; exact ⟨h.c4, h.c5⟩
  | 1, hk => simp at hk; subst hk; exact ⟨h.c6, h.c7⟩
  | k + 2, hk => simp at hk

set_option maxRecDepth 100000 in
set_option maxHeartbeats 8000000 in
theorem byEnds_core (w : World) (AX AY BX BY CX CY DX DY : Int) (sh : List Pp) (hl4 : sh.length ≤ 4)
    (HC : Hid (∀ W, Calls Try.prog 39 #[ev (AX, AY) (BX, BY) (CX, CY) (DX, DY)] W fun e w' => (∃ v, e = .returned v ∧ Pts w' v sh) ∧ Below W.heap.size W w')) :
    Calls Try.prog 53 #[ev (AX, AY) (BX, BY) (CX, CY) (DX, DY)] w fun e w' => e = .returned (.int .i64 (byEnds (AX, AY) (BX, BY) (CX, CY) (DX, DY) sh)) ∧ Below w.heap.size w w' := by
  obtain ⟨wA, hwA⟩ : ∃ wA, w.alloc (.cells #[.int .i64 AX, .int .i64 AY, .int .i64 BX, .int .i64 BY, .int .i64 CX, .int .i64 CY, .int .i64 DX, .int .i64 DY] 55) = wA := ⟨_, rfl⟩
  have hszA : wA.heap.size = w.heap.size + 1 := by rw [← hwA]; simp
  have hR : Row4 wA w.heap.size 55 AX AY BX BY CX CY DX DY := by rw [← hwA]; exact Row4.new w _ _ _ _ _ _ _ _ _
  have HBL := hid (show Below w.heap.size w wA by rw [← hwA]; exact (Below.refl _ w).alloc (Nat.le_refl _) _)
  have HR := hid hR
  have k0 := hR.c0; have k1 := hR.c1; have k2 := hR.c2; have k3 := hR.c3; have k4 := hR.c4; have k5 := hR.c5; have k6 := hR.c6; have k7 := hR.c7
  clear hR
  match sh, hl4, HC with
  | [], _, HC =>
    go_enter Try.func53, Try.ntmps53
    go_wp2_with (go_at_call 39; refine (HC.out _).mono ?_; rintro e w1 ⟨⟨v, rfl, hp⟩, hb1⟩; obtain ⟨ao, cap, rfl, _⟩ := hp; simp only [List.length_nil]; have HB1 := hid (HBL.out.trans (hb1.mono HBL.out.size)); clear hb1)
    go_ret
    exact ⟨rfl, HB1.out⟩
  | q :: r :: sh, hl4, HC =>
    simp only [List.length_cons] at hl4
    obtain ⟨n, hn⟩ : ∃ n, sh.length = n := ⟨_, rfl⟩
    rw [hn] at hl4
    have HN := hid hn
    have h0 : ((n : Int) + 1 + 1 == 0) = false := by simp; omega
    have h0' : ¬ (n : Int) + 1 + 1 = 0 := by omega
    have h1 : (1 : Int) < (n : Int) + 1 + 1 := by omega
    clear hn
    go_enter Try.func53, Try.ntmps53
    go_wp2_with (go_at_call 39; refine (HC.out _).mono ?_; rintro e w1 ⟨⟨v, rfl, hp⟩, hb1⟩; obtain ⟨ao, cap, rfl, _⟩ := hp; simp only [List.length_cons, HN.out]; have HB1 := hid (HBL.out.trans (hb1.mono HBL.out.size)); clear hb1)
    go_ret
    exact ⟨rfl, HB1.out⟩
  | [(px, py)], _, HC =>
    have HA1 : Hid (([(AX, AY), (BX, BY)] : List Pp).any (fun r => eqp r (px, py)) = (eqp (px, py) (AX, AY) || eqp (px, py) (BX, BY))) := hid (by simp [eqp_comm])
    have HA2 : Hid (([(CX, CY), (DX, DY)] : List Pp).any (fun r => eqp r (px, py)) = (eqp (px, py) (CX, CY) || eqp (px, py) (DX, DY))) := hid (by simp [eqp_comm])
    have HBE : Hid (byEnds (AX, AY) (BX, BY) (CX, CY) (DX, DY) [(px, py)] = if (eqp (px, py) (AX, AY) || eqp (px, py) (BX, BY)) && (eqp (px, py) (CX, CY) || eqp (px, py) (DX, DY)) then 1 else 2) := hid rfl
    have c1 := hid (fun W (h : Row4 W w.heap.size 55 AX AY BX BY CX CY DX DY) => contains_any (.slice (some ⟨w.heap.size, 0, none⟩) 2 4) _ px py W (h.pts0 4) (by simp))
    have c2 := hid (fun W (h : Row4 W w.heap.size 55 AX AY BX BY CX CY DX DY) => contains_any (.slice (some ⟨w.heap.size, 4, none⟩) 2 2) _ px py W (h.pts2 2) (by simp))
    rw [HA1.out] at c1
    rw [HA2.out] at c2
    generalize byEnds (AX, AY) (BX, BY) (CX, CY) (DX, DY) [(px, py)] = R at *
    generalize (eqp (px, py) (AX, AY) || eqp (px, py) (BX, BY)) = F1 at *
    generalize (eqp (px, py) (CX, CY) || eqp (px, py) (DX, DY)) = F2 at *
    clear HA1 HA2
    cases F1 with
    | false =>
      go_enter Try.func53, Try.ntmps53
      go_wp2_with (go_at_call 39; refine (HC.out _).mono ?_; rintro e w1 ⟨⟨v, rfl, hp⟩, hb1⟩; obtain ⟨ao, cap, rfl, hx⟩ := hp; obtain ⟨b, off, rfl, hc⟩ := hx (Nat.le_refl 1); obtain ⟨z0, z1⟩ := hc 0 (px, py) rfl; simp only [List.length_cons, List.length_nil, Nat.zero_mul, Nat.add_zero] at z0 z1 ⊢; have y0 := cell_regrown z0; have y1 := cell_regrown z1; have HR1 := hid (HR.out.below hb1 HR.out.lt); have HB1 := hid (HBL.out.trans (hb1.mono HBL.out.size)); clear hb1 hc hx z0 z1)
      have d1 := fun d os => c1.out (grow (redrawn w1 d) os) (HR1.out.below (below_regrown _ _ _) HR1.out.lt)
      have d2 := fun d os => c2.out (grow (redrawn w1 d) os) (HR1.out.below (below_regrown _ _ _) HR1.out.lt)
      refine wp_region_quiet_below (by kernel_rfl) (by kernel_rfl) ?_
      go_big_quiet_step (fail)
      go_big_quiet_step (fail)
      go_big_quiet_step (fail)
      go_big_quiet_step (fail)
      go_big_quiet_step (exact Calls.regrown_of (d1 _ _))
      repeat (go_big_quiet_step (fail))
      refine wpQuiet_nil ?_
      intro W7 hW'
      obtain ⟨⟨dq, osq⟩, hW⟩ := hW'
      have HW7 := hid (show Below w1.heap.size w1 W7 by rw [hW]; exact below_regrown _ _ _)
      clear hW y0 y1 d1 d2
      go_wp2
      go_ret
      refine ⟨?_, HB1.out.trans (HW7.out.mono HB1.out.size)⟩
      rw [HBE.out]
      rfl
    | true =>
      cases F2 with
      | false =>
        go_enter Try.func53, Try.ntmps53
        go_wp2_with (go_at_call 39; refine (HC.out _).mono ?_; rintro e w1 ⟨⟨v, rfl, hp⟩, hb1⟩; obtain ⟨ao, cap, rfl, hx⟩ := hp; obtain ⟨b, off, rfl, hc⟩ := hx (Nat.le_refl 1); obtain ⟨z0, z1⟩ := hc 0 (px, py) rfl; simp only [List.length_cons, List.length_nil, Nat.zero_mul, Nat.add_zero] at z0 z1 ⊢; have y0 := cell_regrown z0; have y1 := cell_regrown z1; have HR1 := hid (HR.out.below hb1 HR.out.lt); have HB1 := hid (HBL.out.trans (hb1.mono HBL.out.size)); clear hb1 hc hx z0 z1)
        have d1 := fun d os => c1.out (grow (redrawn w1 d) os) (HR1.out.below (below_regrown _ _ _) HR1.out.lt)
        have d2 := fun d os => c2.out (grow (redrawn w1 d) os) (HR1.out.below (below_regrown _ _ _) HR1.out.lt)
        refine wp_region_quiet_below (by kernel_rfl) (by kernel_rfl) ?_
        go_big_quiet_step (fail)
        go_big_quiet_step (fail)
        go_big_quiet_step (fail)
        go_big_quiet_step (fail)
        go_big_quiet_step (exact Calls.regrown_of (d1 _ _))
        go_big_quiet_step (fail)
        go_big_quiet_step (fail)
        go_big_quiet_step (fail)
        go_big_quiet_step (fail)
        go_big_quiet_step (fail)
        go_big_quiet_step (exact Calls.regrown_of (d2 _ _))
        go_big_quiet_step (fail)
        go_big_quiet_step (fail)
        refine wpQuiet_nil ?_
        intro W7 hW'
        obtain ⟨⟨dq, osq⟩, hW⟩ := hW'
        have HW7 := hid (show Below w1.heap.size w1 W7 by rw [hW]; exact below_regrown _ _ _)
        clear hW y0 y1 d1 d2
        go_wp2
        go_ret
        refine ⟨?_, HB1.out.trans (HW7.out.mono HB1.out.size)⟩
        rw [HBE.out]
        rfl
      | true =>
        go_enter Try.func53, Try.ntmps53
        go_wp2_with (go_at_call 39; refine (HC.out _).mono ?_; rintro e w1 ⟨⟨v, rfl, hp⟩, hb1⟩; obtain ⟨ao, cap, rfl, hx⟩ := hp; obtain ⟨b, off, rfl, hc⟩ := hx (Nat.le_refl 1); obtain ⟨z0, z1⟩ := hc 0 (px, py) rfl; simp only [List.length_cons, List.length_nil, Nat.zero_mul, Nat.add_zero] at z0 z1 ⊢; have y0 := cell_regrown z0; have y1 := cell_regrown z1; have HR1 := hid (HR.out.below hb1 HR.out.lt); have HB1 := hid (HBL.out.trans (hb1.mono HBL.out.size)); clear hb1 hc hx z0 z1)
        have d1 := fun d os => c1.out (grow (redrawn w1 d) os) (HR1.out.below (below_regrown _ _ _) HR1.out.lt)
        have d2 := fun d os => c2.out (grow (redrawn w1 d) os) (HR1.out.below (below_regrown _ _ _) HR1.out.lt)
        refine wp_region_quiet_below (by kernel_rfl) (by kernel_rfl) ?_
        go_big_quiet_step (fail)
        go_big_quiet_step (fail)
        go_big_quiet_step (fail)
        go_big_quiet_step (fail)
        go_big_quiet_step (exact Calls.regrown_of (d1 _ _))
        go_big_quiet_step (fail)
        go_big_quiet_step (fail)
        go_big_quiet_step (fail)
        go_big_quiet_step (fail)
        go_big_quiet_step (fail)
        go_big_quiet_step (exact Calls.regrown_of (d2 _ _))
        go_big_quiet_step (fail)
        go_big_quiet_step (fail)
        refine wpQuiet_nil ?_
        intro W7 hW'
        obtain ⟨⟨dq, osq⟩, hW⟩ := hW'
        have HW7 := hid (show Below w1.heap.size w1 W7 by rw [hW]; exact below_regrown _ _ _)
        clear hW y0 y1 d1 d2
        go_wp2
        go_ret
        refine ⟨?_, HB1.out.trans (HW7.out.mono HB1.out.size)⟩
        rw [HBE.out]
        rfl

theorem relateByEnds_any {a b c d : Pp} (ha : Gp a) (hb : Gp b) (hc : Gp c) (hd : Gp d) (w : World) :
    Calls Try.prog 53 #[ev a b c d] w fun e w' => e = .returned (.int .i64 (byEnds a b c d (shL a b c d [a, b, c, d]))) ∧ Below w.heap.size w w' :=
  byEnds_core w a.1 a.2 b.1 b.2 c.1 c.2 d.1 d.2 _ (shL_len _ _ _ _ _) (hid fun W => common_any ha hb hc hd W)

set_option maxHeartbeats 3200000 in
theorem relate_core (w : World) (AX AY BX BY CX CY DX DY T1 T2 T3 T4 M1 M2 R S : Int)
    (HT : Hid (∀ W, Calls Try.prog 52 #[ev (AX, AY) (BX, BY) (CX, CY) (DX, DY)] W fun e w' => e = .returned (.agg #[.int .i64 T1, .int .i64 T2, .int .i64 T3, .int .i64 T4]) ∧ Below W.heap.size W w'))
    (HY : Hid (∀ W, Calls Try.prog 53 #[ev (AX, AY) (BX, BY) (CX, CY) (DX, DY)] W fun e w' => e = .returned (.int .i64 R) ∧ Below W.heap.size W w'))
    (hM1 : T1 * T2 = M1) (hM2 : T3 * T4 = M2) (bM1 : -1 ≤ M1 ∧ M1 ≤ 1) (bM2 : -1 ≤ M2 ∧ M2 ≤ 1)
    (HS : Hid (S = if 0 < M1 ∨ 0 < M2 then 0 else if M1 < 0 ∧ M2 < 0 then 3 else R)) :
    Calls Try.prog 38 #[ev (AX, AY) (BX, BY) (CX, CY) (DX, DY)] w fun e w' => e = .returned (.int .i64 S) ∧ Below w.heap.size w w' := by
  obtain ⟨wA, hwA⟩ : ∃ wA, w.alloc (.cells #[.int .i64 AX, .int .i64 AY, .int .i64 BX, .int .i64 BY, .int .i64 CX, .int .i64 CY, .int .i64 DX, .int .i64 DY] 55) = wA := ⟨_, rfl⟩
  have hszA : wA.heap.size = w.heap.size + 1 := by rw [← hwA]; simp
  have hR : Row4 wA w.heap.size 55 AX AY BX BY CX CY DX DY := by rw [← hwA]; exact Row4.new w _ _ _ _ _ _ _ _ _
  have HBL := hid (show Below w.heap.size w wA by rw [← hwA]; exact (Below.refl _ w).alloc (Nat.le_refl _) _)
  have HR := hid hR
  have k0 := hR.c0; have k1 := hR.c1; have k2 := hR.c2; have k3 := hR.c3; have k4 := hR.c4; have k5 := hR.c5; have k6 := hR.c6; have k7 := hR.c7
  clear hR
  go_enter Try.func38, Try.ntmps38
  go_wp2_with (go_at_call 52; refine (HT.out _).mono ?_; rintro e w1 ⟨rfl, hb1⟩; obtain ⟨w2, hw2⟩ : ∃ w2, w1.alloc (.cells #[.int .i64 T1, .int .i64 T2, .int .i64 T3, .int .i64 T4] 66) = w2 := ⟨_, rfl⟩; obtain ⟨B1, hB1⟩ : ∃ B1, w1.heap.size = B1 := ⟨_, rfl⟩; have hI : Int4 w2 B1 66 T1 T2 T3 T4 := (by rw [← hw2, ← hB1]; exact Int4.new w1 _ _ _ _ _); have i0 := cell_regrown hI.c0; have i1 := cell_regrown hI.c1; have i2 := cell_regrown hI.c2; have i3 := cell_regrown hI.c3; have HR1 := hid (show Row4 w2 w.heap.size 55 AX AY BX BY CX CY DX DY by rw [← hw2]; exact (HR.out.below hb1 HR.out.lt).alloc _); have HB1 := hid (show Below w.heap.size w w2 by rw [← hw2]; exact (HBL.out.trans (hb1.mono HBL.out.size)).alloc (by have := hb1.size; have := HBL.out.size; omega) _); clear hb1 hI)
  refine wp_region_quiet_below (by kernel_rfl) (by kernel_rfl) ?_
  go_big_quiet_step (fail)
  go_big_quiet_step (fail)
  go_big_quiet_step (fail)
  go_big_quiet_step (fail)
  go_big_quiet_step (fail)
  go_big_quiet_step (fail)
  go_big_quiet_step (fail)
  go_big_quiet_step (fail)
  go_big_quiet_step (fail)
  go_big_quiet_step (fail)
  go_big_quiet_step (fail)
  go_big_quiet_step (fail)
  refine wpQuiet_nil ?_
  intro W7 hW'
  obtain ⟨⟨dq, osq⟩, hW⟩ := hW'
  have hb : Below w2.heap.size w2 W7 := by rw [hW]; exact below_regrown _ _ _
  have hR7 := HR1.out.below hb HR1.out.lt
  have HB2 := hid (HB1.out.trans (hb.mono HB1.out.size))
  have x0 := hR7.c0; have x1 := hR7.c1; have x2 := hR7.c2; have x3 := hR7.c3; have x4 := hR7.c4; have x5 := hR7.c5; have x6 := hR7.c6; have x7 := hR7.c7
  clear hW i0 i1 i2 i3 hb hR7 hM1 hM2
  by_cases h1 : 0 < M1
  · go_wp2
    go_ret
    exact ⟨by rw [HS.out, if_pos (.inl h1)]; rfl, HB2.out⟩
  · by_cases h2 : 0 < M2
    · go_wp2
      go_ret
      exact ⟨by rw [HS.out, if_pos (.inr h2)]; rfl, HB2.out⟩
    · by_cases h3 : M1 < 0
      · by_cases h4 : M2 < 0
        · go_wp2
          go_ret
          exact ⟨by rw [HS.out, if_neg (by omega), if_pos ⟨h3, h4⟩]; rfl, HB2.out⟩
        · go_wp2_with (go_at_call 53; refine (HY.out _).mono ?_; rintro e w3 ⟨rfl, hb3⟩; have HB3 := hid (HB2.out.trans (hb3.mono HB2.out.size)); clear hb3)
          go_ret
          exact ⟨by rw [HS.out, if_neg (by omega), if_neg (by omega)]; rfl, HB3.out⟩
      · go_wp2_with (go_at_call 53; refine (HY.out _).mono ?_; rintro e w3 ⟨rfl, hb3⟩; have HB3 := hid (HB2.out.trans (hb3.mono HB2.out.size)); clear hb3)
        go_ret
        exact ⟨by rw [HS.out, if_neg (by omega), if_neg (by omega)]; rfl, HB3.out⟩

theorem relate_any {a b c d : Pp} (ha : Gp a) (hb : Gp b) (hc : Gp c) (hd : Gp d) (w : World) :
    Calls Try.prog 38 #[ev a b c d] w fun e w' => e = .returned (.int .i64 (relP a b c d)) ∧ Below w.heap.size w w' :=
  relate_core w a.1 a.2 b.1 b.2 c.1 c.2 d.1 d.2 _ _ _ _ _ _ _ _ (hid fun W => turns_any ha hb hc hd W) (hid fun W => relateByEnds_any ha hb hc hd W) rfl rfl (tr_mul _ _ _ _ _ _) (tr_mul _ _ _ _ _ _) (hid (by rw [← relE_eq]; rfl))
end Go.Proofs.Ytlnjjkgjknheiaa
