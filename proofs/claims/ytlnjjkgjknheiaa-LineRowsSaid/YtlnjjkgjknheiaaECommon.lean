/-
  seg's common: the ends that are points of both segments, each once.
-/
import Derived.Test.YtlnjjkgjknheiaaEEnds
namespace Go.Proofs.Ytlnjjkgjknheiaa
open Go.RowKit Go.Sort

theorem PtRow.pts {w : World} {base : Nat} {v : Value} {ps : List Pp} (h : PtRow w base v ps) : Pts w v ps := by
  obtain ⟨ao, cap, rfl⟩ := h.form
  refine ⟨ao, cap, rfl, fun h1 => ?_⟩
  obtain ⟨g, rfl, _⟩ := h.at (k := 0) (p := ps[0]) (by simp)
  refine ⟨g, 0, rfl, fun k p hk => ?_⟩
  obtain ⟨g', e, c0, c1⟩ := h.at hk
  cases e
  rw [Nat.zero_add]
  exact ⟨c0, c1⟩

set_option maxRecDepth 100000 in
set_option maxHeartbeats 8000000 in
theorem common_core (w : World) (AX AY BX BY CX CY DX DY : Int) (ps : List Pp) (HPS : Hid (ps = [(AX, AY), (BX, BY), (CX, CY), (DX, DY)]))
    (HO : Hid (∀ q ∈ ps, ∀ W, Calls Try.prog 54 #[pv AX AY, pv BX BY, pv q.1 q.2] W fun e w' => e = .returned (.bool (on2 (AX, AY) (BX, BY) q)) ∧ Below W.heap.size W w'))
    (HP : Hid (∀ q ∈ ps, ∀ W, Calls Try.prog 54 #[pv CX CY, pv DX DY, pv q.1 q.2] W fun e w' => e = .returned (.bool (on2 (CX, CY) (DX, DY) q)) ∧ Below W.heap.size W w')) :
    Calls Try.prog 39 #[ev (AX, AY) (BX, BY) (CX, CY) (DX, DY)] w fun e w' => (∃ v, e = .returned v ∧ Pts w' v (shL (AX, AY) (BX, BY) (CX, CY) (DX, DY) ps)) ∧ Below w.heap.size w w' := by
  obtain ⟨wA, hwA⟩ : ∃ wA, w.alloc (.cells #[.int .i64 AX, .int .i64 AY, .int .i64 BX, .int .i64 BY, .int .i64 CX, .int .i64 CY, .int .i64 DX, .int .i64 DY] 55) = wA := ⟨_, rfl⟩
  have hszA : wA.heap.size = w.heap.size + 1 := by rw [← hwA]; simp
  have hR : Row4 wA w.heap.size 55 AX AY BX BY CX CY DX DY := by rw [← hwA]; exact Row4.new w _ _ _ _ _ _ _ _ _
  have HBL := hid (show Below w.heap.size w wA by rw [← hwA]; exact (Below.refl _ w).alloc (Nat.le_refl _) _)
  have HR := hid hR
  have k0 := hR.c0; have k1 := hR.c1; have k2 := hR.c2; have k3 := hR.c3; have k4 := hR.c4; have k5 := hR.c5; have k6 := hR.c6; have k7 := hR.c7
  clear hR
  have ix0 : ∀ W, (Instr.index 55 (.agg #[.int .i64 AX, .int .i64 AY, .int .i64 BX, .int .i64 BY, .int .i64 CX, .int .i64 CY, .int .i64 DX, .int .i64 DY]) (.int .i64 0)).run Try.prog W = .ok (pv AX AY) W := fun _ => by kernel_rfl
  have ix1 : ∀ W, (Instr.index 55 (.agg #[.int .i64 AX, .int .i64 AY, .int .i64 BX, .int .i64 BY, .int .i64 CX, .int .i64 CY, .int .i64 DX, .int .i64 DY]) (.int .i64 1)).run Try.prog W = .ok (pv BX BY) W := fun _ => by kernel_rfl
  have ix2 : ∀ W, (Instr.index 55 (.agg #[.int .i64 AX, .int .i64 AY, .int .i64 BX, .int .i64 BY, .int .i64 CX, .int .i64 CY, .int .i64 DX, .int .i64 DY]) (.int .i64 2)).run Try.prog W = .ok (pv CX CY) W := fun _ => by kernel_rfl
  have ix3 : ∀ W, (Instr.index 55 (.agg #[.int .i64 AX, .int .i64 AY, .int .i64 BX, .int .i64 BY, .int .i64 CX, .int .i64 CY, .int .i64 DX, .int .i64 DY]) (.int .i64 3)).run Try.prog W = .ok (pv DX DY) W := fun _ => by kernel_rfl
  go_enter Try.func39, Try.ntmps39
  go_wp2
  clear k0 k1 k2 k3 k4 k5 k6 k7
  go_loopw [3, 7] (fun v i wr => ∃ k : Nat, k ≤ 4 ∧ i = .int .i64 k ∧ (∃ ao cap, v = .slice ao (shL (AX, AY) (BX, BY) (CX, CY) (DX, DY) (ps.take k)).length cap ∧ PtRow wr wA.heap.size (.slice ao (shL (AX, AY) (BX, BY) (CX, CY) (DX, DY) (ps.take k)).length cap) (shL (AX, AY) (BX, BY) (CX, CY) (DX, DY) (ps.take k))) ∧ Below wA.heap.size wA wr) (fun _ i _ => 4 - (intOf i).toNat)
  case atStart => exact ⟨0, by omega, rfl, ⟨none, 0, rfl, ⟨rfl, .inl ⟨rfl, rfl⟩⟩⟩, Below.refl _ _⟩
  case round =>
    obtain ⟨k, hk, rfl, ⟨ao, cap, rfl, hrow⟩, hbr⟩ := hrel
    have hlen := shL_len (AX, AY) (BX, BY) (CX, CY) (DX, DY) (ps.take k)
    obtain ⟨sh, hsh⟩ : ∃ sh, shL (AX, AY) (BX, BY) (CX, CY) (DX, DY) (ps.take k) = sh := ⟨_, rfl⟩
    rw [hsh] at hrow hlen ⊢
    obtain ⟨n, hn⟩ : ∃ n, sh.length = n := ⟨_, rfl⟩
    have hn4 : n ≤ 4 := by rw [← hn]; refine Nat.le_trans hlen ?_; simp; omega
    rw [hn] at hrow ⊢
    have HSH := hid hsh
    have HN := hid hn
    have HROW := hid hrow
    have HBR := hid hbr
    have HEr := hid (HR.out.below hbr HR.out.lt)
    clear hlen hsh hn hrow hbr
    rcases (show k = 0 ∨ k = 1 ∨ k = 2 ∨ k = 3 ∨ k = 4 by omega) with rfl | rfl | rfl | rfl | rfl
    · have HK := hid (show ps[0]? = some (AX, AY) by rw [HPS.out]; rfl)
      have HM := hid (show (AX, AY) ∈ ps by rw [HPS.out]; simp)
      have co := hid (fun W => HO.out _ HM.out W)
      have cp := hid (fun W => HP.out _ HM.out W)
      have HS : Hid (shS (AX, AY) (BX, BY) (CX, CY) (DX, DY) (AX, AY) = (on2 (AX, AY) (BX, BY) (AX, AY) && on2 (CX, CY) (DX, DY) (AX, AY))) := hid rfl
      have ct := hid (show ∀ W, PtRow W wA.heap.size (.slice ao n cap) sh → Calls Try.prog 55 #[.slice ao n cap, pv AX AY] W fun e w' => e = .returned (.bool (sh.any fun q => eqp q (AX, AY))) ∧ Below W.heap.size W w' from fun W h => contains_any _ _ _ _ W h.pts (by rw [HN.out]; omega))
      have HF : Hid ((sh.any fun q => eqp q (AX, AY)) = sh.any fun q => eqp q (AX, AY)) := hid rfl
      generalize on2 (AX, AY) (BX, BY) (AX, AY) = O1 at *
      generalize on2 (CX, CY) (DX, DY) (AX, AY) = O2 at *
      dsimp only at co cp
      obtain ⟨F, hF⟩ : ∃ F, (sh.any fun q => eqp q (AX, AY)) = F := ⟨_, rfl⟩
      rw [hF] at ct
      replace HF := hid hF
      clear hF
      obtain ⟨wP, hwP⟩ : ∃ wP, wr.alloc (.cells #[.int .i64 AX, .int .i64 AY] 24) = wP := ⟨_, rfl⟩
      obtain ⟨RB, hRB⟩ : ∃ RB, wr.heap.size = RB := ⟨_, rfl⟩
      have HPp := hid (show Pt wP RB AX AY by rw [← hwP, ← hRB]; exact Pt.new wr _ _)
      have HE := hid (show Row4 wP w.heap.size 55 AX AY BX BY CX CY DX DY by rw [← hwP]; exact HEr.out.alloc _)
      have hbP : Below wr.heap.size wr wP := by rw [← hwP]; exact (Below.refl _ _).alloc (Nat.le_refl _) _
      replace HROW := hid (HROW.out.below hbP)
      replace HBR := hid (HBR.out.trans (hbP.mono HBR.out.size))
      clear hbP HEr
      have x00 := HE.out.c0
      have x01 := HE.out.c1
      have x02 := HE.out.c2
      have x03 := HE.out.c3
      have x04 := HE.out.c4
      have x05 := HE.out.c5
      have x06 := HE.out.c6
      have x07 := HE.out.c7
      have y00 := HPp.out.c0
      have y01 := HPp.out.c1
      cases O1 with
      | false =>
        go_wp2_with (first
          | (go_at_call 54; refine (co.out _).mono ?_; rintro e w1 ⟨rfl, hb1⟩; replace HE := hid (HE.out.below hb1 HE.out.lt); replace HPp := hid (HPp.out.below hb1 HPp.out.lt); replace HROW := hid (HROW.out.below hb1); replace HBR := hid (HBR.out.trans (hb1.mono HBR.out.size)); have x10 := HE.out.c0; have x11 := HE.out.c1; have x12 := HE.out.c2; have x13 := HE.out.c3; have x14 := HE.out.c4; have x15 := HE.out.c5; have x16 := HE.out.c6; have x17 := HE.out.c7; have y10 := HPp.out.c0; have y11 := HPp.out.c1; clear hb1 co))
        go_roundw
        case rel =>
          have e : shL (AX, AY) (BX, BY) (CX, CY) (DX, DY) (ps.take (0 + 1)) = sh := by
            rw [shL_succ HK.out, HSH.out]
            unfold shAdd
            simp [HS.out, HF.out]
          refine ⟨0 + 1, by omega, rfl, ?_, HBR.out⟩
          rw [e, HN.out]
          exact ⟨ao, cap, rfl, HROW.out⟩
        case measure => simp [intOf]
      | true =>
        cases O2 with
        | false =>
          go_wp2_with (first
            | (go_at_call 54; refine (co.out _).mono ?_; rintro e w1 ⟨rfl, hb1⟩; replace HE := hid (HE.out.below hb1 HE.out.lt); replace HPp := hid (HPp.out.below hb1 HPp.out.lt); replace HROW := hid (HROW.out.below hb1); replace HBR := hid (HBR.out.trans (hb1.mono HBR.out.size)); have x10 := HE.out.c0; have x11 := HE.out.c1; have x12 := HE.out.c2; have x13 := HE.out.c3; have x14 := HE.out.c4; have x15 := HE.out.c5; have x16 := HE.out.c6; have x17 := HE.out.c7; have y10 := HPp.out.c0; have y11 := HPp.out.c1; clear hb1 co)
            | (go_at_call 54; refine (cp.out _).mono ?_; rintro e w2 ⟨rfl, hb2⟩; replace HE := hid (HE.out.below hb2 HE.out.lt); replace HPp := hid (HPp.out.below hb2 HPp.out.lt); replace HROW := hid (HROW.out.below hb2); replace HBR := hid (HBR.out.trans (hb2.mono HBR.out.size)); have x20 := HE.out.c0; have x21 := HE.out.c1; have x22 := HE.out.c2; have x23 := HE.out.c3; have x24 := HE.out.c4; have x25 := HE.out.c5; have x26 := HE.out.c6; have x27 := HE.out.c7; have y20 := HPp.out.c0; have y21 := HPp.out.c1; clear hb2 cp))
          go_roundw
          case rel =>
            have e : shL (AX, AY) (BX, BY) (CX, CY) (DX, DY) (ps.take (0 + 1)) = sh := by
              rw [shL_succ HK.out, HSH.out]
              unfold shAdd
              simp [HS.out, HF.out]
            refine ⟨0 + 1, by omega, rfl, ?_, HBR.out⟩
            rw [e, HN.out]
            exact ⟨ao, cap, rfl, HROW.out⟩
          case measure => simp [intOf]
        | true =>
          cases F with
          | true =>
            go_wp2_with (first
              | (go_at_call 54; refine (co.out _).mono ?_; rintro e w1 ⟨rfl, hb1⟩; replace HE := hid (HE.out.below hb1 HE.out.lt); replace HPp := hid (HPp.out.below hb1 HPp.out.lt); replace HROW := hid (HROW.out.below hb1); replace HBR := hid (HBR.out.trans (hb1.mono HBR.out.size)); have x10 := HE.out.c0; have x11 := HE.out.c1; have x12 := HE.out.c2; have x13 := HE.out.c3; have x14 := HE.out.c4; have x15 := HE.out.c5; have x16 := HE.out.c6; have x17 := HE.out.c7; have y10 := HPp.out.c0; have y11 := HPp.out.c1; clear hb1 co)
              | (go_at_call 54; refine (cp.out _).mono ?_; rintro e w2 ⟨rfl, hb2⟩; replace HE := hid (HE.out.below hb2 HE.out.lt); replace HPp := hid (HPp.out.below hb2 HPp.out.lt); replace HROW := hid (HROW.out.below hb2); replace HBR := hid (HBR.out.trans (hb2.mono HBR.out.size)); have x20 := HE.out.c0; have x21 := HE.out.c1; have x22 := HE.out.c2; have x23 := HE.out.c3; have x24 := HE.out.c4; have x25 := HE.out.c5; have x26 := HE.out.c6; have x27 := HE.out.c7; have y20 := HPp.out.c0; have y21 := HPp.out.c1; clear hb2 cp)
              | (go_at_call 55; refine (ct.out _ HROW.out).mono ?_; rintro e w3 ⟨rfl, hb3⟩; replace HE := hid (HE.out.below hb3 HE.out.lt); replace HPp := hid (HPp.out.below hb3 HPp.out.lt); replace HROW := hid (HROW.out.below hb3); replace HBR := hid (HBR.out.trans (hb3.mono HBR.out.size)); have x30 := HE.out.c0; have x31 := HE.out.c1; have x32 := HE.out.c2; have x33 := HE.out.c3; have x34 := HE.out.c4; have x35 := HE.out.c5; have x36 := HE.out.c6; have x37 := HE.out.c7; have y30 := HPp.out.c0; have y31 := HPp.out.c1; clear hb3))
            go_roundw
            case rel =>
              have e : shL (AX, AY) (BX, BY) (CX, CY) (DX, DY) (ps.take (0 + 1)) = sh := by
                rw [shL_succ HK.out, HSH.out]
                unfold shAdd
                simp [HS.out, HF.out]
              refine ⟨0 + 1, by omega, rfl, ?_, HBR.out⟩
              rw [e, HN.out]
              exact ⟨ao, cap, rfl, HROW.out⟩
            case measure => simp [intOf]
          | false =>
            go_wp2_with (first
              | (go_at_call 54; refine (co.out _).mono ?_; rintro e w1 ⟨rfl, hb1⟩; replace HE := hid (HE.out.below hb1 HE.out.lt); replace HPp := hid (HPp.out.below hb1 HPp.out.lt); replace HROW := hid (HROW.out.below hb1); replace HBR := hid (HBR.out.trans (hb1.mono HBR.out.size)); have x10 := HE.out.c0; have x11 := HE.out.c1; have x12 := HE.out.c2; have x13 := HE.out.c3; have x14 := HE.out.c4; have x15 := HE.out.c5; have x16 := HE.out.c6; have x17 := HE.out.c7; have y10 := HPp.out.c0; have y11 := HPp.out.c1; clear hb1 co)
              | (go_at_call 54; refine (cp.out _).mono ?_; rintro e w2 ⟨rfl, hb2⟩; replace HE := hid (HE.out.below hb2 HE.out.lt); replace HPp := hid (HPp.out.below hb2 HPp.out.lt); replace HROW := hid (HROW.out.below hb2); replace HBR := hid (HBR.out.trans (hb2.mono HBR.out.size)); have x20 := HE.out.c0; have x21 := HE.out.c1; have x22 := HE.out.c2; have x23 := HE.out.c3; have x24 := HE.out.c4; have x25 := HE.out.c5; have x26 := HE.out.c6; have x27 := HE.out.c7; have y20 := HPp.out.c0; have y21 := HPp.out.c1; clear hb2 cp)
              | (go_at_call 55; refine (ct.out _ HROW.out).mono ?_; rintro e w3 ⟨rfl, hb3⟩; replace HE := hid (HE.out.below hb3 HE.out.lt); replace HPp := hid (HPp.out.below hb3 HPp.out.lt); replace HROW := hid (HROW.out.below hb3); replace HBR := hid (HBR.out.trans (hb3.mono HBR.out.size)); have x30 := HE.out.c0; have x31 := HE.out.c1; have x32 := HE.out.c2; have x33 := HE.out.c3; have x34 := HE.out.c4; have x35 := HE.out.c5; have x36 := HE.out.c6; have x37 := HE.out.c7; have y30 := HPp.out.c0; have y31 := HPp.out.c1; obtain ⟨ao', cap', wS, hrun, hrow', hbs⟩ := HROW.out.snoc HBR.out.size (by rw [HN.out]; omega) (AX, AY); rw [HN.out] at hrun hrow'; have HRUN := hid hrun; have HROW' := hid hrow'; have HBS := hid (show Below wA.heap.size wA wS from HBR.out.trans hbs); clear hrun hrow' hbs; clear hb3)
              | (at_builtin; refine wpList_append_run rfl (.tmp 30) (.tmp 32) 25 rfl rfl rfl HRUN.out ?_))
            go_roundw
            case rel =>
              have e : shL (AX, AY) (BX, BY) (CX, CY) (DX, DY) (ps.take (0 + 1)) = sh ++ [(AX, AY)] := by
                rw [shL_succ HK.out, HSH.out]
                unfold shAdd
                simp [HS.out, HF.out]
              refine ⟨0 + 1, by omega, rfl, ?_, HBS.out⟩
              rw [e, List.length_append, HN.out]
              exact ⟨ao', cap', rfl, HROW'.out⟩
            case measure => simp [intOf]
    · have HK := hid (show ps[1]? = some (BX, BY) by rw [HPS.out]; rfl)
      have HM := hid (show (BX, BY) ∈ ps by rw [HPS.out]; simp)
      have co := hid (fun W => HO.out _ HM.out W)
      have cp := hid (fun W => HP.out _ HM.out W)
      have HS : Hid (shS (AX, AY) (BX, BY) (CX, CY) (DX, DY) (BX, BY) = (on2 (AX, AY) (BX, BY) (BX, BY) && on2 (CX, CY) (DX, DY) (BX, BY))) := hid rfl
      have ct := hid (show ∀ W, PtRow W wA.heap.size (.slice ao n cap) sh → Calls Try.prog 55 #[.slice ao n cap, pv BX BY] W fun e w' => e = .returned (.bool (sh.any fun q => eqp q (BX, BY))) ∧ Below W.heap.size W w' from fun W h => contains_any _ _ _ _ W h.pts (by rw [HN.out]; omega))
      have HF : Hid ((sh.any fun q => eqp q (BX, BY)) = sh.any fun q => eqp q (BX, BY)) := hid rfl
      generalize on2 (AX, AY) (BX, BY) (BX, BY) = O1 at *
      generalize on2 (CX, CY) (DX, DY) (BX, BY) = O2 at *
      dsimp only at co cp
      obtain ⟨F, hF⟩ : ∃ F, (sh.any fun q => eqp q (BX, BY)) = F := ⟨_, rfl⟩
      rw [hF] at ct
      replace HF := hid hF
      clear hF
      obtain ⟨wP, hwP⟩ : ∃ wP, wr.alloc (.cells #[.int .i64 BX, .int .i64 BY] 24) = wP := ⟨_, rfl⟩
      obtain ⟨RB, hRB⟩ : ∃ RB, wr.heap.size = RB := ⟨_, rfl⟩
      have HPp := hid (show Pt wP RB BX BY by rw [← hwP, ← hRB]; exact Pt.new wr _ _)
      have HE := hid (show Row4 wP w.heap.size 55 AX AY BX BY CX CY DX DY by rw [← hwP]; exact HEr.out.alloc _)
      have hbP : Below wr.heap.size wr wP := by rw [← hwP]; exact (Below.refl _ _).alloc (Nat.le_refl _) _
      replace HROW := hid (HROW.out.below hbP)
      replace HBR := hid (HBR.out.trans (hbP.mono HBR.out.size))
      clear hbP HEr
      have x00 := HE.out.c0
      have x01 := HE.out.c1
      have x02 := HE.out.c2
      have x03 := HE.out.c3
      have x04 := HE.out.c4
      have x05 := HE.out.c5
      have x06 := HE.out.c6
      have x07 := HE.out.c7
      have y00 := HPp.out.c0
      have y01 := HPp.out.c1
      cases O1 with
      | false =>
        go_wp2_with (first
          | (go_at_call 54; refine (co.out _).mono ?_; rintro e w1 ⟨rfl, hb1⟩; replace HE := hid (HE.out.below hb1 HE.out.lt); replace HPp := hid (HPp.out.below hb1 HPp.out.lt); replace HROW := hid (HROW.out.below hb1); replace HBR := hid (HBR.out.trans (hb1.mono HBR.out.size)); have x10 := HE.out.c0; have x11 := HE.out.c1; have x12 := HE.out.c2; have x13 := HE.out.c3; have x14 := HE.out.c4; have x15 := HE.out.c5; have x16 := HE.out.c6; have x17 := HE.out.c7; have y10 := HPp.out.c0; have y11 := HPp.out.c1; clear hb1 co))
        go_roundw
        case rel =>
          have e : shL (AX, AY) (BX, BY) (CX, CY) (DX, DY) (ps.take (1 + 1)) = sh := by
            rw [shL_succ HK.out, HSH.out]
            unfold shAdd
            simp [HS.out, HF.out]
          refine ⟨1 + 1, by omega, rfl, ?_, HBR.out⟩
          rw [e, HN.out]
          exact ⟨ao, cap, rfl, HROW.out⟩
        case measure => simp [intOf]
      | true =>
        cases O2 with
        | false =>
          go_wp2_with (first
            | (go_at_call 54; refine (co.out _).mono ?_; rintro e w1 ⟨rfl, hb1⟩; replace HE := hid (HE.out.below hb1 HE.out.lt); replace HPp := hid (HPp.out.below hb1 HPp.out.lt); replace HROW := hid (HROW.out.below hb1); replace HBR := hid (HBR.out.trans (hb1.mono HBR.out.size)); have x10 := HE.out.c0; have x11 := HE.out.c1; have x12 := HE.out.c2; have x13 := HE.out.c3; have x14 := HE.out.c4; have x15 := HE.out.c5; have x16 := HE.out.c6; have x17 := HE.out.c7; have y10 := HPp.out.c0; have y11 := HPp.out.c1; clear hb1 co)
            | (go_at_call 54; refine (cp.out _).mono ?_; rintro e w2 ⟨rfl, hb2⟩; replace HE := hid (HE.out.below hb2 HE.out.lt); replace HPp := hid (HPp.out.below hb2 HPp.out.lt); replace HROW := hid (HROW.out.below hb2); replace HBR := hid (HBR.out.trans (hb2.mono HBR.out.size)); have x20 := HE.out.c0; have x21 := HE.out.c1; have x22 := HE.out.c2; have x23 := HE.out.c3; have x24 := HE.out.c4; have x25 := HE.out.c5; have x26 := HE.out.c6; have x27 := HE.out.c7; have y20 := HPp.out.c0; have y21 := HPp.out.c1; clear hb2 cp))
          go_roundw
          case rel =>
            have e : shL (AX, AY) (BX, BY) (CX, CY) (DX, DY) (ps.take (1 + 1)) = sh := by
              rw [shL_succ HK.out, HSH.out]
              unfold shAdd
              simp [HS.out, HF.out]
            refine ⟨1 + 1, by omega, rfl, ?_, HBR.out⟩
            rw [e, HN.out]
            exact ⟨ao, cap, rfl, HROW.out⟩
          case measure => simp [intOf]
        | true =>
          cases F with
          | true =>
            go_wp2_with (first
              | (go_at_call 54; refine (co.out _).mono ?_; rintro e w1 ⟨rfl, hb1⟩; replace HE := hid (HE.out.below hb1 HE.out.lt); replace HPp := hid (HPp.out.below hb1 HPp.out.lt); replace HROW := hid (HROW.out.below hb1); replace HBR := hid (HBR.out.trans (hb1.mono HBR.out.size)); have x10 := HE.out.c0; have x11 := HE.out.c1; have x12 := HE.out.c2; have x13 := HE.out.c3; have x14 := HE.out.c4; have x15 := HE.out.c5; have x16 := HE.out.c6; have x17 := HE.out.c7; have y10 := HPp.out.c0; have y11 := HPp.out.c1; clear hb1 co)
              | (go_at_call 54; refine (cp.out _).mono ?_; rintro e w2 ⟨rfl, hb2⟩; replace HE := hid (HE.out.below hb2 HE.out.lt); replace HPp := hid (HPp.out.below hb2 HPp.out.lt); replace HROW := hid (HROW.out.below hb2); replace HBR := hid (HBR.out.trans (hb2.mono HBR.out.size)); have x20 := HE.out.c0; have x21 := HE.out.c1; have x22 := HE.out.c2; have x23 := HE.out.c3; have x24 := HE.out.c4; have x25 := HE.out.c5; have x26 := HE.out.c6; have x27 := HE.out.c7; have y20 := HPp.out.c0; have y21 := HPp.out.c1; clear hb2 cp)
              | (go_at_call 55; refine (ct.out _ HROW.out).mono ?_; rintro e w3 ⟨rfl, hb3⟩; replace HE := hid (HE.out.below hb3 HE.out.lt); replace HPp := hid (HPp.out.below hb3 HPp.out.lt); replace HROW := hid (HROW.out.below hb3); replace HBR := hid (HBR.out.trans (hb3.mono HBR.out.size)); have x30 := HE.out.c0; have x31 := HE.out.c1; have x32 := HE.out.c2; have x33 := HE.out.c3; have x34 := HE.out.c4; have x35 := HE.out.c5; have x36 := HE.out.c6; have x37 := HE.out.c7; have y30 := HPp.out.c0; have y31 := HPp.out.c1; clear hb3))
            go_roundw
            case rel =>
              have e : shL (AX, AY) (BX, BY) (CX, CY) (DX, DY) (ps.take (1 + 1)) = sh := by
                rw [shL_succ HK.out, HSH.out]
                unfold shAdd
                simp [HS.out, HF.out]
              refine ⟨1 + 1, by omega, rfl, ?_, HBR.out⟩
              rw [e, HN.out]
              exact ⟨ao, cap, rfl, HROW.out⟩
            case measure => simp [intOf]
          | false =>
            go_wp2_with (first
              | (go_at_call 54; refine (co.out _).mono ?_; rintro e w1 ⟨rfl, hb1⟩; replace HE := hid (HE.out.below hb1 HE.out.lt); replace HPp := hid (HPp.out.below hb1 HPp.out.lt); replace HROW := hid (HROW.out.below hb1); replace HBR := hid (HBR.out.trans (hb1.mono HBR.out.size)); have x10 := HE.out.c0; have x11 := HE.out.c1; have x12 := HE.out.c2; have x13 := HE.out.c3; have x14 := HE.out.c4; have x15 := HE.out.c5; have x16 := HE.out.c6; have x17 := HE.out.c7; have y10 := HPp.out.c0; have y11 := HPp.out.c1; clear hb1 co)
              | (go_at_call 54; refine (cp.out _).mono ?_; rintro e w2 ⟨rfl, hb2⟩; replace HE := hid (HE.out.below hb2 HE.out.lt); replace HPp := hid (HPp.out.below hb2 HPp.out.lt); replace HROW := hid (HROW.out.below hb2); replace HBR := hid (HBR.out.trans (hb2.mono HBR.out.size)); have x20 := HE.out.c0; have x21 := HE.out.c1; have x22 := HE.out.c2; have x23 := HE.out.c3; have x24 := HE.out.c4; have x25 := HE.out.c5; have x26 := HE.out.c6; have x27 := HE.out.c7; have y20 := HPp.out.c0; have y21 := HPp.out.c1; clear hb2 cp)
              | (go_at_call 55; refine (ct.out _ HROW.out).mono ?_; rintro e w3 ⟨rfl, hb3⟩; replace HE := hid (HE.out.below hb3 HE.out.lt); replace HPp := hid (HPp.out.below hb3 HPp.out.lt); replace HROW := hid (HROW.out.below hb3); replace HBR := hid (HBR.out.trans (hb3.mono HBR.out.size)); have x30 := HE.out.c0; have x31 := HE.out.c1; have x32 := HE.out.c2; have x33 := HE.out.c3; have x34 := HE.out.c4; have x35 := HE.out.c5; have x36 := HE.out.c6; have x37 := HE.out.c7; have y30 := HPp.out.c0; have y31 := HPp.out.c1; obtain ⟨ao', cap', wS, hrun, hrow', hbs⟩ := HROW.out.snoc HBR.out.size (by rw [HN.out]; omega) (BX, BY); rw [HN.out] at hrun hrow'; have HRUN := hid hrun; have HROW' := hid hrow'; have HBS := hid (show Below wA.heap.size wA wS from HBR.out.trans hbs); clear hrun hrow' hbs; clear hb3)
              | (at_builtin; refine wpList_append_run rfl (.tmp 30) (.tmp 32) 25 rfl rfl rfl HRUN.out ?_))
            go_roundw
            case rel =>
              have e : shL (AX, AY) (BX, BY) (CX, CY) (DX, DY) (ps.take (1 + 1)) = sh ++ [(BX, BY)] := by
                rw [shL_succ HK.out, HSH.out]
                unfold shAdd
                simp [HS.out, HF.out]
              refine ⟨1 + 1, by omega, rfl, ?_, HBS.out⟩
              rw [e, List.length_append, HN.out]
              exact ⟨ao', cap', rfl, HROW'.out⟩
            case measure => simp [intOf]
    · have HK := hid (show ps[2]? = some (CX, CY) by rw [HPS.out]; rfl)
      have HM := hid (show (CX, CY) ∈ ps by rw [HPS.out]; simp)
      have co := hid (fun W => HO.out _ HM.out W)
      have cp := hid (fun W => HP.out _ HM.out W)
      have HS : Hid (shS (AX, AY) (BX, BY) (CX, CY) (DX, DY) (CX, CY) = (on2 (AX, AY) (BX, BY) (CX, CY) && on2 (CX, CY) (DX, DY) (CX, CY))) := hid rfl
      have ct := hid (show ∀ W, PtRow W wA.heap.size (.slice ao n cap) sh → Calls Try.prog 55 #[.slice ao n cap, pv CX CY] W fun e w' => e = .returned (.bool (sh.any fun q => eqp q (CX, CY))) ∧ Below W.heap.size W w' from fun W h => contains_any _ _ _ _ W h.pts (by rw [HN.out]; omega))
      have HF : Hid ((sh.any fun q => eqp q (CX, CY)) = sh.any fun q => eqp q (CX, CY)) := hid rfl
      generalize on2 (AX, AY) (BX, BY) (CX, CY) = O1 at *
      generalize on2 (CX, CY) (DX, DY) (CX, CY) = O2 at *
      dsimp only at co cp
      obtain ⟨F, hF⟩ : ∃ F, (sh.any fun q => eqp q (CX, CY)) = F := ⟨_, rfl⟩
      rw [hF] at ct
      replace HF := hid hF
      clear hF
      obtain ⟨wP, hwP⟩ : ∃ wP, wr.alloc (.cells #[.int .i64 CX, .int .i64 CY] 24) = wP := ⟨_, rfl⟩
      obtain ⟨RB, hRB⟩ : ∃ RB, wr.heap.size = RB := ⟨_, rfl⟩
      have HPp := hid (show Pt wP RB CX CY by rw [← hwP, ← hRB]; exact Pt.new wr _ _)
      have HE := hid (show Row4 wP w.heap.size 55 AX AY BX BY CX CY DX DY by rw [← hwP]; exact HEr.out.alloc _)
      have hbP : Below wr.heap.size wr wP := by rw [← hwP]; exact (Below.refl _ _).alloc (Nat.le_refl _) _
      replace HROW := hid (HROW.out.below hbP)
      replace HBR := hid (HBR.out.trans (hbP.mono HBR.out.size))
      clear hbP HEr
      have x00 := HE.out.c0
      have x01 := HE.out.c1
      have x02 := HE.out.c2
      have x03 := HE.out.c3
      have x04 := HE.out.c4
      have x05 := HE.out.c5
      have x06 := HE.out.c6
      have x07 := HE.out.c7
      have y00 := HPp.out.c0
      have y01 := HPp.out.c1
      cases O1 with
      | false =>
        go_wp2_with (first
          | (go_at_call 54; refine (co.out _).mono ?_; rintro e w1 ⟨rfl, hb1⟩; replace HE := hid (HE.out.below hb1 HE.out.lt); replace HPp := hid (HPp.out.below hb1 HPp.out.lt); replace HROW := hid (HROW.out.below hb1); replace HBR := hid (HBR.out.trans (hb1.mono HBR.out.size)); have x10 := HE.out.c0; have x11 := HE.out.c1; have x12 := HE.out.c2; have x13 := HE.out.c3; have x14 := HE.out.c4; have x15 := HE.out.c5; have x16 := HE.out.c6; have x17 := HE.out.c7; have y10 := HPp.out.c0; have y11 := HPp.out.c1; clear hb1 co))
        go_roundw
        case rel =>
          have e : shL (AX, AY) (BX, BY) (CX, CY) (DX, DY) (ps.take (2 + 1)) = sh := by
            rw [shL_succ HK.out, HSH.out]
            unfold shAdd
            simp [HS.out, HF.out]
          refine ⟨2 + 1, by omega, rfl, ?_, HBR.out⟩
          rw [e, HN.out]
          exact ⟨ao, cap, rfl, HROW.out⟩
        case measure => simp [intOf]
      | true =>
        cases O2 with
        | false =>
          go_wp2_with (first
            | (go_at_call 54; refine (co.out _).mono ?_; rintro e w1 ⟨rfl, hb1⟩; replace HE := hid (HE.out.below hb1 HE.out.lt); replace HPp := hid (HPp.out.below hb1 HPp.out.lt); replace HROW := hid (HROW.out.below hb1); replace HBR := hid (HBR.out.trans (hb1.mono HBR.out.size)); have x10 := HE.out.c0; have x11 := HE.out.c1; have x12 := HE.out.c2; have x13 := HE.out.c3; have x14 := HE.out.c4; have x15 := HE.out.c5; have x16 := HE.out.c6; have x17 := HE.out.c7; have y10 := HPp.out.c0; have y11 := HPp.out.c1; clear hb1 co)
            | (go_at_call 54; refine (cp.out _).mono ?_; rintro e w2 ⟨rfl, hb2⟩; replace HE := hid (HE.out.below hb2 HE.out.lt); replace HPp := hid (HPp.out.below hb2 HPp.out.lt); replace HROW := hid (HROW.out.below hb2); replace HBR := hid (HBR.out.trans (hb2.mono HBR.out.size)); have x20 := HE.out.c0; have x21 := HE.out.c1; have x22 := HE.out.c2; have x23 := HE.out.c3; have x24 := HE.out.c4; have x25 := HE.out.c5; have x26 := HE.out.c6; have x27 := HE.out.c7; have y20 := HPp.out.c0; have y21 := HPp.out.c1; clear hb2 cp))
          go_roundw
          case rel =>
            have e : shL (AX, AY) (BX, BY) (CX, CY) (DX, DY) (ps.take (2 + 1)) = sh := by
              rw [shL_succ HK.out, HSH.out]
              unfold shAdd
              simp [HS.out, HF.out]
            refine ⟨2 + 1, by omega, rfl, ?_, HBR.out⟩
            rw [e, HN.out]
            exact ⟨ao, cap, rfl, HROW.out⟩
          case measure => simp [intOf]
        | true =>
          cases F with
          | true =>
            go_wp2_with (first
              | (go_at_call 54; refine (co.out _).mono ?_; rintro e w1 ⟨rfl, hb1⟩; replace HE := hid (HE.out.below hb1 HE.out.lt); replace HPp := hid (HPp.out.below hb1 HPp.out.lt); replace HROW := hid (HROW.out.below hb1); replace HBR := hid (HBR.out.trans (hb1.mono HBR.out.size)); have x10 := HE.out.c0; have x11 := HE.out.c1; have x12 := HE.out.c2; have x13 := HE.out.c3; have x14 := HE.out.c4; have x15 := HE.out.c5; have x16 := HE.out.c6; have x17 := HE.out.c7; have y10 := HPp.out.c0; have y11 := HPp.out.c1; clear hb1 co)
              | (go_at_call 54; refine (cp.out _).mono ?_; rintro e w2 ⟨rfl, hb2⟩; replace HE := hid (HE.out.below hb2 HE.out.lt); replace HPp := hid (HPp.out.below hb2 HPp.out.lt); replace HROW := hid (HROW.out.below hb2); replace HBR := hid (HBR.out.trans (hb2.mono HBR.out.size)); have x20 := HE.out.c0; have x21 := HE.out.c1; have x22 := HE.out.c2; have x23 := HE.out.c3; have x24 := HE.out.c4; have x25 := HE.out.c5; have x26 := HE.out.c6; have x27 := HE.out.c7; have y20 := HPp.out.c0; have y21 := HPp.out.c1; clear hb2 cp)
              | (go_at_call 55; refine (ct.out _ HROW.out).mono ?_; rintro e w3 ⟨rfl, hb3⟩; replace HE := hid (HE.out.below hb3 HE.out.lt); replace HPp := hid (HPp.out.below hb3 HPp.out.lt); replace HROW := hid (HROW.out.below hb3); replace HBR := hid (HBR.out.trans (hb3.mono HBR.out.size)); have x30 := HE.out.c0; have x31 := HE.out.c1; have x32 := HE.out.c2; have x33 := HE.out.c3; have x34 := HE.out.c4; have x35 := HE.out.c5; have x36 := HE.out.c6; have x37 := HE.out.c7; have y30 := HPp.out.c0; have y31 := HPp.out.c1; clear hb3))
            go_roundw
            case rel =>
              have e : shL (AX, AY) (BX, BY) (CX, CY) (DX, DY) (ps.take (2 + 1)) = sh := by
                rw [shL_succ HK.out, HSH.out]
                unfold shAdd
                simp [HS.out, HF.out]
              refine ⟨2 + 1, by omega, rfl, ?_, HBR.out⟩
              rw [e, HN.out]
              exact ⟨ao, cap, rfl, HROW.out⟩
            case measure => simp [intOf]
          | false =>
            go_wp2_with (first
              | (go_at_call 54; refine (co.out _).mono ?_; rintro e w1 ⟨rfl, hb1⟩; replace HE := hid (HE.out.below hb1 HE.out.lt); replace HPp := hid (HPp.out.below hb1 HPp.out.lt); replace HROW := hid (HROW.out.below hb1); replace HBR := hid (HBR.out.trans (hb1.mono HBR.out.size)); have x10 := HE.out.c0; have x11 := HE.out.c1; have x12 := HE.out.c2; have x13 := HE.out.c3; have x14 := HE.out.c4; have x15 := HE.out.c5; have x16 := HE.out.c6; have x17 := HE.out.c7; have y10 := HPp.out.c0; have y11 := HPp.out.c1; clear hb1 co)
              | (go_at_call 54; refine (cp.out _).mono ?_; rintro e w2 ⟨rfl, hb2⟩; replace HE := hid (HE.out.below hb2 HE.out.lt); replace HPp := hid (HPp.out.below hb2 HPp.out.lt); replace HROW := hid (HROW.out.below hb2); replace HBR := hid (HBR.out.trans (hb2.mono HBR.out.size)); have x20 := HE.out.c0; have x21 := HE.out.c1; have x22 := HE.out.c2; have x23 := HE.out.c3; have x24 := HE.out.c4; have x25 := HE.out.c5; have x26 := HE.out.c6; have x27 := HE.out.c7; have y20 := HPp.out.c0; have y21 := HPp.out.c1; clear hb2 cp)
              | (go_at_call 55; refine (ct.out _ HROW.out).mono ?_; rintro e w3 ⟨rfl, hb3⟩; replace HE := hid (HE.out.below hb3 HE.out.lt); replace HPp := hid (HPp.out.below hb3 HPp.out.lt); replace HROW := hid (HROW.out.below hb3); replace HBR := hid (HBR.out.trans (hb3.mono HBR.out.size)); have x30 := HE.out.c0; have x31 := HE.out.c1; have x32 := HE.out.c2; have x33 := HE.out.c3; have x34 := HE.out.c4; have x35 := HE.out.c5; have x36 := HE.out.c6; have x37 := HE.out.c7; have y30 := HPp.out.c0; have y31 := HPp.out.c1; obtain ⟨ao', cap', wS, hrun, hrow', hbs⟩ := HROW.out.snoc HBR.out.size (by rw [HN.out]; omega) (CX, CY); rw [HN.out] at hrun hrow'; have HRUN := hid hrun; have HROW' := hid hrow'; have HBS := hid (show Below wA.heap.size wA wS from HBR.out.trans hbs); clear hrun hrow' hbs; clear hb3)
              | (at_builtin; refine wpList_append_run rfl (.tmp 30) (.tmp 32) 25 rfl rfl rfl HRUN.out ?_))
            go_roundw
            case rel =>
              have e : shL (AX, AY) (BX, BY) (CX, CY) (DX, DY) (ps.take (2 + 1)) = sh ++ [(CX, CY)] := by
                rw [shL_succ HK.out, HSH.out]
                unfold shAdd
                simp [HS.out, HF.out]
              refine ⟨2 + 1, by omega, rfl, ?_, HBS.out⟩
              rw [e, List.length_append, HN.out]
              exact ⟨ao', cap', rfl, HROW'.out⟩
            case measure => simp [intOf]
    · have HK := hid (show ps[3]? = some (DX, DY) by rw [HPS.out]; rfl)
      have HM := hid (show (DX, DY) ∈ ps by rw [HPS.out]; simp)
      have co := hid (fun W => HO.out _ HM.out W)
      have cp := hid (fun W => HP.out _ HM.out W)
      have HS : Hid (shS (AX, AY) (BX, BY) (CX, CY) (DX, DY) (DX, DY) = (on2 (AX, AY) (BX, BY) (DX, DY) && on2 (CX, CY) (DX, DY) (DX, DY))) := hid rfl
      have ct := hid (show ∀ W, PtRow W wA.heap.size (.slice ao n cap) sh → Calls Try.prog 55 #[.slice ao n cap, pv DX DY] W fun e w' => e = .returned (.bool (sh.any fun q => eqp q (DX, DY))) ∧ Below W.heap.size W w' from fun W h => contains_any _ _ _ _ W h.pts (by rw [HN.out]; omega))
      have HF : Hid ((sh.any fun q => eqp q (DX, DY)) = sh.any fun q => eqp q (DX, DY)) := hid rfl
      generalize on2 (AX, AY) (BX, BY) (DX, DY) = O1 at *
      generalize on2 (CX, CY) (DX, DY) (DX, DY) = O2 at *
      dsimp only at co cp
      obtain ⟨F, hF⟩ : ∃ F, (sh.any fun q => eqp q (DX, DY)) = F := ⟨_, rfl⟩
      rw [hF] at ct
      replace HF := hid hF
      clear hF
      obtain ⟨wP, hwP⟩ : ∃ wP, wr.alloc (.cells #[.int .i64 DX, .int .i64 DY] 24) = wP := ⟨_, rfl⟩
      obtain ⟨RB, hRB⟩ : ∃ RB, wr.heap.size = RB := ⟨_, rfl⟩
      have HPp := hid (show Pt wP RB DX DY by rw [← hwP, ← hRB]; exact Pt.new wr _ _)
      have HE := hid (show Row4 wP w.heap.size 55 AX AY BX BY CX CY DX DY by rw [← hwP]; exact HEr.out.alloc _)
      have hbP : Below wr.heap.size wr wP := by rw [← hwP]; exact (Below.refl _ _).alloc (Nat.le_refl _) _
      replace HROW := hid (HROW.out.below hbP)
      replace HBR := hid (HBR.out.trans (hbP.mono HBR.out.size))
      clear hbP HEr
      have x00 := HE.out.c0
      have x01 := HE.out.c1
      have x02 := HE.out.c2
      have x03 := HE.out.c3
      have x04 := HE.out.c4
      have x05 := HE.out.c5
      have x06 := HE.out.c6
      have x07 := HE.out.c7
      have y00 := HPp.out.c0
      have y01 := HPp.out.c1
      cases O1 with
      | false =>
        go_wp2_with (first
          | (go_at_call 54; refine (co.out _).mono ?_; rintro e w1 ⟨rfl, hb1⟩; replace HE := hid (HE.out.below hb1 HE.out.lt); replace HPp := hid (HPp.out.below hb1 HPp.out.lt); replace HROW := hid (HROW.out.below hb1); replace HBR := hid (HBR.out.trans (hb1.mono HBR.out.size)); have x10 := HE.out.c0; have x11 := HE.out.c1; have x12 := HE.out.c2; have x13 := HE.out.c3; have x14 := HE.out.c4; have x15 := HE.out.c5; have x16 := HE.out.c6; have x17 := HE.out.c7; have y10 := HPp.out.c0; have y11 := HPp.out.c1; clear hb1 co))
        go_roundw
        case rel =>
          have e : shL (AX, AY) (BX, BY) (CX, CY) (DX, DY) (ps.take (3 + 1)) = sh := by
            rw [shL_succ HK.out, HSH.out]
            unfold shAdd
            simp [HS.out, HF.out]
          refine ⟨3 + 1, by omega, rfl, ?_, HBR.out⟩
          rw [e, HN.out]
          exact ⟨ao, cap, rfl, HROW.out⟩
        case measure => simp [intOf]
      | true =>
        cases O2 with
        | false =>
          go_wp2_with (first
            | (go_at_call 54; refine (co.out _).mono ?_; rintro e w1 ⟨rfl, hb1⟩; replace HE := hid (HE.out.below hb1 HE.out.lt); replace HPp := hid (HPp.out.below hb1 HPp.out.lt); replace HROW := hid (HROW.out.below hb1); replace HBR := hid (HBR.out.trans (hb1.mono HBR.out.size)); have x10 := HE.out.c0; have x11 := HE.out.c1; have x12 := HE.out.c2; have x13 := HE.out.c3; have x14 := HE.out.c4; have x15 := HE.out.c5; have x16 := HE.out.c6; have x17 := HE.out.c7; have y10 := HPp.out.c0; have y11 := HPp.out.c1; clear hb1 co)
            | (go_at_call 54; refine (cp.out _).mono ?_; rintro e w2 ⟨rfl, hb2⟩; replace HE := hid (HE.out.below hb2 HE.out.lt); replace HPp := hid (HPp.out.below hb2 HPp.out.lt); replace HROW := hid (HROW.out.below hb2); replace HBR := hid (HBR.out.trans (hb2.mono HBR.out.size)); have x20 := HE.out.c0; have x21 := HE.out.c1; have x22 := HE.out.c2; have x23 := HE.out.c3; have x24 := HE.out.c4; have x25 := HE.out.c5; have x26 := HE.out.c6; have x27 := HE.out.c7; have y20 := HPp.out.c0; have y21 := HPp.out.c1; clear hb2 cp))
          go_roundw
          case rel =>
            have e : shL (AX, AY) (BX, BY) (CX, CY) (DX, DY) (ps.take (3 + 1)) = sh := by
              rw [shL_succ HK.out, HSH.out]
              unfold shAdd
              simp [HS.out, HF.out]
            refine ⟨3 + 1, by omega, rfl, ?_, HBR.out⟩
            rw [e, HN.out]
            exact ⟨ao, cap, rfl, HROW.out⟩
          case measure => simp [intOf]
        | true =>
          cases F with
          | true =>
            go_wp2_with (first
              | (go_at_call 54; refine (co.out _).mono ?_; rintro e w1 ⟨rfl, hb1⟩; replace HE := hid (HE.out.below hb1 HE.out.lt); replace HPp := hid (HPp.out.below hb1 HPp.out.lt); replace HROW := hid (HROW.out.below hb1); replace HBR := hid (HBR.out.trans (hb1.mono HBR.out.size)); have x10 := HE.out.c0; have x11 := HE.out.c1; have x12 := HE.out.c2; have x13 := HE.out.c3; have x14 := HE.out.c4; have x15 := HE.out.c5; have x16 := HE.out.c6; have x17 := HE.out.c7; have y10 := HPp.out.c0; have y11 := HPp.out.c1; clear hb1 co)
              | (go_at_call 54; refine (cp.out _).mono ?_; rintro e w2 ⟨rfl, hb2⟩; replace HE := hid (HE.out.below hb2 HE.out.lt); replace HPp := hid (HPp.out.below hb2 HPp.out.lt); replace HROW := hid (HROW.out.below hb2); replace HBR := hid (HBR.out.trans (hb2.mono HBR.out.size)); have x20 := HE.out.c0; have x21 := HE.out.c1; have x22 := HE.out.c2; have x23 := HE.out.c3; have x24 := HE.out.c4; have x25 := HE.out.c5; have x26 := HE.out.c6; have x27 := HE.out.c7; have y20 := HPp.out.c0; have y21 := HPp.out.c1; clear hb2 cp)
              | (go_at_call 55; refine (ct.out _ HROW.out).mono ?_; rintro e w3 ⟨rfl, hb3⟩; replace HE := hid (HE.out.below hb3 HE.out.lt); replace HPp := hid (HPp.out.below hb3 HPp.out.lt); replace HROW := hid (HROW.out.below hb3); replace HBR := hid (HBR.out.trans (hb3.mono HBR.out.size)); have x30 := HE.out.c0; have x31 := HE.out.c1; have x32 := HE.out.c2; have x33 := HE.out.c3; have x34 := HE.out.c4; have x35 := HE.out.c5; have x36 := HE.out.c6; have x37 := HE.out.c7; have y30 := HPp.out.c0; have y31 := HPp.out.c1; clear hb3))
            go_roundw
            case rel =>
              have e : shL (AX, AY) (BX, BY) (CX, CY) (DX, DY) (ps.take (3 + 1)) = sh := by
                rw [shL_succ HK.out, HSH.out]
                unfold shAdd
                simp [HS.out, HF.out]
              refine ⟨3 + 1, by omega, rfl, ?_, HBR.out⟩
              rw [e, HN.out]
              exact ⟨ao, cap, rfl, HROW.out⟩
            case measure => simp [intOf]
          | false =>
            go_wp2_with (first
              | (go_at_call 54; refine (co.out _).mono ?_; rintro e w1 ⟨rfl, hb1⟩; replace HE := hid (HE.out.below hb1 HE.out.lt); replace HPp := hid (HPp.out.below hb1 HPp.out.lt); replace HROW := hid (HROW.out.below hb1); replace HBR := hid (HBR.out.trans (hb1.mono HBR.out.size)); have x10 := HE.out.c0; have x11 := HE.out.c1; have x12 := HE.out.c2; have x13 := HE.out.c3; have x14 := HE.out.c4; have x15 := HE.out.c5; have x16 := HE.out.c6; have x17 := HE.out.c7; have y10 := HPp.out.c0; have y11 := HPp.out.c1; clear hb1 co)
              | (go_at_call 54; refine (cp.out _).mono ?_; rintro e w2 ⟨rfl, hb2⟩; replace HE := hid (HE.out.below hb2 HE.out.lt); replace HPp := hid (HPp.out.below hb2 HPp.out.lt); replace HROW := hid (HROW.out.below hb2); replace HBR := hid (HBR.out.trans (hb2.mono HBR.out.size)); have x20 := HE.out.c0; have x21 := HE.out.c1; have x22 := HE.out.c2; have x23 := HE.out.c3; have x24 := HE.out.c4; have x25 := HE.out.c5; have x26 := HE.out.c6; have x27 := HE.out.c7; have y20 := HPp.out.c0; have y21 := HPp.out.c1; clear hb2 cp)
              | (go_at_call 55; refine (ct.out _ HROW.out).mono ?_; rintro e w3 ⟨rfl, hb3⟩; replace HE := hid (HE.out.below hb3 HE.out.lt); replace HPp := hid (HPp.out.below hb3 HPp.out.lt); replace HROW := hid (HROW.out.below hb3); replace HBR := hid (HBR.out.trans (hb3.mono HBR.out.size)); have x30 := HE.out.c0; have x31 := HE.out.c1; have x32 := HE.out.c2; have x33 := HE.out.c3; have x34 := HE.out.c4; have x35 := HE.out.c5; have x36 := HE.out.c6; have x37 := HE.out.c7; have y30 := HPp.out.c0; have y31 := HPp.out.c1; obtain ⟨ao', cap', wS, hrun, hrow', hbs⟩ := HROW.out.snoc HBR.out.size (by rw [HN.out]; omega) (DX, DY); rw [HN.out] at hrun hrow'; have HRUN := hid hrun; have HROW' := hid hrow'; have HBS := hid (show Below wA.heap.size wA wS from HBR.out.trans hbs); clear hrun hrow' hbs; clear hb3)
              | (at_builtin; refine wpList_append_run rfl (.tmp 30) (.tmp 32) 25 rfl rfl rfl HRUN.out ?_))
            go_roundw
            case rel =>
              have e : shL (AX, AY) (BX, BY) (CX, CY) (DX, DY) (ps.take (3 + 1)) = sh ++ [(DX, DY)] := by
                rw [shL_succ HK.out, HSH.out]
                unfold shAdd
                simp [HS.out, HF.out]
              refine ⟨3 + 1, by omega, rfl, ?_, HBS.out⟩
              rw [e, List.length_append, HN.out]
              exact ⟨ao', cap', rfl, HROW'.out⟩
            case measure => simp [intOf]
    · go_wp2
      go_ret
      refine ⟨⟨_, rfl, ?_⟩, HBL.out.trans (HBR.out.mono HBL.out.size)⟩
      have := HSH.out
      rw [List.take_of_length_le (by rw [HPS.out]; simp)] at this
      rw [this]
      exact HROW.out.pts

theorem common_any {a b c d : Pp} (ha : Gp a) (hb : Gp b) (hc : Gp c) (hd : Gp d) (w : World) :
    Calls Try.prog 39 #[ev a b c d] w fun e w' => (∃ v, e = .returned v ∧ Pts w' v (shL a b c d [a, b, c, d])) ∧ Below w.heap.size w w' := by
  have hg : ∀ q ∈ [a, b, c, d], Gp q := by
    intro q hq
    simp only [List.mem_cons, List.not_mem_nil, or_false] at hq
    rcases hq with rfl | rfl | rfl | rfl <;> assumption
  exact common_core w a.1 a.2 b.1 b.2 c.1 c.2 d.1 d.2 [a, b, c, d] (hid rfl) (hid fun q hq W => on_gp ha hb (hg q hq) W) (hid fun q hq W => on_gp hc hd (hg q hq) W)
end Go.Proofs.Ytlnjjkgjknheiaa
