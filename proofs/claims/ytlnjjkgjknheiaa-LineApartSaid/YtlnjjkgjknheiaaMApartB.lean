/-
  line's Apart.
-/
import Derived.Test.YtlnjjkgjknheiaaMApart
import Derived.Test.YtlnjjkgjknheiaaMBoxesW
namespace Go.Proofs.Ytlnjjkgjknheiaa
open Go.RowKit Go.Sort

set_option maxRecDepth 100000 in
set_option maxHeartbeats 8000000 in
theorem lineApart_any (u v : Value) (ps qs : List Pp) (w : World) (hp : Src w u ps) (hq : Src w v qs) (h1 : 1 ≤ ps.length) (h2 : 1 ≤ qs.length) (hlp : ps.length ≤ 100000) (hlq : qs.length ≤ 100000) :
    Calls Try.prog 5 #[u, v] w fun e w' => e = .returned (.bool (apartL ps qs)) ∧ Below w.heap.size w w' := by
  have HBA := hid (boxOf_any u ps w hp.pts hlp)
  have HBB := hid (fun W (hW : Below w.heap.size w W) => boxOf_any v qs W (hq.below hW).pts hlq)
  have HMT := hid (fun (ps qs : List Pp) (W : World) => meets_any (boxL ps).1 (boxL ps).2.1 (boxL ps).2.2.1 (boxL ps).2.2.2 (boxL qs).1 (boxL qs).2.1 (boxL qs).2.2.1 (boxL qs).2.2.2 W)
  have HM0 := hid (HMT.out ps qs)
  have HRA := hid (fun W (hW : Below w.heap.size w W) => boxes_any u ps W (hp.below hW) h1 hlp)
  have HRB := hid (fun W (hW : Below w.heap.size w W) => boxes_any v qs W (hq.below hW) h2 hlq)
  have HAT := hid (fun j k W (hb : Below w.heap.size w W) hj hk => apartAt_any u v ps qs j k W (hp.below hb).pts (hq.below hb).pts hlp hlq hj hk)
  obtain ⟨N, hNN⟩ : ∃ N, ps.length - 1 = N := ⟨_, rfl⟩
  obtain ⟨M, hMM⟩ : ∃ M, qs.length - 1 = M := ⟨_, rfl⟩
  have hNb : N ≤ 100000 := by omega
  have hMb : M ≤ 100000 := by omega
  rw [hNN] at HRA HAT
  rw [hMM] at HRB HAT
  have HLN := hid hNN
  have HLM := hid hMM
  have HBM := hid (show bmeet ps qs = (ovl (near (boxL ps).1) (near (boxL ps).2.2.1) (near (boxL qs).1) (near (boxL qs).2.2.1) && ovl (near (boxL ps).2.1) (near (boxL ps).2.2.2) (near (boxL qs).2.1) (near (boxL qs).2.2.2)) from rfl)
  rw [← HBM.out] at HM0
  generalize boxL ps = B at HBA HM0
  generalize boxL qs = C at HBB HM0
  obtain ⟨b0, b1, b2, b3⟩ := B
  obtain ⟨c0, c1, c2, c3⟩ := C
  dsimp only at HBA HBB HM0
  clear hp hq hNN hMM h1 h2 hlp hlq HBM
  cases hbm : bmeet ps qs with
  | false =>
    have HR := hid (apart_far hbm)
    rw [hbm] at HM0
    clear hbm HMT HRA HRB HAT
    go_enter Try.func5, Try.ntmps5
    go_wp2
    go_step3
    go_wp2_with (first
      | (go_at_call 10; refine HBA.out.mono ?_; rintro e w1 ⟨rfl, hb1⟩; have HB := hid hb1; clear hb1 HBA)
      | (go_at_call 10; refine (HBB.out _ HB.out).mono ?_; rintro e w1 ⟨rfl, hb1⟩; replace HB := hid (HB.out.trans (hb1.mono HB.out.size)); clear hb1 HBB)
      | (go_at_call 11; refine (HM0.out _).mono ?_; rintro e w1 ⟨rfl, hb1⟩; replace HB := hid (HB.out.trans (hb1.mono HB.out.size)); clear hb1 HM0))
    try rw [Exit.noGoto_ret]
    go_ret
    exact ⟨by rw [HR.out]; rfl, HB.out⟩
  | true =>
    rw [hbm] at HM0
    clear hbm
    go_enter Try.func5, Try.ntmps5
    go_wp2
    go_step3
    go_wp2_with (first
      | (go_at_call 10; refine HBA.out.mono ?_; rintro e w1 ⟨rfl, hb1⟩; have HB := hid hb1; clear hb1 HBA)
      | (go_at_call 10; refine (HBB.out _ HB.out).mono ?_; rintro e w1 ⟨rfl, hb1⟩; replace HB := hid (HB.out.trans (hb1.mono HB.out.size)); clear hb1 HBB)
      | (go_at_call 11; refine (HM0.out _).mono ?_; rintro e w1 ⟨rfl, hb1⟩; replace HB := hid (HB.out.trans (hb1.mono HB.out.size)); clear hb1 HM0)
      | (go_at_call 12; refine (HRB.out _ HB.out).mono ?_; rintro e w2 ⟨g, rfl, hg, hR, hb1⟩; have HG := hid (And.intro hR (And.intro (Nat.le_trans HB.out.size hg) hb1)); replace HB := hid (HB.out.trans (hb1.mono HB.out.size)); clear hb1 hg hR HRB))
    go_step3
    go_wp2_with (first
      | (go_at_call 12; refine (HRA.out _ HB.out).mono ?_; rintro e w3 ⟨g', rfl, hg, hR, hb1⟩; have HG' := hid (And.intro hR (And.intro (Nat.le_trans HB.out.size hg) (HG.out.1.below hb1 HG.out.1.lt))); replace HB := hid (HB.out.trans (hb1.mono HB.out.size)); clear hb1 hg hR HRA HG))
    go_loopw [5, 22] (fun sv iv wr => ∃ j : Nat, j ≤ N ∧ iv = .int .i64 j ∧ sv = .bool true ∧ (∀ t, t < j → ∀ k, k < M → meetL ps qs t k = true) ∧ Below w3.heap.size w3 wr) (fun _ iv _ => N - (intOf iv).toNat)
    case atStart => exact ⟨0, by omega, rfl, rfl, (fun i hi => absurd hi (Nat.not_lt_zero i)), Below.refl _ _⟩
    case round =>
      obtain ⟨j, hj, rfl, rfl, hpr, hbr⟩ := hrel
      have HPR := hid hpr
      have HBR := hid hbr
      clear hpr hbr
      by_cases hjl : j < N
      · have hjI : (j : Int) < (N : Int) := by omega
        obtain ⟨x0, x1, x2, x3, e0, e1, e2, e3, eB⟩ := (HG'.out.1.below HBR.out HG'.out.1.lt).cells hjl
        have HEB := hid (eB hjl)
        clear eB
        obtain ⟨Wb, hWb⟩ : ∃ Wb, wr.alloc (bxO x0 x1 x2 x3) = Wb := ⟨_, rfl⟩
        have hbW : Below wr.heap.size wr Wb := by rw [← hWb]; exact (Below.refl _ wr).alloc (Nat.le_refl _) _
        have hhW : Wb.heap[wr.heap.size]? = some (bxO x0 x1 x2 x3) := by rw [← hWb]; exact heap_newB wr _
        have HW := hid (And.intro hhW (HBR.out.trans (hbW.mono HBR.out.size)))
        clear hbW hhW
        go_wp2
        clear e0 e1 e2 e3
        go_loopw [5, 29] (fun sv kv wy => ∃ k : Nat, k ≤ M ∧ kv = .int .i64 k ∧ sv = .bool true ∧ (∀ t, t < k → meetL ps qs j t = true) ∧ Below Wb.heap.size Wb wy) (fun _ kv _ => M - (intOf kv).toNat)
        case atStart => exact ⟨0, by omega, rfl, rfl, (fun i hi => absurd hi (Nat.not_lt_zero i)), Below.refl _ _⟩
        case round =>
          obtain ⟨k, hk, rfl, rfl, hpk, hby⟩ := hrel
          have HPK := hid hpk
          have HBY := hid (show Below w3.heap.size w3 wr from HW.out.2.trans (hby.mono HW.out.2.size))
          by_cases hkl : k < M
          · have hkI : (k : Int) < (M : Int) := by omega
            obtain ⟨y0, y1, y2, y3, z0, z1, z2, z3, zB⟩ := (HG'.out.2.2.below HBY.out HG'.out.2.2.lt).cells hkl
            have HZB := hid (zB hkl)
            clear zB
            obtain ⟨Wc, hWc⟩ : ∃ Wc, wr.alloc (bxO y0 y1 y2 y3) = Wc := ⟨_, rfl⟩
            have hbC : Below wr.heap.size wr Wc := by rw [← hWc]; exact (Below.refl _ wr).alloc (Nat.le_refl _) _
            have hhC : Wc.heap[wr.heap.size]? = some (bxO y0 y1 y2 y3) := by rw [← hWc]; exact heap_newB wr _
            have hho := ((hby.trans (hbC.mono hby.size)).block _ (lt_of_heap HW.out.1)).trans HW.out.1
            obtain ⟨o0, o1, o2, o3⟩ := bx_cells hho
            obtain ⟨i0, i1, i2, i3⟩ := bx_cells hhC
            have HBC := hid (And.intro (HBY.out.trans (hbC.mono HBY.out.size)) (hby.trans (hbC.mono hby.size)))
            have HB3 := hid (HB.out.trans (HBC.out.1.mono HB.out.size))
            have cm := HMT.out [lpt ps j, lpt ps (j + 1)] [lpt qs k, lpt qs (k + 1)] Wc
            have HMR := hid (show bmeet [lpt ps j, lpt ps (j + 1)] [lpt qs k, lpt qs (k + 1)] = (ovl (near x0) (near x2) (near y0) (near y2) && ovl (near x1) (near x3) (near y1) (near y3)) by unfold bmeet; rw [← HEB.out, ← HZB.out])
            rw [← HEB.out, ← HZB.out] at cm
            dsimp only at cm
            rw [← HMR.out] at cm
            cases hm : bmeet [lpt ps j, lpt ps (j + 1)] [lpt qs k, lpt qs (k + 1)] with
            | false =>
              have HMF := hid (meet_far hm)
              rw [hm] at cm
              have HCM := hid cm
              clear hbC hhC hho hpk hby HMR hm cm HMT HAT
              go_wp2_with (go_at_call 11; refine HCM.out.mono ?_; rintro e W ⟨rfl, hb1⟩; have HBW := hid (HBC.out.2.trans (hb1.mono HBC.out.2.size)); clear hb1 HCM o0 o1 o2 o3 i0 i1 i2 i3 z0 z1 z2 z3)
              go_roundw
              case rel =>
                refine ⟨k + 1, by omega, by go_num, rfl, fun t h1 => ?_, HBW.out⟩
                by_cases htk : t = k
                · rw [htk, HMF.out]
                · exact HPK.out t (by omega)
              case measure => simp [intOf]; omega
            | true =>
              rw [hm] at cm
              have HCM := hid cm
              have HCA := hid (fun W (hW : Below Wc.heap.size Wc W) => HAT.out j k W (HB3.out.trans (hW.mono HB3.out.size)) hjl hkl)
              obtain ⟨R, hR⟩ : ∃ R, meetL ps qs j k = R := ⟨_, rfl⟩
              rw [hR] at HCA
              have HR := hid hR
              clear hbC hhC hho hpk hby HMR hm cm hR HMT HAT
              cases R with
              | true =>
                go_wp2_with (first
                  | (go_at_call 11; refine HCM.out.mono ?_; rintro e W1 ⟨rfl, hb1⟩; have HC1 := hid hb1; clear hb1 HCM o0 o1 o2 o3 i0 i1 i2 i3 z0 z1 z2 z3)
                  | (go_at_call 13; refine (HCA.out _ HC1.out).mono ?_; rintro e W ⟨rfl, hb1⟩; have HBW := hid (HBC.out.2.trans ((HC1.out.trans (hb1.mono HC1.out.size)).mono HBC.out.2.size)); clear hb1 HCA))
                go_roundw
                case rel =>
                  refine ⟨k + 1, by omega, by go_num, rfl, fun t h1 => ?_, HBW.out⟩
                  by_cases htk : t = k
                  · rw [htk, HR.out]
                  · exact HPK.out t (by omega)
                case measure => simp [intOf]; omega
              | false =>
                go_wp2_with (first
                  | (go_at_call 11; refine HCM.out.mono ?_; rintro e W1 ⟨rfl, hb1⟩; have HC1 := hid hb1; clear hb1 HCM o0 o1 o2 o3 i0 i1 i2 i3 z0 z1 z2 z3)
                  | (go_at_call 13; refine (HCA.out _ HC1.out).mono ?_; rintro e W ⟨rfl, hb1⟩; have HBW := hid (HB3.out.trans ((HC1.out.trans (hb1.mono HC1.out.size)).mono HB3.out.size)); clear hb1 HCA))
                try rw [Exit.noGoto_ret]
                go_ret
                refine ⟨?_, HBW.out⟩
                rw [apartL_no (i := j) (k := k) (by rw [HLN.out]; exact hjl) (by rw [HLM.out]; exact hkl) HR.out]
                rfl
          · have hkI : ¬ (k : Int) < (M : Int) := by omega
            clear hpk hby
            go_wp2
            go_roundw
            case rel =>
              refine ⟨j + 1, by omega, by go_num, rfl, fun t h1 k' h3 => ?_, HBY.out⟩
              by_cases htj : t = j
              · subst htj; exact HPK.out k' (by omega)
              · exact HPR.out t (by omega) k' h3
            case measure => simp [intOf]; omega
      · have hjI : ¬ (j : Int) < (N : Int) := by omega
        have HS := hid (apartL_true (a := ps) (b := qs) (fun t h1 k h2 => HPR.out t (by rw [HLN.out] at h1; omega) k (by rw [HLM.out] at h2; exact h2)))
        have HF := hid (HB.out.trans (HBR.out.mono HB.out.size))
        go_wp2
        try rw [Exit.noGoto_ret]
        go_ret
        exact ⟨by rw [HS.out]; rfl, HF.out⟩
end Go.Proofs.Ytlnjjkgjknheiaa
