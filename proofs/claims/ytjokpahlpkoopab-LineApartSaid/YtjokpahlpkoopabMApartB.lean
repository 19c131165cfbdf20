/-
  line's Apart.
-/
import Derived.Test.YtjokpahlpkoopabMApart
namespace Go.Proofs.Ytjokpahlpkoopab
open Go.RowKit Go.Sort

set_option maxRecDepth 100000 in
set_option maxHeartbeats 8000000 in
theorem lineApart_any (u v : Value) (ps qs : List Pp) (w : World) (hp : Pts w u ps) (hq : Pts w v qs) (hlp : ps.length ≤ 100000) (hlq : qs.length ≤ 100000) :
    Calls Try.prog 7 #[u, v] w fun e w' => e = .returned (.bool (apartL ps qs)) ∧ Below w.heap.size w w' := by
  have HBM := hid (boxesMeet_any u v ps qs w hp hq hlp hlq)
  obtain ⟨ao, ca, e1, _⟩ := id hp
  obtain ⟨bo, cb, e2, _⟩ := id hq
  subst e1 e2
  have HAT := hid (fun j k W (hb : Below w.heap.size w W) hj hk => apartAt_any _ _ ps qs j k W (hp.below hb) (hq.below hb) hlp hlq hj hk)
  obtain ⟨n, hn⟩ : ∃ n, ps.length = n := ⟨_, rfl⟩
  obtain ⟨m, hm⟩ : ∃ m, qs.length = m := ⟨_, rfl⟩
  rw [hn] at hlp HAT HBM ⊢
  rw [hm] at hlq HAT HBM ⊢
  obtain ⟨N, hNN⟩ : ∃ N, n - 1 = N := ⟨_, rfl⟩
  obtain ⟨M, hMM⟩ : ∃ M, m - 1 = M := ⟨_, rfl⟩
  have HSA := hid (fun W => segments_any ao n ca W hlp)
  have HSB := hid (fun W => segments_any bo m cb W hlq)
  rw [hNN] at HSA HAT
  rw [hMM] at HSB HAT
  have HLN := hid (show ps.length - 1 = N by rw [hn]; exact hNN)
  have HLM := hid (show qs.length - 1 = M by rw [hm]; exact hMM)
  have hNb : N ≤ 100000 := by omega
  have hMb : M ≤ 100000 := by omega
  clear hp hq hn hm hNN hMM
  cases hbm : bmeet ps qs with
  | false =>
    have HR := hid (apart_far hbm)
    rw [hbm] at HBM
    clear hbm
    go_enter Try.func7, Try.ntmps7
    go_wp2
    go_step3
    go_wp2_with (go_at_call 15; refine HBM.out.mono ?_; rintro e w1 ⟨rfl, hb1⟩; have HB := hid hb1; clear hb1 HBM)
    try rw [Exit.noGoto_ret]
    go_ret
    exact ⟨by rw [HR.out]; rfl, HB.out⟩
  | true =>
    rw [hbm] at HBM
    clear hbm
    go_enter Try.func7, Try.ntmps7
    go_wp2
    go_step3
    go_wp2_with (go_at_call 15; refine HBM.out.mono ?_; rintro e w1 ⟨rfl, hb1⟩; have HB := hid hb1; clear hb1 HBM)
    go_step3
    go_wp2_with (go_at_call 16; refine (HSA.out _).mono ?_; rintro e w2 ⟨rfl, hb1⟩; replace HB := hid (HB.out.trans (hb1.mono HB.out.size)); clear hb1 HSA)
    go_loopw [5, 14] (fun sv iv wr => ∃ j : Nat, j ≤ N ∧ iv = .int .i64 j ∧ sv = .bool true ∧ (∀ t, t < j → ∀ k, k < M → meetL ps qs t k = true) ∧ Below w.heap.size w wr) (fun _ iv _ => N - (intOf iv).toNat)
    case atStart => exact ⟨0, by omega, rfl, rfl, (fun i hi => absurd hi (Nat.not_lt_zero i)), HB.out⟩
    case round =>
      clear HB
      obtain ⟨j, hj, rfl, rfl, hpr, hbr⟩ := hrel
      have HPR := hid hpr
      have HB := hid hbr
      clear hpr hbr
      by_cases hjl : j < N
      · have hjI : (j : Int) < (N : Int) := by omega
        go_wp2_with (go_at_call 16; refine (HSB.out _).mono ?_; rintro e w2 ⟨rfl, hb1⟩; replace HB := hid (HB.out.trans (hb1.mono HB.out.size)); clear hb1 HSB)
        go_loopw [5, 19] (fun sv kv wy => ∃ k : Nat, k ≤ M ∧ kv = .int .i64 k ∧ sv = .bool true ∧ (∀ t, t < k → meetL ps qs j t = true) ∧ Below w.heap.size w wy) (fun _ kv _ => M - (intOf kv).toNat)
        case atStart => exact ⟨0, by omega, rfl, rfl, (fun i hi => absurd hi (Nat.not_lt_zero i)), HB.out⟩
        case round =>
          clear HB
          obtain ⟨k, hk, rfl, rfl, hpk, hby⟩ := hrel
          have HPK := hid hpk
          have HB := hid hby
          clear hpk
          by_cases hkl : k < M
          · have hkI : (k : Int) < (M : Int) := by omega
            have HA := hid (HAT.out j k wr hby hjl hkl)
            obtain ⟨R, hR⟩ : ∃ R, meetL ps qs j k = R := ⟨_, rfl⟩
            rw [hR] at HA
            have HR := hid hR
            clear hby hR
            cases R with
            | true =>
              go_wp2_with (go_at_call 17; refine HA.out.mono ?_; rintro e w3 ⟨rfl, hb1⟩; replace HB := hid (HB.out.trans (hb1.mono HB.out.size)); clear hb1 HA)
              go_roundw
              case rel =>
                refine ⟨k + 1, by omega, by go_num, rfl, fun t h1 => ?_, HB.out⟩
                by_cases htk : t = k
                · rw [htk, HR.out]
                · exact HPK.out t (by omega)
              case measure => simp [intOf]; omega
            | false =>
              go_wp2_with (go_at_call 17; refine HA.out.mono ?_; rintro e w3 ⟨rfl, hb1⟩; replace HB := hid (HB.out.trans (hb1.mono HB.out.size)); clear hb1 HA)
              try rw [Exit.noGoto_ret]
              go_ret
              refine ⟨?_, HB.out⟩
              rw [apartL_no (i := j) (k := k) (by rw [HLN.out]; exact hjl) (by rw [HLM.out]; exact hkl) HR.out]
              rfl
          · have hkI : ¬ (k : Int) < (M : Int) := by omega
            clear hby
            go_wp2
            go_roundw
            case rel =>
              refine ⟨j + 1, by omega, by go_num, rfl, fun t h1 k' h3 => ?_, HB.out⟩
              by_cases htj : t = j
              · subst htj; exact HPK.out k' (by omega)
              · exact HPR.out t (by omega) k' h3
            case measure => simp [intOf]; omega
      · have hjI : ¬ (j : Int) < (N : Int) := by omega
        have HS := hid (apartL_true (a := ps) (b := qs) (fun t h1 k h2 => HPR.out t (by rw [HLN.out] at h1; omega) k (by rw [HLM.out] at h2; exact h2)))
        go_wp2
        try rw [Exit.noGoto_ret]
        go_ret
        exact ⟨by rw [HS.out]; rfl, HB.out⟩
end Go.Proofs.Ytjokpahlpkoopab
