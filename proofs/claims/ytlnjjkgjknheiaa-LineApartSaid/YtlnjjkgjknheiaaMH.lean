/-
  line's ofGrid, with slices.ContainsFunc and slices.IndexFunc of its closure.
-/
import Derived.Test.YtlnjjkgjknheiaaLSplit
import Derived.Test.YtlnjjkgjknheiaaMSimpleB
namespace Go.Proofs.Ytlnjjkgjknheiaa
open Go.RowKit Go.Sort

set_option maxHeartbeats 800000 in
theorem ofGrid1_any (x y : Int) (w : World) :
    Calls Try.prog 43 #[pv x y] w fun e w' => e = .returned (.bool (!okP x y)) ∧ Below w.heap.size w w' := by
  obtain ⟨wA, hwA⟩ : ∃ wA, w.alloc (.cells #[.int .i64 x, .int .i64 y] 24) = wA := ⟨_, rfl⟩
  obtain ⟨hA, hBL, hszA⟩ := box1 hwA
  have HB := hid hBL
  have a0 := hA.c0; have a1 := hA.c1
  have H := hid (fun W => ok_any x y W)
  generalize okP x y = R at *
  clear hA hBL
  go_enter Try.func43, Try.ntmps43
  go_wp2_with (go_at_call 44; refine (H.out _).mono ?_; rintro e w1 ⟨rfl, hb1⟩; replace HB := hid (HB.out.trans (hb1.mono HB.out.size)); clear hb1)
  go_ret
  exact ⟨rfl, HB.out⟩

theorem gridL_not {ps : List Pp} {k : Nat} (hk : k < ps.length) (h : okP (lpt ps k).1 (lpt ps k).2 = false) : gridL ps = false := by
  cases hg : gridL ps with
  | false => rfl
  | true => have := gridL_at hg hk; rw [h] at this; cases this

set_option maxHeartbeats 1600000 in
theorem indexFunc_any (v : Value) (ps : List Pp) (w : World) (hp : Pts w v ps) (hl : ps.length ≤ 100000) :
    Calls Try.prog 58 #[v, .func (.func 43) #[] #[]] w fun e w' => (∃ i : Int, e = .returned (.int .i64 i) ∧ decide (0 ≤ i) = !gridL ps) ∧ Below w.heap.size w w' := by
  have hp' := hp
  obtain ⟨a, cap, rfl, _⟩ := hp'
  obtain ⟨n, hn⟩ : ∃ n, ps.length = n := ⟨_, rfl⟩
  have HN := hid hn
  rw [hn] at hl hp ⊢
  have HP := hid hp
  clear hp hn
  go_enter Try.func58, Try.ntmps58
  go_wp2
  go_loopw [8] (fun iv wr => ∃ k : Nat, k ≤ n ∧ iv = .int .i64 k ∧ (∀ i, i < k → okP (lpt ps i).1 (lpt ps i).2 = true) ∧ Below w.heap.size w wr) (fun iv _ => n - (intOf iv).toNat)
  case atStart => exact ⟨0, by omega, rfl, (fun i hi => absurd hi (Nat.not_lt_zero i)), Below.refl _ _⟩
  case round =>
    obtain ⟨k, hk, rfl, hok, hbr⟩ := hrel
    have HG := hid hok
    have HBR := hid hbr
    clear hok
    by_cases hlt : k < n
    · have hkI : (k : Int) < (n : Int) := by omega
      obtain ⟨b, off, rfl, hc⟩ := (HP.out.below hbr).row (by rw [HN.out]; omega)
      obtain ⟨z0, z1⟩ := hc k (by rw [HN.out]; omega)
      have HC := hid (fun W => ofGrid1_any (lpt ps k).1 (lpt ps k).2 W)
      obtain ⟨O, hO⟩ : ∃ O, okP (lpt ps k).1 (lpt ps k).2 = O := ⟨_, rfl⟩
      have HO := hid (show ∀ i, i = k → okP (lpt ps i).1 (lpt ps i).2 = O from fun i hi => by rw [hi]; exact hO)
      rw [hO] at HC
      generalize (lpt ps k).1 = X0 at *
      generalize (lpt ps k).2 = Y0 at *
      clear hc hbr hO
      cases O with
      | true =>
        go_wp2_with (go_at_call 43; refine (HC.out _).mono ?_; rintro e w1 ⟨rfl, hb1⟩; replace HBR := hid (HBR.out.trans (hb1.mono HBR.out.size)); clear hb1)
        go_roundw
        case rel =>
          refine ⟨k + 1, by omega, by go_num, fun i hi => ?_, HBR.out⟩
          by_cases hik : i = k
          · exact HO.out i hik
          · exact HG.out i (by omega)
        case measure => simp [intOf]; omega
      | false =>
        go_wp2_with (go_at_call 43; refine (HC.out _).mono ?_; rintro e w1 ⟨rfl, hb1⟩; replace HBR := hid (HBR.out.trans (hb1.mono HBR.out.size)); clear hb1)
        go_ret
        refine ⟨⟨_, rfl, ?_⟩, HBR.out⟩
        rw [gridL_not (by rw [HN.out]; exact hlt) (HO.out k rfl)]
        exact decide_eq_true (Int.natCast_nonneg k)
    · have hkI : ¬ (k : Int) < (n : Int) := by omega
      clear hbr
      go_wp2
      go_ret
      refine ⟨⟨_, rfl, ?_⟩, HBR.out⟩
      rw [gridL_true (fun i hi => HG.out i (by rw [HN.out] at hi; omega))]
      rfl

set_option maxHeartbeats 800000 in
theorem ofGrid_any (v : Value) (ps : List Pp) (w : World) (hp : Pts w v ps) (hl : ps.length ≤ 100000) :
    Calls Try.prog 30 #[v] w fun e w' => e = .returned (.bool (gridL ps)) ∧ Below w.heap.size w w' := by
  have HC := hid (show Calls Try.prog 42 #[v, .func (.func 43) #[] #[]] w fun e w' => e = .returned (.bool (!gridL ps)) ∧ Below w.heap.size w w' by
    have HI := hid (indexFunc_any v ps w hp hl)
    generalize gridL ps = G at *
    clear hp
    go_enter Try.func42, Try.ntmps42
    go_wp2_with (go_at_call 58; refine HI.out.mono ?_; rintro e w1 ⟨⟨i, rfl, hi⟩, hb1⟩; have HB1 := hid hb1; have HII := hid hi; clear hb1 hi HI)
    go_ret
    exact ⟨by rw [← HII.out]; rfl, HB1.out⟩)
  generalize gridL ps = G at *
  clear hp
  go_enter Try.func30, Try.ntmps30
  go_wp2_with (go_at_call 42; refine HC.out.mono ?_; rintro e w1 ⟨rfl, hb1⟩; have HB1 := hid hb1; clear hb1 HC)
  go_ret
  exact ⟨by cases G <;> rfl, HB1.out⟩
end Go.Proofs.Ytlnjjkgjknheiaa

namespace Go.Proofs.Ytlnjjkgjknheiaa
open Go.RowKit Go.Sort

theorem gridL_gl {ps : List Pp} (h : gridL ps = true) : Gl ps := fun p hp => by
  unfold gridL at h
  rw [List.all_eq_true] at h
  have q := h p hp
  unfold okP at q
  simp only [Bool.and_eq_true, beq_iff_eq] at q
  unfold clP
  rw [← q.1, ← q.2]

set_option maxHeartbeats 1600000 in
theorem lineOk_any (v : Value) (ps : List Pp) (w : World) (hp : Pts w v ps) (hl : ps.length ≤ 100000) :
    Calls Try.prog 15 #[v] w fun e w' => e = .returned (.bool (okL ps)) ∧ Below w.heap.size w w' := by
  have hp' := hp
  obtain ⟨a, cap, rfl, _⟩ := hp'
  have HG := hid (ofGrid_any _ ps w hp hl)
  have HS := hid (fun hg W (hb : Below w.heap.size w W) => lineSimple_any _ ps W (hp.below hb) hg hl)
  obtain ⟨n, hn⟩ : ∃ n, ps.length = n := ⟨_, rfl⟩
  have HOK : Hid (okL ps = (decide (2 ≤ n) && decide (n ≤ 64) && gridL ps && simpleL ps)) := hid (by unfold okL; rw [hn])
  rw [hn] at hl HG HS ⊢
  clear hp hn
  by_cases h2 : 2 ≤ n
  · have h2I : (2 : Int) ≤ (n : Int) := by omega
    have g2 : decide ((2 : Int) ≤ (n : Int)) = true := decide_eq_true h2I
    have g2' : decide (2 ≤ n) = true := decide_eq_true h2
    by_cases h64 : n ≤ 64
    · have h64I : (n : Int) ≤ 64 := by omega
      have g64 : decide ((n : Int) ≤ 64) = true := decide_eq_true h64I
      have g64' : decide (n ≤ 64) = true := decide_eq_true h64
      have HOK2 : Hid (okL ps = (gridL ps && simpleL ps)) := hid (by rw [HOK.out, g2', g64']; rfl)
      clear HOK g2' g64'
      have HGL := hid (gridL_gl (ps := ps))
      cases hgr : gridL ps with
      | false =>
        rw [hgr] at HG HOK2
        have HR := hid (show okL ps = false by rw [HOK2.out]; rfl)
        clear HOK2 hgr
        go_enter Try.func15, Try.ntmps15
        go_wp2_with (go_at_call 30; refine HG.out.mono ?_; rintro e w1 ⟨rfl, hb1⟩; have HB := hid hb1; clear hb1 HG)
        go_ret
        exact ⟨by rw [HR.out]; rfl, HB.out⟩
      | true =>
        rw [hgr] at HG HOK2
        have HS2 := hid (HS.out (HGL.out hgr))
        have HR := hid (show okL ps = simpleL ps by rw [HOK2.out]; rfl)
        generalize simpleL ps = SM at *
        clear HOK2 hgr HS
        go_enter Try.func15, Try.ntmps15
        go_wp2_with (first
          | (go_at_call 30; refine HG.out.mono ?_; rintro e w1 ⟨rfl, hb1⟩; have HB := hid hb1; clear hb1 HG)
          | (go_at_call 31; refine (HS2.out _ HB.out).mono ?_; rintro e w2 ⟨rfl, hb2⟩; replace HB := hid (HB.out.trans (hb2.mono HB.out.size)); clear hb2 HS2))
        go_ret
        exact ⟨by rw [HR.out]; rfl, HB.out⟩
    · have h64I : ¬ (n : Int) ≤ 64 := by omega
      have g64 : decide ((n : Int) ≤ 64) = false := decide_eq_false h64I
      have HR := hid (show okL ps = false by rw [HOK.out, decide_eq_false h64]; simp)
      go_enter Try.func15, Try.ntmps15
      go_wp2
      go_ret
      exact ⟨by rw [HR.out]; rfl, Below.refl _ _⟩
  · have h2I : ¬ (2 : Int) ≤ (n : Int) := by omega
    have g2 : decide ((2 : Int) ≤ (n : Int)) = false := decide_eq_false h2I
    have HR := hid (show okL ps = false by rw [HOK.out, decide_eq_false h2]; simp)
    go_enter Try.func15, Try.ntmps15
    go_wp2
    go_ret
    exact ⟨by rw [HR.out]; rfl, Below.refl _ _⟩
end Go.Proofs.Ytlnjjkgjknheiaa
