/-
  line's relationIfSimple, Simple.
-/
import Derived.Test.YtlnjjkgjknheiaaMG
import Derived.Test.YtlnjjkgjknheiaaESeg
import Derived.WalkMore
namespace Go.Proofs.Ytlnjjkgjknheiaa
open Go.RowKit Go.Sort

theorem wantL_next {ps : List Pp} {i j : Nat} (h : j = i + 1) : wantL ps i j = 1 := by
  unfold wantL
  rw [if_pos (.inl h)]
theorem wantL_none {ps : List Pp} {i j : Nat} (h : j ≠ i + 1) (h2 : ¬ (i = 0 ∧ j + 1 = ps.length - 1 ∧ closedL ps = true)) : wantL ps i j = 0 := by
  unfold wantL
  rw [if_neg]
  rintro (g | ⟨g1, g2, _, g4⟩)
  · exact h g
  · exact h2 ⟨g1, g2, g4⟩
theorem wantL_close {ps : List Pp} {i j : Nat} (hij : i < j) (h : i = 0) (h2 : j + 1 = ps.length - 1) (hc : closedL ps = true) : wantL ps i j = 1 := by
  by_cases hj : j = i + 1
  · exact wantL_next hj
  · unfold wantL
    rw [if_pos (.inr ⟨h, h2, by omega, hc⟩)]

set_option maxHeartbeats 1600000 in
theorem relIfSimple_any (v : Value) (ps : List Pp) (i j : Nat) (w : World) (hp : Pts w v ps) (hg : Gl ps) (hl : ps.length ≤ 100000) (hij : i < j) (hj : j < ps.length - 1) :
    Calls Try.prog 45 #[v, .int .i64 i, .int .i64 j] w fun e w' => e = .returned (.int .i64 (wantL ps i j)) ∧ Below w.heap.size w w' := by
  have hp' := hp
  obtain ⟨a, cap, rfl, _⟩ := hp'
  have HC := hid (lineClosed_any _ ps w hp hg hl)
  obtain ⟨n, hn⟩ : ∃ n, ps.length = n := ⟨_, rfl⟩
  have HN := hid hn
  rw [hn] at hl hj HC ⊢
  obtain ⟨N, hNN⟩ : ∃ N, n - 1 = N := ⟨_, rfl⟩
  have HS := hid (fun W => segments_any a n cap W hl)
  rw [hNN] at HS hj
  have HNN := hid (show ps.length - 1 = N by rw [hn]; exact hNN)
  have hNb : N ≤ 100000 := by omega
  clear hp hg hn hNN
  obtain ⟨CL, hCL⟩ : ∃ CL, closedL ps = CL := ⟨_, rfl⟩
  rw [hCL] at HC
  have HCL := hid hCL
  clear hCL
  have HW1 := hid (wantL_next (ps := ps) (i := i) (j := j))
  have HW2 := hid (wantL_none (ps := ps) (i := i) (j := j))
  have HW3 := hid (wantL_close (ps := ps) (i := i) (j := j) hij)
  rw [HNN.out, HCL.out] at HW2 HW3
  generalize wantL ps i j = R at *
  by_cases w1 : j = i + 1
  · have g1 : ((j : Int) == (i : Int) + 1) = true := by simp [w1]
    have HR := hid (HW1.out w1)
    cases CL with
    | false =>
      go_enter Try.func45, Try.ntmps45
      go_wp2_with (go_at_call 16; refine HC.out.mono ?_; rintro e w1 ⟨rfl, hb1⟩; have HB := hid hb1; clear hb1)
      go_ret
      exact ⟨by rw [HR.out]; rfl, HB.out⟩
    | true =>
      by_cases w2 : i = 0
      · have g2 : ((i : Int) == 0) = true := by simp [w2]
        go_enter Try.func45, Try.ntmps45
        go_wp2_with (first
          | (go_at_call 16; refine HC.out.mono ?_; rintro e w1 ⟨rfl, hb1⟩; have HB := hid hb1; clear hb1 HC)
          | (go_at_call 24; refine (HS.out _).mono ?_; rintro e w2 ⟨rfl, hb1⟩; replace HB := hid (HB.out.trans (hb1.mono HB.out.size)); clear hb1 HS))
        go_ret
        exact ⟨by rw [HR.out]; rfl, HB.out⟩
      · have g2 : ((i : Int) == 0) = false := by simpa using fun h => w2 (by omega)
        go_enter Try.func45, Try.ntmps45
        go_wp2_with (go_at_call 16; refine HC.out.mono ?_; rintro e w1 ⟨rfl, hb1⟩; have HB := hid hb1; clear hb1)
        go_ret
        exact ⟨by rw [HR.out]; rfl, HB.out⟩
  · have g1 : ((j : Int) == (i : Int) + 1) = false := by simpa using fun h => w1 (by omega)
    cases CL with
    | false =>
      have HR := hid (HW2.out w1 (by simp))
      go_enter Try.func45, Try.ntmps45
      go_wp2_with (go_at_call 16; refine HC.out.mono ?_; rintro e w1 ⟨rfl, hb1⟩; have HB := hid hb1; clear hb1)
      go_ret
      exact ⟨by rw [HR.out]; rfl, HB.out⟩
    | true =>
      by_cases w2 : i = 0
      · have g2 : ((i : Int) == 0) = true := by simp [w2]
        by_cases w3 : j + 1 = N
        · have g3 : ((j : Int) == (N : Int) - 1) = true := by simp; omega
          have HR := hid (HW3.out w2 w3 rfl)
          go_enter Try.func45, Try.ntmps45
          go_wp2_with (first
            | (go_at_call 16; refine HC.out.mono ?_; rintro e w1 ⟨rfl, hb1⟩; have HB := hid hb1; clear hb1 HC)
            | (go_at_call 24; refine (HS.out _).mono ?_; rintro e w2 ⟨rfl, hb1⟩; replace HB := hid (HB.out.trans (hb1.mono HB.out.size)); clear hb1 HS))
          go_ret
          exact ⟨by rw [HR.out]; rfl, HB.out⟩
        · have g3 : ((j : Int) == (N : Int) - 1) = false := by simpa using fun h => w3 (by omega)
          have HR := hid (HW2.out w1 (fun h => w3 h.2.1))
          go_enter Try.func45, Try.ntmps45
          go_wp2_with (first
            | (go_at_call 16; refine HC.out.mono ?_; rintro e w1 ⟨rfl, hb1⟩; have HB := hid hb1; clear hb1 HC)
            | (go_at_call 24; refine (HS.out _).mono ?_; rintro e w2 ⟨rfl, hb1⟩; replace HB := hid (HB.out.trans (hb1.mono HB.out.size)); clear hb1 HS))
          go_ret
          exact ⟨by rw [HR.out]; rfl, HB.out⟩
      · have g2 : ((i : Int) == 0) = false := by simpa using fun h => w2 (by omega)
        have HR := hid (HW2.out w1 (fun h => w2 h.1))
        go_enter Try.func45, Try.ntmps45
        go_wp2_with (go_at_call 16; refine HC.out.mono ?_; rintro e w1 ⟨rfl, hb1⟩; have HB := hid hb1; clear hb1)
        go_ret
        exact ⟨by rw [HR.out]; rfl, HB.out⟩
end Go.Proofs.Ytlnjjkgjknheiaa
