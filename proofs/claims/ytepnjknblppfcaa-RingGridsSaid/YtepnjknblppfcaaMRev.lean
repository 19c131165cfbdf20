/-
  slices.Clone and slices.Reverse of points; line's Reverse.
-/
import Derived.Test.YtepnjknblppfcaaLSplit
import Derived.BigRegion
import Derived.Lib.SliceRun
namespace Go.Proofs.Ytepnjknblppfcaa
open Go.RowKit Go.Sort


theorem ptCells_set : ∀ (ps : List Pp) (j : Nat) (p : Pp), ptCells (ps.set j p) = ((ptCells ps).set (j * 2) (.int .i64 p.1)).set (j * 2 + 1) (.int .i64 p.2)
  | [], j, p => by simp [ptCells]
  | q :: ps, 0, p => by simp [ptCells]
  | q :: ps, j + 1, p => by
    have h := ptCells_set ps j p
    have e : ∀ (r : Pp) (rs : List Pp), ptCells (r :: rs) = .int .i64 r.1 :: .int .i64 r.2 :: ptCells rs := fun _ _ => rfl
    rw [List.set_cons_succ, e, e, h, show (j + 1) * 2 = j * 2 + 1 + 1 by omega, List.set_cons_succ, List.set_cons_succ, List.set_cons_succ, List.set_cons_succ]
theorem PtRow.put {w : World} {base g n cap : Nat} {ps : List Pp} (h : PtRow w base (.slice (some ⟨g, 0, none⟩) n cap) ps) (hn : ps.length = n) (j : Nat) (p : Pp) :
    PtRow ((w.setCell ⟨g, j * 2, none⟩ (.int .i64 p.1)).setCell ⟨g, j * 2 + 1, none⟩ (.int .i64 p.2)) base (.slice (some ⟨g, 0, none⟩) n cap) (ps.set j p) := by
  subst hn
  have h' : w.ownsRow base 24 2 (.slice (some ⟨g, 0, none⟩) ps.length cap) ps.length (ptCells ps) := h
  have h2 := (h'.stored (j * 2) (.int .i64 p.1)).1
  have h3 := (h2.stored (j * 2 + 1) (.int .i64 p.2)).1
  unfold PtRow
  rw [List.length_set, ptCells_set]
  exact h3
theorem PtRow.frz {w : World} {base g n cap : Nat} {ps : List Pp} (h : PtRow w base (.slice (some ⟨g, 0, none⟩) n cap) ps) (hn : ps.length = n) (j : Nat) : w.frozen? ⟨g, j, none⟩ = false := by
  subst hn
  have h' : w.ownsRow base 24 2 (.slice (some ⟨g, 0, none⟩) ps.length cap) ps.length (ptCells ps) := h
  exact h'.frozenAt j
/-- The first k and the last k of a list exchanged. -/
def revK (ps : List Pp) (k : Nat) : List Pp := (List.range ps.length).map fun t => if t < k ∨ ps.length ≤ t + k then lpt ps (ps.length - 1 - t) else lpt ps t
theorem revK_len (ps : List Pp) (k : Nat) : (revK ps k).length = ps.length := by unfold revK; simp
theorem revK_at {ps : List Pp} {k t : Nat} (h : t < ps.length) : (revK ps k)[t]? = some (if t < k ∨ ps.length ≤ t + k then lpt ps (ps.length - 1 - t) else lpt ps t) := by
  unfold revK
  rw [List.getElem?_map, List.getElem?_range h]
  rfl
theorem revK_zero (ps : List Pp) : revK ps 0 = ps := by
  refine List.ext_getElem? fun t => ?_
  by_cases ht : t < ps.length
  · rw [revK_at ht, if_neg (by omega), at_lpt ht]
  · rw [List.getElem?_eq_none (by rw [revK_len]; omega), List.getElem?_eq_none (by omega)]
theorem revK_end {ps : List Pp} {k : Nat} (h : ps.length ≤ 2 * k + 1) : revK ps k = ps.reverse := by
  refine List.ext_getElem? fun t => ?_
  by_cases ht : t < ps.length
  · rw [revK_at ht, List.getElem?_reverse ht, at_lpt (by omega)]
    split
    · rfl
    · rw [show ps.length - 1 - t = t by omega]
  · rw [List.getElem?_eq_none (by rw [revK_len]; omega), List.getElem?_eq_none (by rw [List.length_reverse]; omega)]
theorem revK_succ {ps : List Pp} {k : Nat} (h : 2 * k + 1 < ps.length) : ((revK ps k).set k (lpt ps (ps.length - 1 - k))).set (ps.length - 1 - k) (lpt ps k) = revK ps (k + 1) := by
  refine List.ext_getElem? fun t => ?_
  by_cases ht : t < ps.length
  · rw [revK_at ht]
    by_cases h1 : t = ps.length - 1 - k
    · subst h1
      rw [List.getElem?_set_self (by rw [List.length_set, revK_len]; omega), if_pos (by omega), show ps.length - 1 - (ps.length - 1 - k) = k by omega]
    · rw [List.getElem?_set_ne (by omega)]
      by_cases h2 : t = k
      · subst h2
        rw [List.getElem?_set_self (by rw [revK_len]; omega), if_pos (by omega)]
      · rw [List.getElem?_set_ne (by omega), revK_at ht]
        by_cases h3 : t < k ∨ ps.length ≤ t + k
        · rw [if_pos h3, if_pos (by omega)]
        · rw [if_neg h3, if_neg (by omega)]
  · rw [List.getElem?_eq_none (by rw [List.length_set, List.length_set, revK_len]; omega), List.getElem?_eq_none (by rw [revK_len]; omega)]

set_option maxHeartbeats 1600000 in
theorem clone_any (v : Value) (ps : List Pp) (w : World) (hs : Src w v ps) (hl : ps.length ≤ 100000) :
    Calls Try.prog 36 #[v] w fun e w' => (∃ u, e = .returned u ∧ PtRow w' w.heap.size u ps) ∧ Below w.heap.size w w' := by
  have HS := hid hs
  have hnil : ∀ (wx : World) (a : Option Addr) (n c : Nat), (binOp .eql 22 (.slice a n c) (.slice none 0 0)).run Try.prog wx = .ok (.bool a.isNone) wx := fun wx a n c => Lib.run_eql_slice_nil wx _ _ a n c 0 0 Try.underlying22
  rcases hs with ⟨rfl, rfl⟩ | ⟨b, off, cap, rfl, hcap, -⟩
  · go_enter Try.func36, Try.ntmps36
    go_wp2
    go_ret
    exact ⟨⟨_, rfl, PtRow.nil _ _⟩, Below.refl _ _⟩
  · obtain ⟨wA, hwA⟩ : ∃ wA, w.alloc (.cells #[] 24) = wA := ⟨_, rfl⟩
    have hbA : Below w.heap.size w wA := by rw [← hwA]; exact (Below.refl _ _).alloc (Nat.le_refl _) _
    obtain ⟨v1, w1, hrun1, hrow1, hb1, _⟩ := (show PtRow wA w.heap.size (.slice (some ⟨w.heap.size, 0, none⟩) 0 0) [] by rw [← hwA]; exact PtRow.lit0 w).add (HS.out.below hbA) hbA.size (by simp; omega)
    rw [List.nil_append] at hrow1
    have HRUN1 := hid hrun1
    have HROW1 := hid hrow1
    have HBW1 := hid (hbA.trans hb1)
    clear hrun1 hrow1 hb1 hbA
    go_enter Try.func36, Try.ntmps36
    go_wp2_with (at_builtin; refine wpList_append_run rfl (.tmp 5) (.tmp 6) 22 rfl rfl rfl HRUN1.out ?_)
    go_ret
    exact ⟨⟨_, rfl, HROW1.out⟩, HBW1.out⟩

set_option maxHeartbeats 1600000 in
theorem reverse_any (v : Value) (ps : List Pp) (base : Nat) (w : World) (hr : PtRow w base v ps) (hl : ps.length ≤ 100000) :
    Calls Try.prog 37 #[v] w fun e w' => e = .returned (.tuple #[]) ∧ PtRow w' base v ps.reverse ∧ Below base w w' := by
  obtain ⟨ao, cap, rfl⟩ := hr.form
  obtain ⟨n, hn⟩ : ∃ n, ps.length = n := ⟨_, rfl⟩
  have HN := hid hn
  rw [hn] at hl hr ⊢
  have HR := hid hr
  clear hr hn
  go_enter Try.func37, Try.ntmps37
  go_wp2
  go_loopw [2, 3] (fun iv jv wr => ∃ k : Nat, 2 * k ≤ n + 1 ∧ iv = .int .i64 k ∧ jv = .int .i64 ((n : Int) - 1 - (k : Int)) ∧ PtRow wr base (.slice ao n cap) (revK ps k) ∧ Below base w wr) (fun iv _ _ => n - (intOf iv).toNat)
  case atStart => exact ⟨0, by omega, rfl, by go_num, by rw [revK_zero]; exact HR.out, Below.refl _ _⟩
  case round =>
    obtain ⟨k, hk, rfl, rfl, hrow, hb⟩ := hrel
    have HB := hid hb
    have HROW := hid hrow
    clear hb HR
    by_cases hlt : 2 * k + 1 < n
    · obtain ⟨j, hj⟩ : ∃ j : Nat, n - 1 - k = j := ⟨_, rfl⟩
      have hjI : (n : Int) - 1 - (k : Int) = (j : Int) := by omega
      rw [hjI]
      have hkjI : (k : Int) < (j : Int) := by omega
      have hkn : (k : Int) < (n : Int) := by omega
      have hjn : (j : Int) < (n : Int) := by omega
      have hnext : (j : Int) - 1 = (n : Int) - 1 - ((k : Int) + 1) := by omega
      have hkj : k ≠ j := by omega
      obtain ⟨g, rfl, c0, c1⟩ := hrow.at (k := k) (p := lpt ps k) (by rw [revK_at (by rw [HN.out]; omega), if_neg (by rw [HN.out]; omega)])
      obtain ⟨g', e, d0, d1⟩ := hrow.at (k := j) (p := lpt ps j) (by rw [revK_at (by rw [HN.out]; omega), if_neg (by rw [HN.out]; omega)])
      cases e
      have f0 := hrow.frz (by rw [revK_len, HN.out]) (k * 2)
      have f1 := hrow.frz (by rw [revK_len, HN.out]) (k * 2 + 1)
      have e0 := hrow.frz (by rw [revK_len, HN.out]) (j * 2)
      have e1 := hrow.frz (by rw [revK_len, HN.out]) (j * 2 + 1)
      have HS := hid (show ((revK ps k).set k (lpt ps j)).set j (lpt ps k) = revK ps (k + 1) by
        have q := revK_succ (ps := ps) (k := k) (by rw [HN.out]; exact hlt)
        rw [HN.out, hj] at q
        exact q)
      have HLN := hid (show (revK ps k).length = n by rw [revK_len, HN.out])
      have HOWN := hid (show base ≤ g from (hrow.lt rfl).2)
      clear hrow hj hjI
      generalize lpt ps k = P at *
      generalize lpt ps j = Q at *
      obtain ⟨px, py⟩ := P
      obtain ⟨qx, qy⟩ := Q
      dsimp only at c0 c1 d0 d1
      generalize revK ps k = L at *
      go_wp2
      go_big_region
      all_goals go_wp2
      go_roundw
      case rel =>
        refine ⟨k + 1, by omega, by go_num, by go_num, ?_, ?_⟩
        · rw [← HS.out]
          have q1 := HROW.out.put HLN.out k (qx, qy)
          have q2 := q1.put (by rw [List.length_set, HLN.out]) j (px, py)
          exact q2.below (Below.refl _ _).drew
        · exact (((((HB.out.setCell (p := ⟨g, k * 2, none⟩) HOWN.out _).setCell (p := ⟨g, k * 2 + 1, none⟩) HOWN.out _).setCell (p := ⟨g, j * 2, none⟩) HOWN.out _).setCell (p := ⟨g, j * 2 + 1, none⟩) HOWN.out _).drew)
      case measure => simp [intOf]; omega
    · have hlI : ¬ (k : Int) < (n : Int) - 1 - (k : Int) := by omega
      have HE := hid (revK_end (ps := ps) (k := k) (by rw [HN.out]; omega))
      clear hrow
      go_wp2
      go_end0
      exact ⟨rfl, by rw [← HE.out]; exact HROW.out, HB.out⟩

set_option maxHeartbeats 1600000 in
theorem lineReverse_any (v : Value) (ps : List Pp) (w : World) (hs : Src w v ps) (hl : ps.length ≤ 100000) :
    Calls Try.prog 25 #[v] w fun e w' => (∃ u, e = .returned u ∧ Src w' u ps.reverse) ∧ Below w.heap.size w w' := by
  have H1 := hid (clone_any v ps w hs hl)
  have H2 := hid (fun u W hW => reverse_any u ps w.heap.size W hW hl)
  clear hs
  go_enter Try.func25, Try.ntmps25
  go_wp2_with (first
    | (go_at_call 36; refine H1.out.mono ?_; rintro e w1 ⟨⟨u, rfl, hu⟩, hb1⟩; have HB := hid hb1; have HU := hid hu; clear hb1 hu H1)
    | (go_at_call 37; refine (H2.out _ _ HU.out).mono ?_; rintro e w2 ⟨rfl, hu2, hb2⟩; replace HB := hid (HB.out.trans hb2); have HU2 := hid hu2; clear hb2 hu2 H2))
  go_ret
  exact ⟨⟨_, rfl, HU2.out.src⟩, HB.out⟩

end Go.Proofs.Ytepnjknblppfcaa
