/-
  slices.Clone and slices.Reverse of points; line's Reverse.
-/
import Derived.Test.YtjokpahlpkoopaaLLaw
import Derived.BigRegion
import Derived.Lib.SliceRun
import Derived.Test.YtjokpahlpkoopaaMG
namespace Go.Proofs.Ytjokpahlpkoopaa
open Go.RowKit Go.Sort


theorem ptCells_set : ∀ (ps : List Pp) (j : Nat) (p : Pp), ptCells (ps.set j p) = ((ptCells ps).set (j * 2) (.int .i64 p.1)).set (j * 2 + 1) (.int .i64 p.2)
  | [], j, p => by simp [ptCells]
  | q :: ps, 0, p => by simp [ptCells]
  | q :: ps, j + 1, p => by
    have h := ptCells_set ps j p
    have e : ∀ (r : Pp) (rs : List Pp), ptCells (r :: rs) = .int .i64 r.1 :: .int .i64 r.2 :: ptCells rs := fun _ _ => rfl
    rw [List.set_cons_succ, e, e, h, show (j + 1) * 2 = j * 2 + 1 + 1 by omega, List.set_cons_succ, List.set_cons_succ, List.set_cons_succ, List.set_cons_succ]
theorem PtRow.put {w : World} {base g n cap : Nat} {ps : List Pp} (h : PtRow w base (.slice (some ⟨g, 0, none⟩) n cap) ps) (hn : ps.length = n) (j : Nat) (p : Pp) :
    PtRow ((w.setCell ⟨g, j * 2, none⟩ (.int .i64 p.1)).setCell ⟨g, j * 2 + 1, none⟩ (.int .i64 p.2)) base (.slice (some ⟨g, 0, none⟩) n cap) (ps.set j p) := by
  subst hn
  have h' : w.ownsRow base 29 2 (.slice (some ⟨g, 0, none⟩) ps.length cap) ps.length (ptCells ps) := h
  have h2 := (h'.stored (j * 2) (.int .i64 p.1)).1
  have h3 := (h2.stored (j * 2 + 1) (.int .i64 p.2)).1
  unfold PtRow
  rw [List.length_set, ptCells_set]
  exact h3
theorem PtRow.frz {w : World} {base g n cap : Nat} {ps : List Pp} (h : PtRow w base (.slice (some ⟨g, 0, none⟩) n cap) ps) (hn : ps.length = n) (j : Nat) : w.frozen? ⟨g, j, none⟩ = false := by
  subst hn
  have h' : w.ownsRow base 29 2 (.slice (some ⟨g, 0, none⟩) ps.length cap) ps.length (ptCells ps) := h
  exact h'.frozenAt j
/-- The first k and the last k of a list exchanged. -/
def revK (ps : List Pp) (k : Nat) : List Pp := (List.range ps.length).map fun t => if t < k ∨ ps.length ≤ t + k then lpt ps (ps.length - 1 - t) else lpt ps t
theorem revK_len (ps : List Pp) (k : Nat) : (revK ps k).length = ps.length := by unfold revK; simp
theorem revK_at {ps : List Pp} {k t : Nat} (h : t < ps.length) : (revK ps k)[t]? = some (if t < k ∨ ps.length ≤ t + k then lpt ps (ps.length - 1 - t) else lpt ps t) := by
  unfold revK
  rw [List.getElem?_map, List.getElem?_range h]
  rfl
theorem revK_zero (ps : List Pp) : revK ps 0 = ps := by
  refine List.ext_getElem? fun t => ?_
  by_cases ht : t < ps.length
  · rw [revK_at ht, if_neg (by omega), at_lpt ht]
  · rw [List.getElem?_eq_none (by rw [revK_len]; omega), List.getElem?_eq_none (by omega)]
theorem revK_end {ps : List Pp} {k : Nat} (h : ps.length ≤ 2 * k + 1) : revK ps k = ps.reverse := by
  refine List.ext_getElem? fun t => ?_
  by_cases ht : t < ps.length
  · rw [revK_at ht, List.getElem?_reverse ht, at_lpt (by omega)]
    split
    · rfl
    · rw [show ps.length - 1 - t = t by omega]
  · rw [List.getElem?_eq_none (by rw [revK_len]; omega), List.getElem?_eq_none (by rw [List.length_reverse]; omega)]
theorem revK_succ {ps : List Pp} {k : Nat} (h : 2 * k + 1 < ps.length) : ((revK ps k).set k (lpt ps (ps.length - 1 - k))).set (ps.length - 1 - k) (lpt ps k) = revK ps (k + 1) := by
  refine List.ext_getElem? fun t => ?_
  by_cases ht : t < ps.length
  · rw [revK_at ht]
    by_cases h1 : t = ps.length - 1 - k
    · subst h1
      rw [List.getElem?_set_self (by rw [List.length_set, revK_len]; omega), if_pos (by omega), show ps.length - 1 - (ps.length - 1 - k) = k by omega]
    · rw [List.getElem?_set_ne (by omega)]
      by_cases h2 : t = k
      · subst h2
        rw [List.getElem?_set_self (by rw [revK_len]; omega), if_pos (by omega)]
      · rw [List.getElem?_set_ne (by omega), revK_at ht]
        by_cases h3 : t < k ∨ ps.length ≤ t + k
        · rw [if_pos h3, if_pos (by omega)]
        · rw [if_neg h3, if_neg (by omega)]
  · rw [List.getElem?_eq_none (by rw [List.length_set, List.length_set, revK_len]; omega), List.getElem?_eq_none (by rw [revK_len]; omega)]

set_option maxHeartbeats 1600000 in
theorem clone_any (v : Value) (ps : List Pp) (w : World) (hs : Src w v ps) (hl : ps.length ≤ 100000) :
    Calls Try.prog 36 #[v] w fun e w' => (∃ u, e = .returned u ∧ PtRow w' w.heap.size u ps) ∧ Below w.heap.size w w' := by
  have HS := hid hs
  have hnil : ∀ (wx : World) (a : Option Addr) (n c : Nat), (binOp .eql 22 (.slice a n c) (.slice none 0 0)).run Try.prog wx = .ok (.bool a.isNone) wx := fun wx a n c => Lib.run_eql_slice_nil wx _ _ a n c 0 0 Try.underlying22
  rcases hs with ⟨rfl, rfl⟩ | ⟨b, off, cap, rfl, hcap, -⟩
  · go_enter Try.func36, Try.ntmps36
    go_wp2
    go_ret
    exact ⟨⟨_, rfl, PtRow.nil _ _⟩, Below.refl _ _⟩
  · obtain ⟨wA, hwA⟩ : ∃ wA, w.alloc (.cells #[] 29) = wA := ⟨_, rfl⟩
    have hbA : Below w.heap.size w wA := by rw [← hwA]; exact (Below.refl _ _).alloc (Nat.le_refl _) _
    obtain ⟨v1, w1, hrun1, hrow1, hb1, _⟩ := (show PtRow wA w.heap.size (.slice (some ⟨w.heap.size, 0, none⟩) 0 0) [] by rw [← hwA]; exact PtRow.lit0 w).add (HS.out.below hbA) hbA.size (by simp; omega)
    rw [List.nil_append] at hrow1
    have HRUN1 := hid hrun1
    have HROW1 := hid hrow1
    have HBW1 := hid (hbA.trans hb1)
    clear hrun1 hrow1 hb1 hbA
    go_enter Try.func36, Try.ntmps36
    go_wp2_with (at_builtin; refine wpList_append_run rfl (.tmp 5) (.tmp 6) 22 rfl rfl rfl HRUN1.out ?_)
    go_ret
    exact ⟨⟨_, rfl, HROW1.out⟩, HBW1.out⟩

set_option maxHeartbeats 1600000 in
theorem reverse_any (v : Value) (ps : List Pp) (base : Nat) (w : World) (hr : PtRow w base v ps) (hl : ps.length ≤ 100000) :
    Calls Try.prog 37 #[v] w fun e w' => e = .returned (.tuple #[]) ∧ PtRow w' base v ps.reverse ∧ Below base w w' := by
  obtain ⟨ao, cap, rfl⟩ := hr.form
  obtain ⟨n, hn⟩ : ∃ n, ps.length = n := ⟨_, rfl⟩
  have HN := hid hn
  rw [hn] at hl hr ⊢
  have HR := hid hr
  clear hr hn
  go_enter Try.func37, Try.ntmps37
  go_wp2
  go_loopw [2, 3] (fun iv jv wr => ∃ k : Nat, 2 * k ≤ n + 1 ∧ iv = .int .i64 k ∧ jv = .int .i64 ((n : Int) - 1 - (k : Int)) ∧ PtRow wr base (.slice ao n cap) (revK ps k) ∧ Below base w wr) (fun iv _ _ => n - (intOf iv).toNat)
  case atStart => exact ⟨0, by omega, rfl, by go_num, by rw [revK_zero]; exact HR.out, Below.refl _ _⟩
  case round =>
    obtain ⟨k, hk, rfl, rfl, hrow, hb⟩ := hrel
    have HB := hid hb
    have HROW := hid hrow
    clear hb HR
    by_cases hlt : 2 * k + 1 < n
    · obtain ⟨j, hj⟩ : ∃ j : Nat, n - 1 - k = j := ⟨_, rfl⟩
      have hjI : (n : Int) - 1 - (k : Int) = (j : Int) := by omega
      rw [hjI]
      have hkjI : (k : Int) < (j : Int) := by omega
      have hkn : (k : Int) < (n : Int) := by omega
      have hjn : (j : Int) < (n : Int) := by omega
      have hnext : (j : Int) - 1 = (n : Int) - 1 - ((k : Int) + 1) := by omega
      have hkj : k ≠ j := by omega
      obtain ⟨g, rfl, c0, c1⟩ := hrow.at (k := k) (p := lpt ps k) (by rw [revK_at (by rw [HN.out]; omega), if_neg (by rw [HN.out]; omega)])
      obtain ⟨g', e, d0, d1⟩ := hrow.at (k := j) (p := lpt ps j) (by rw [revK_at (by rw [HN.out]; omega), if_neg (by rw [HN.out]; omega)])
      cases e
      have f0 := hrow.frz (by rw [revK_len, HN.out]) (k * 2)
      have f1 := hrow.frz (by rw [revK_len, HN.out]) (k * 2 + 1)
      have e0 := hrow.frz (by rw [revK_len, HN.out]) (j * 2)
      have e1 := hrow.frz (by rw [revK_len, HN.out]) (j * 2 + 1)
      have HS := hid (show ((revK ps k).set k (lpt ps j)).set j (lpt ps k) = revK ps (k + 1) by
        have q := revK_succ (ps := ps) (k := k) (by rw [HN.out]; exact hlt)
        rw [HN.out, hj] at q
        exact q)
      have HLN := hid (show (revK ps k).length = n by rw [revK_len, HN.out])
      have HOWN := hid (show base ≤ g from (hrow.lt rfl).2)
      clear hrow hj hjI
      generalize lpt ps k = P at *
      generalize lpt ps j = Q at *
      obtain ⟨px, py⟩ := P
      obtain ⟨qx, qy⟩ := Q
      dsimp only at c0 c1 d0 d1
      generalize revK ps k = L at *
      go_wp2
      go_big_region
      all_goals go_wp2
      go_roundw
      case rel =>
        refine ⟨k + 1, by omega, by go_num, by go_num, ?_, ?_⟩
        · rw [← HS.out]
          have q1 := HROW.out.put HLN.out k (qx, qy)
          have q2 := q1.put (by rw [List.length_set, HLN.out]) j (px, py)
          exact q2.below (Below.refl _ _).drew
        · exact (((((HB.out.setCell (p := ⟨g, k * 2, none⟩) HOWN.out _).setCell (p := ⟨g, k * 2 + 1, none⟩) HOWN.out _).setCell (p := ⟨g, j * 2, none⟩) HOWN.out _).setCell (p := ⟨g, j * 2 + 1, none⟩) HOWN.out _).drew)
      case measure => simp [intOf]; omega
    · have hlI : ¬ (k : Int) < (n : Int) - 1 - (k : Int) := by omega
      have HE := hid (revK_end (ps := ps) (k := k) (by rw [HN.out]; omega))
      clear hrow
      go_wp2
      go_end0
      exact ⟨rfl, by rw [← HE.out]; exact HROW.out, HB.out⟩

set_option maxHeartbeats 1600000 in
theorem lineReverse_any (v : Value) (ps : List Pp) (w : World) (hs : Src w v ps) (hl : ps.length ≤ 100000) :
    Calls Try.prog 17 #[v] w fun e w' => (∃ u, e = .returned u ∧ Src w' u ps.reverse) ∧ Below w.heap.size w w' := by
  have H1 := hid (clone_any v ps w hs hl)
  have H2 := hid (fun u W hW => reverse_any u ps w.heap.size W hW hl)
  clear hs
  go_enter Try.func17, Try.ntmps17
  go_wp2_with (first
    | (go_at_call 36; refine H1.out.mono ?_; rintro e w1 ⟨⟨u, rfl, hu⟩, hb1⟩; have HB := hid hb1; have HU := hid hu; clear hb1 hu H1)
    | (go_at_call 37; refine (H2.out _ _ HU.out).mono ?_; rintro e w2 ⟨rfl, hu2, hb2⟩; replace HB := hid (HB.out.trans hb2); have HU2 := hid hu2; clear hb2 hu2 H2))
  go_ret
  exact ⟨⟨_, rfl, HU2.out.src⟩, HB.out⟩

end Go.Proofs.Ytjokpahlpkoopaa

namespace Go.Proofs.Ytjokpahlpkoopaa
open Go.RowKit Go.Sort

set_option maxHeartbeats 1600000 in
theorem lineBetween_any (x a b : Int) (w : World) :
    Calls Try.prog 52 #[.int .i64 a, .int .i64 b, .int .i64 x] w fun e w' => e = .returned (.bool (btw x a b)) ∧ w' = w := by
  have hw : btw x a b = (decide (min a b ≤ x) && decide (x ≤ max a b)) := rfl
  generalize btw x a b = R at *
  have HW := hid hw
  clear hw
  rcases (show a < b ∨ a = b ∨ b < a by omega) with h | h | h
  · rcases (show x < a ∨ (a ≤ x ∧ x ≤ b) ∨ (a ≤ x ∧ b < x) by omega) with g | ⟨g, g'⟩ | ⟨g, g'⟩
    · have HE := hid (show R = false by rw [HW.out, show decide (min a b ≤ x) = false from decide_eq_false (by omega)]; rfl)
      go_enter Try.func52, Try.ntmps52
      go_wp2
      go_ret
      exact ⟨by rw [HE.out]; first | rfl | (show Ending.returned (Value.bool (decide _)) = _; first | rw [decide_eq_false (by omega)] | rw [decide_eq_true (by omega)]), rfl⟩
    · have HE := hid (show R = true by rw [HW.out, show decide (min a b ≤ x) = true from decide_eq_true (by omega), show decide (x ≤ max a b) = true from decide_eq_true (by omega)]; rfl)
      go_enter Try.func52, Try.ntmps52
      go_wp2
      go_ret
      exact ⟨by rw [HE.out]; first | rfl | (show Ending.returned (Value.bool (decide _)) = _; first | rw [decide_eq_false (by omega)] | rw [decide_eq_true (by omega)]), rfl⟩
    · have HE := hid (show R = false by rw [HW.out, show decide (min a b ≤ x) = true from decide_eq_true (by omega), show decide (x ≤ max a b) = false from decide_eq_false (by omega)]; rfl)
      go_enter Try.func52, Try.ntmps52
      go_wp2
      go_ret
      exact ⟨by rw [HE.out]; first | rfl | (show Ending.returned (Value.bool (decide _)) = _; first | rw [decide_eq_false (by omega)] | rw [decide_eq_true (by omega)]), rfl⟩
  · subst h
    rcases (show x < a ∨ (a ≤ x ∧ x ≤ a) ∨ (a ≤ x ∧ a < x) by omega) with g | ⟨g, g'⟩ | ⟨g, g'⟩
    · have HE := hid (show R = false by rw [HW.out, show decide (min a a ≤ x) = false from decide_eq_false (by omega)]; rfl)
      go_enter Try.func52, Try.ntmps52
      go_wp2
      go_ret
      exact ⟨by rw [HE.out]; first | rfl | (show Ending.returned (Value.bool (decide _)) = _; first | rw [decide_eq_false (by omega)] | rw [decide_eq_true (by omega)]), rfl⟩
    · have HE := hid (show R = true by rw [HW.out, show decide (min a a ≤ x) = true from decide_eq_true (by omega), show decide (x ≤ max a a) = true from decide_eq_true (by omega)]; rfl)
      go_enter Try.func52, Try.ntmps52
      go_wp2
      go_ret
      exact ⟨by rw [HE.out]; first | rfl | (show Ending.returned (Value.bool (decide _)) = _; first | rw [decide_eq_false (by omega)] | rw [decide_eq_true (by omega)]), rfl⟩
    · have HE := hid (show R = false by rw [HW.out, show decide (min a a ≤ x) = true from decide_eq_true (by omega), show decide (x ≤ max a a) = false from decide_eq_false (by omega)]; rfl)
      go_enter Try.func52, Try.ntmps52
      go_wp2
      go_ret
      exact ⟨by rw [HE.out]; first | rfl | (show Ending.returned (Value.bool (decide _)) = _; first | rw [decide_eq_false (by omega)] | rw [decide_eq_true (by omega)]), rfl⟩
  · rcases (show x < b ∨ (b ≤ x ∧ x ≤ a) ∨ (b ≤ x ∧ a < x) by omega) with g | ⟨g, g'⟩ | ⟨g, g'⟩
    · have HE := hid (show R = false by rw [HW.out, show decide (min a b ≤ x) = false from decide_eq_false (by omega)]; rfl)
      go_enter Try.func52, Try.ntmps52
      go_wp2
      go_ret
      exact ⟨by rw [HE.out]; first | rfl | (show Ending.returned (Value.bool (decide _)) = _; first | rw [decide_eq_false (by omega)] | rw [decide_eq_true (by omega)]), rfl⟩
    · have HE := hid (show R = true by rw [HW.out, show decide (min a b ≤ x) = true from decide_eq_true (by omega), show decide (x ≤ max a b) = true from decide_eq_true (by omega)]; rfl)
      go_enter Try.func52, Try.ntmps52
      go_wp2
      go_ret
      exact ⟨by rw [HE.out]; first | rfl | (show Ending.returned (Value.bool (decide _)) = _; first | rw [decide_eq_false (by omega)] | rw [decide_eq_true (by omega)]), rfl⟩
    · have HE := hid (show R = false by rw [HW.out, show decide (min a b ≤ x) = true from decide_eq_true (by omega), show decide (x ≤ max a b) = false from decide_eq_false (by omega)]; rfl)
      go_enter Try.func52, Try.ntmps52
      go_wp2
      go_ret
      exact ⟨by rw [HE.out]; first | rfl | (show Ending.returned (Value.bool (decide _)) = _; first | rw [decide_eq_false (by omega)] | rw [decide_eq_true (by omega)]), rfl⟩

set_option maxHeartbeats 1600000 in
theorem lineHas_any (ax ay bx by' px py : Int) (w : World) :
    Calls Try.prog 38 #[pv ax ay, pv bx by', pv px py] w fun e w' => e = .returned (.bool (btw px ax bx && btw py ay by' && onP (near ax) (near ay) (near bx) (near by') (near px) (near py))) ∧ Below w.heap.size w w' := by
  obtain ⟨wA, hwA⟩ : ∃ wA, w.alloc (.cells #[.int .i64 ax, .int .i64 ay] 29) = wA := ⟨_, rfl⟩
  obtain ⟨wB, hwB⟩ : ∃ wB, wA.alloc (.cells #[.int .i64 bx, .int .i64 by'] 29) = wB := ⟨_, rfl⟩
  obtain ⟨wC, hwC⟩ : ∃ wC, wB.alloc (.cells #[.int .i64 px, .int .i64 py] 29) = wC := ⟨_, rfl⟩
  obtain ⟨hA, hB, hC, hBL, hszC, hszA, hszB⟩ := box3 hwA hwB hwC
  have HB := hid hBL
  have a0 := hA.c0; have a1 := hA.c1; have b0 := hB.c0; have b1 := hB.c1; have c0 := hC.c0; have c1 := hC.c1
  have H1 := hid (fun W => lineBetween_any px ax bx W)
  have H2 := hid (fun W => lineBetween_any py ay by' W)
  have H3 := hid (fun W => on_any ax ay bx by' px py W)
  generalize btw px ax bx = R1 at *
  generalize btw py ay by' = R2 at *
  generalize onP (near ax) (near ay) (near bx) (near by') (near px) (near py) = R3 at *
  clear hA hB hC hBL
  cases R1 with
  | false =>
    go_enter Try.func38, Try.ntmps38
    go_wp2_with (go_at_call 52; refine (H1.out _).mono ?_; rintro e w1 ⟨rfl, rfl⟩; clear H1)
    go_ret
    exact ⟨rfl, HB.out⟩
  | true =>
    cases R2 with
    | false =>
      go_enter Try.func38, Try.ntmps38
      go_wp2_with (first
        | (go_at_call 52; refine (H1.out _).mono ?_; rintro e w1 ⟨rfl, rfl⟩; clear H1)
        | (go_at_call 52; refine (H2.out _).mono ?_; rintro e w1 ⟨rfl, rfl⟩; clear H2))
      go_ret
      exact ⟨rfl, HB.out⟩
    | true =>
      go_enter Try.func38, Try.ntmps38
      go_wp2_with (first
        | (go_at_call 52; refine (H1.out _).mono ?_; rintro e w1 ⟨rfl, rfl⟩; clear H1)
        | (go_at_call 52; refine (H2.out _).mono ?_; rintro e w1 ⟨rfl, rfl⟩; clear H2)
        | (go_at_call 53; refine (H3.out _).mono ?_; rintro e w1 ⟨rfl, hb1⟩; replace HB := hid (HB.out.trans (hb1.mono HB.out.size)); clear hb1 H3))
      go_ret
      exact ⟨rfl, HB.out⟩

/-- Of points of the grid the box says nothing new. -/
theorem has_gl {a b : Pp} {px py : Int} (ha : clP a = a) (hb : clP b = b) (hp : clP (px, py) = (px, py)) (w : World) :
    Calls Try.prog 38 #[pv a.1 a.2, pv b.1 b.2, pv px py] w fun e w' => e = .returned (.bool (onP (near a.1) (near a.2) (near b.1) (near b.2) (near px) (near py))) ∧ Below w.heap.size w w' := by
  have h := lineHas_any a.1 a.2 b.1 b.2 px py w
  have a1 : near a.1 = a.1 := congrArg Prod.fst ha
  have a2 : near a.2 = a.2 := congrArg Prod.snd ha
  have b1 : near b.1 = b.1 := congrArg Prod.fst hb
  have b2 : near b.2 = b.2 := congrArg Prod.snd hb
  have p1 : near px = px := congrArg Prod.fst hp
  have p2 : near py = py := congrArg Prod.snd hp
  rw [a1, a2, b1, b2, p1, p2] at h ⊢
  have e : (btw px a.1 b.1 && btw py a.2 b.2 && onP a.1 a.2 b.1 b.2 px py) = onP a.1 a.2 b.1 b.2 px py := by
    unfold onP
    rw [inBox_btw]
    cases btw px a.1 b.1 <;> cases btw py a.2 b.2 <;> simp
  rwa [e] at h

set_option maxHeartbeats 1600000 in
theorem lineAt_any (v : Value) (ps : List Pp) (px py : Int) (w : World) (hp : Pts w v ps) (hg : Gl ps) (hgp : clP (px, py) = (px, py)) (hl : ps.length ≤ 100000) :
    Calls Try.prog 19 #[v, pv px py] w fun e w' => e = .returned (.int .i64 (atI (atL ps (px, py)))) ∧ Below w.heap.size w w' := by
  have hp' := hp
  obtain ⟨a, cap, rfl, _⟩ := hp'
  have HP := hid hp
  obtain ⟨n, hn⟩ : ∃ n, ps.length = n := ⟨_, rfl⟩
  have HN := hid hn
  rw [hn] at hl HP ⊢
  obtain ⟨wA, hwA⟩ : ∃ wA, w.alloc (.cells #[.int .i64 px, .int .i64 py] 29) = wA := ⟨_, rfl⟩
  obtain ⟨hA, hBL, hszA⟩ := box1 hwA
  have HA := hid hA
  have HBL := hid hBL
  have HG := hid hg
  have HGP := hid hgp
  obtain ⟨N, hNN⟩ : ∃ N, n - 1 = N := ⟨_, rfl⟩
  have HNN := hid hNN
  have HS := hid (fun W => segments_any a n cap W hl)
  rw [hNN] at HS
  clear hg hgp hNN
  clear hA hBL hp hn
  go_enter Try.func19, Try.ntmps19
  go_wp2_with (go_at_call 33; refine (HS.out _).mono ?_; rintro e w1 ⟨rfl, hb1⟩; have HB1 := hid hb1; clear hb1)
  go_loopw [8] (fun iv wr => ∃ k : Nat, k ≤ N ∧ iv = .int .i64 k ∧ (∀ i, i < k → onL ps (px, py) i = false) ∧ Below wA.heap.size wA wr) (fun iv _ => N - (intOf iv).toNat)
  case atStart => exact ⟨0, by omega, rfl, (fun i hi => absurd hi (Nat.not_lt_zero i)), HB1.out⟩
  case round =>
    obtain ⟨k, hk, rfl, hno, hbr⟩ := hrel
    clear HB1 HS
    have HNO := hid hno
    have HBR := hid hbr
    have HBW := hid (HBL.out.trans (hbr.mono HBL.out.size))
    have hA := HA.out.below hbr HA.out.lt
    by_cases hlt : k < N
    · have hkI : (k : Int) < (N : Int) := by omega
      have hkN : k + 1 < n := by have := HNN.out; omega
      have hkn : (k : Int) + 1 < (n : Int) := by omega
      have hkm : (k : Int) < (n : Int) := by omega
      obtain ⟨b, off, rfl, hc⟩ := (HP.out.below HBW.out).row (by rw [HN.out]; omega)
      obtain ⟨z0, z1⟩ := hc k (by rw [HN.out]; omega)
      obtain ⟨x0, x1⟩ := hc (k + 1) (by rw [HN.out]; omega)
      have y0 := cell_regrown z0; have y1 := cell_regrown z1; have u0 := cell_regrown x0; have u1 := cell_regrown x1; have a0 := cell_regrown hA.c0; have a1 := cell_regrown hA.c1
      have c1 := fun d os => has_gl (a := lpt ps k) (b := lpt ps (k + 1)) (HG.out.at (i := k) (by rw [HN.out]; omega)) (HG.out.at (i := k + 1) (by rw [HN.out]; omega)) HGP.out (grow (redrawn wr d) os)
      have HON : Hid (onL ps (px, py) k = onP (near (lpt ps k).1) (near (lpt ps k).2) (near (lpt ps (k + 1)).1) (near (lpt ps (k + 1)).2) (near px) (near py)) := hid rfl
      generalize (lpt ps k).1 = X0 at *
      generalize (lpt ps k).2 = Y0 at *
      generalize (lpt ps (k + 1)).1 = X1 at *
      generalize (lpt ps (k + 1)).2 = Y1 at *
      generalize onP (near X0) (near Y0) (near X1) (near Y1) (near px) (near py) = O at *
      clear z0 z1 x0 x1 hc hA hbr hno
      cases O with
      | true =>
        go_wp2
        refine wp_region_quiet_below (by kernel_rfl) (by kernel_rfl) ?_
        go_big_quiet_step (fail)
        go_big_quiet_step (fail)
        go_big_quiet_step (fail)
        go_big_quiet_step (fail)
        go_big_quiet_step (fail)
        go_big_quiet_step (fail)
        go_big_quiet_step (fail)
        go_big_quiet_step (fail)
        go_big_quiet_step (fail)
        go_big_quiet_step (fail)
        go_big_quiet_step (exact Calls.regrown_of (c1 _ _))
        refine wpQuiet_nil ?_
        intro W1 hW'
        obtain ⟨⟨dq, osq⟩, hW⟩ := hW'
        have HW1 := hid (show Below wr.heap.size wr W1 by rw [hW]; exact below_regrown _ _ _)
        clear hW
        clear y0 y1 u0 u1 a0 a1 c1
        go_wp2
        go_ret
        refine ⟨?_, HBW.out.trans (HW1.out.mono HBW.out.size)⟩
        rw [atL_some (by rw [HN.out]; omega) HON.out HNO.out]
        rfl
      | false =>
        go_wp2
        refine wp_region_quiet_below (by kernel_rfl) (by kernel_rfl) ?_
        go_big_quiet_step (fail)
        go_big_quiet_step (fail)
        go_big_quiet_step (fail)
        go_big_quiet_step (fail)
        go_big_quiet_step (fail)
        go_big_quiet_step (fail)
        go_big_quiet_step (fail)
        go_big_quiet_step (fail)
        go_big_quiet_step (fail)
        go_big_quiet_step (fail)
        go_big_quiet_step (exact Calls.regrown_of (c1 _ _))
        refine wpQuiet_nil ?_
        intro W1 hW'
        obtain ⟨⟨dq, osq⟩, hW⟩ := hW'
        have HW1 := hid (show Below wr.heap.size wr W1 by rw [hW]; exact below_regrown _ _ _)
        clear hW
        clear y0 y1 u0 u1 a0 a1 c1
        go_wp2
        go_roundw
        case rel =>
          refine ⟨k + 1, by omega, by go_num, fun i hi => ?_, HBR.out.trans (HW1.out.mono HBR.out.size)⟩
          by_cases hik : i = k
          · rw [hik]; exact HON.out
          · exact HNO.out i (by omega)
        case measure => simp [intOf]; omega
    · have hkI : ¬ (k : Int) < (N : Int) := by omega
      clear hA hbr hno
      go_wp2
      go_ret
      refine ⟨?_, HBW.out⟩
      rw [atL_none (fun i hi => HNO.out i (by have := HNN.out; rw [HN.out] at hi; omega))]
      rfl
end Go.Proofs.Ytjokpahlpkoopaa
