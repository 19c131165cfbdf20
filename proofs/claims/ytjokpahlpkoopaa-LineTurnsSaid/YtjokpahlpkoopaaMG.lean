/-
  Layer 12: the document's Apart.
-/
import Derived.Test.YtjokpahlpkoopaaLLaw
import Derived.Test.YtjokpahlpkoopaaMB
import Derived.Deep.CutRange
import Derived.Deep.RegionHeld
namespace Go.Proofs.Ytjokpahlpkoopaa
open Go.RowKit Go.Sort






































































































































theorem apartL_true {a b : List Pp} (h : ∀ i, i < a.length - 1 → ∀ k, k < b.length - 1 → meetL a b i k = true) : apartL a b = true := by
  unfold apartL
  rw [List.all_eq_true]
  intro i hi
  rw [List.all_eq_true]
  intro k hk
  exact h i (List.mem_range.1 hi) k (List.mem_range.1 hk)
theorem apartL_at {a b : List Pp} (h : apartL a b = true) {i k : Nat} (hi : i < a.length - 1) (hk : k < b.length - 1) : meetL a b i k = true := by
  unfold apartL at h
  rw [List.all_eq_true] at h
  have h1 := h i (List.mem_range.2 hi)
  rw [List.all_eq_true] at h1
  exact h1 k (List.mem_range.2 hk)
theorem apartL_no {a b : List Pp} {i k : Nat} (hi : i < a.length - 1) (hk : k < b.length - 1) (h : meetL a b i k = false) : apartL a b = false := by
  cases hs : apartL a b with
  | false => rfl
  | true => rw [apartL_at hs hi hk] at h; cases h
theorem cell_in {w w' : World} {b i : Nat} {v : Value} (h : w.cell? ⟨b, i, none⟩ = some v) (hb : Below w.heap.size w w') : w'.cell? ⟨b, i, none⟩ = some v :=
  (hb.cell (p := ⟨b, i, none⟩) (World.block_lt_of_cell? w _ h)).trans h




































































































































































































































































end Go.Proofs.Ytjokpahlpkoopaa

namespace Go.Proofs.Ytjokpahlpkoopaa

theorem lpt_append_left {a b : List Pp} {i : Nat} (h : i < a.length) : lpt (a ++ b) i = lpt a i := by
  refine lpt_at ?_
  rw [List.getElem?_append_left h]
  exact at_lpt h
theorem lpt_append_right {a b : List Pp} {i : Nat} (h : i < b.length) : lpt (a ++ b) (a.length + i) = lpt b i := by
  refine lpt_at ?_
  rw [List.getElem?_append_right (by omega), Nat.add_sub_cancel_left]
  exact at_lpt h
theorem lpt_take {a : List Pp} {k i : Nat} (h : i < k) (hi : i < a.length) : lpt (a.take k) i = lpt a i := by
  refine lpt_at ?_
  rw [List.getElem?_take, if_pos h]
  exact at_lpt hi
theorem lpt_drop {a : List Pp} {k i : Nat} (h : k + i < a.length) : lpt (a.drop k) i = lpt a (k + i) := by
  refine lpt_at ?_
  rw [List.getElem?_drop]
  exact at_lpt h
/-- What Split answers, where it parts. -/
theorem splitL_yes {ps : List Pp} {p : Pp} (h : (splitL ps p).2 = true) : ∃ k, atL ps p = some k ∧ k + 1 < ps.length ∧ endL ps p = false ∧ (splitL ps p).1.1 = ps.take (k + 1) ++ [p] ∧ (splitL ps p).1.2 = if lpt ps (k + 1) = p then ps.drop (k + 1) else p :: ps.drop (k + 1) := by
  unfold splitL at h ⊢
  cases hat : atL ps p with
  | none => rw [hat] at h; cases h
  | some k =>
    rw [hat] at h
    dsimp only at h ⊢
    cases he : endL ps p with
    | true => rw [he] at h; cases h
    | false => exact ⟨k, rfl, atL_lt hat, rfl, rfl, rfl⟩
theorem splitL_no {ps : List Pp} {p : Pp} (h : (splitL ps p).2 = false) : splitL ps p = (([], []), false) := by
  unfold splitL at h ⊢
  cases hat : atL ps p with
  | none => rfl
  | some k =>
    rw [hat] at h
    dsimp only at h ⊢
    cases he : endL ps p with
    | true => rfl
    | false => rw [he] at h; cases h
theorem split_first {ps : List Pp} {p : Pp} {k : Nat} (hk : k + 1 < ps.length) : ∃ t, (if lpt ps (k + 1) = p then ps.drop (k + 1) else p :: ps.drop (k + 1)) = p :: t ∧ (t = ps.drop (k + 2) ∧ lpt ps (k + 1) = p ∨ t = ps.drop (k + 1)) := by
  have hd : ps.drop (k + 1) = lpt ps (k + 1) :: ps.drop (k + 2) := by
    rw [List.drop_eq_getElem_cons hk]
    congr 1
    have := at_lpt hk
    rw [List.getElem?_eq_getElem hk] at this
    exact Option.some.inj this
  by_cases he : lpt ps (k + 1) = p
  · refine ⟨ps.drop (k + 2), ?_, .inl ⟨rfl, he⟩⟩
    rw [if_pos he, hd, he]
  · exact ⟨ps.drop (k + 1), by rw [if_neg he], .inr rfl⟩
theorem split_join {ps : List Pp} {p : Pp} (h : (splitL ps p).2 = true) : ps.length ≤ (joinL (splitL ps p).1.1 (splitL ps p).1.2).length ∧ (joinL (splitL ps p).1.1 (splitL ps p).1.2).length ≤ ps.length + 1 ∧ lpt (joinL (splitL ps p).1.1 (splitL ps p).1.2) 0 = lpt ps 0 ∧ lpt (joinL (splitL ps p).1.1 (splitL ps p).1.2) ((joinL (splitL ps p).1.1 (splitL ps p).1.2).length - 1) = lpt ps (ps.length - 1) ∧ 2 ≤ ps.length := by
  obtain ⟨k, _, hk, _, e1, e2⟩ := splitL_yes h
  rw [e1, e2]
  obtain ⟨t, ht, htt⟩ := split_first (p := p) hk
  rw [ht]
  have hla : (ps.take (k + 1) ++ [p]).length = k + 2 := by rw [List.length_append, List.length_take]; simp; omega
  have hlt : lpt (ps.take (k + 1) ++ [p]) ((ps.take (k + 1) ++ [p]).length - 1) = p := by
    have := lpt_append_right (a := ps.take (k + 1)) (b := [p]) (i := 0) (by simp)
    rw [hla, show k + 2 - 1 = k + 1 by omega]
    rw [List.length_take, Nat.min_eq_left (by omega), Nat.add_zero] at this
    rw [this]
    rfl
  have hj : joinL (ps.take (k + 1) ++ [p]) (p :: t) = ps.take (k + 1) ++ [p] ++ t := by
    unfold joinL
    rw [if_pos ⟨by rw [hla]; omega, by simp, by rw [hlt]; rfl⟩]
    rfl
  rw [hj]
  have hl : (ps.take (k + 1) ++ [p] ++ t).length = k + 2 + t.length := by rw [List.length_append, hla]
  have h0 : lpt (ps.take (k + 1) ++ [p] ++ t) 0 = lpt ps 0 := by
    rw [List.append_assoc, lpt_append_left (by rw [List.length_take]; omega), lpt_take (by omega) (by omega)]
  rw [hl]
  refine ⟨?_, ?_, h0, ?_, by omega⟩
  · rcases htt with ⟨e, _⟩ | e <;> rw [e, List.length_drop] <;> omega
  · rcases htt with ⟨e, _⟩ | e <;> rw [e, List.length_drop] <;> omega
  · rcases htt with ⟨e, he⟩ | e
    · by_cases hkn : k + 2 < ps.length
      · have htl : t.length = ps.length - (k + 2) := by rw [e, List.length_drop]
        have := lpt_append_right (a := ps.take (k + 1) ++ [p]) (b := t) (i := t.length - 1) (by omega)
        rw [hla] at this
        rw [show k + 2 + t.length - 1 = k + 2 + (t.length - 1) by omega, this, e, lpt_drop (by rw [List.length_drop]; omega), List.length_drop]
        congr 1
        omega
      · have ht0 : t = [] := by rw [e]; exact List.drop_of_length_le (by omega)
        rw [ht0, List.append_nil, show k + 2 + ([] : List Pp).length - 1 = (ps.take (k + 1) ++ [p]).length - 1 by rw [hla]; rfl, hlt, show ps.length - 1 = k + 1 by omega, he]
    · have htl : t.length = ps.length - (k + 1) := by rw [e, List.length_drop]
      have := lpt_append_right (a := ps.take (k + 1) ++ [p]) (b := t) (i := t.length - 1) (by omega)
      rw [hla] at this
      rw [show k + 2 + t.length - 1 = k + 2 + (t.length - 1) by omega, this, e, lpt_drop (by rw [List.length_drop]; omega), List.length_drop]
      congr 1
      omega
theorem split_gl {ps : List Pp} {p : Pp} (hg : Gl ps) (hp : clP p = p) : Gl (splitL ps p).1.1 ∧ Gl (splitL ps p).1.2 ∧ (splitL ps p).1.1.length ≤ ps.length + 1 ∧ (splitL ps p).1.2.length ≤ ps.length + 1 := by
  cases h : (splitL ps p).2 with
  | false =>
    rw [splitL_no h]
    exact ⟨(fun q hq => (by cases hq)), (fun q hq => (by cases hq)), Nat.zero_le _, Nat.zero_le _⟩
  | true =>
    obtain ⟨k, _, hk, _, e1, e2⟩ := splitL_yes h
    rw [e1, e2]
    refine ⟨fun q hq => ?_, fun q hq => ?_, by rw [List.length_append, List.length_take]; simp; omega, ?_⟩
    · rcases List.mem_append.1 hq with hq | hq
      · exact hg q (List.mem_of_mem_take hq)
      · rw [List.mem_singleton.1 hq]; exact hp
    · split at hq
      · exact hg q (List.mem_of_mem_drop hq)
      · rcases List.mem_cons.1 hq with rfl | hq
        · exact hp
        · exact hg q (List.mem_of_mem_drop hq)
    · split
      · rw [List.length_drop]; omega
      · rw [List.length_cons, List.length_drop]; omega
end Go.Proofs.Ytjokpahlpkoopaa

namespace Go.Proofs.Ytjokpahlpkoopaa
open Go.RowKit Go.Sort

theorem Gl.at {ps : List Pp} (h : Gl ps) {i : Nat} (hi : i < ps.length) : clP (lpt ps i) = lpt ps i := h _ (List.mem_of_getElem? (at_lpt hi))
theorem closedL_gl {ps : List Pp} (h : Gl ps) (h3 : 3 ≤ ps.length) : closedL ps = eqp (lpt ps 0) (lpt ps (ps.length - 1)) := by
  unfold closedL
  rw [decide_eq_true h3, h.at (by omega), h.at (by omega)]
  rfl

set_option maxHeartbeats 1600000 in
theorem segments_any (ao : Option Addr) (n cap : Nat) (w : World) (hl : n ≤ 100000) :
    Calls Try.prog 33 #[.slice ao n cap] w fun e w' => e = .returned (.int .i64 ((n - 1 : Nat) : Int)) ∧ Below w.heap.size w w' := by
  cases n with
  | zero =>
    go_enter Try.func33, Try.ntmps33
    go_wp2
    go_ret
    exact ⟨rfl, Below.refl _ _⟩
  | succ m =>
    have h1 : (m : Int) + 1 - 1 = (m : Int) := by omega
    have h2 : ¬ (m : Int) < 0 := by omega
    have h3 : ¬ (0 : Int) > (m : Int) := by omega
    have h4 : max (m : Int) 0 = (m : Int) := by omega
    rw [Nat.add_sub_cancel]
    go_enter Try.func33, Try.ntmps33
    go_wp2
    all_goals (go_ret; refine ⟨?_, Below.refl _ _⟩)
    all_goals (first | rfl | (congr 2; omega))

set_option maxHeartbeats 1600000 in
theorem lineClosed_any (v : Value) (ps : List Pp) (w : World) (hp : Pts w v ps) (hg : Gl ps) (hl : ps.length ≤ 100000) :
    Calls Try.prog 18 #[v] w fun e w' => e = .returned (.bool (closedL ps)) ∧ Below w.heap.size w w' := by
  have hp' := hp
  obtain ⟨a, cap, rfl, _⟩ := hp'
  obtain ⟨n, hn⟩ : ∃ n, ps.length = n := ⟨_, rfl⟩
  have HN := hid hn
  rw [hn] at hl hp ⊢
  by_cases h3 : 3 ≤ n
  · have h3I : (3 : Int) ≤ (n : Int) := by omega
    obtain ⟨b, off, rfl, hc⟩ := hp.row (by omega)
    obtain ⟨z0, z1⟩ := hc 0 (by omega)
    obtain ⟨x0, x1⟩ := hc (n - 1) (by omega)
    have HCL : Hid (closedL ps = eqp (lpt ps 0) (lpt ps (n - 1))) := hid (by rw [closedL_gl hg (by rw [HN.out]; exact h3), HN.out])
    generalize lpt ps 0 = P at *
    generalize lpt ps (n - 1) = Q at *
    obtain ⟨PX, PY⟩ := P
    obtain ⟨QX, QY⟩ := Q
    rw [show (0 : Nat) * 2 = 0 from rfl, Nat.add_zero] at z0 z1
    obtain ⟨m, rfl⟩ : ∃ m, n = m + 1 := ⟨n - 1, by omega⟩
    rw [Nat.add_sub_cancel] at x0 x1
    have hm : ((m : Int) + 1 - 1) = (m : Int) := by omega
    have g1 : decide ((3 : Int) ≤ (m : Int) + 1) = true := decide_eq_true (by omega)
    have g2 : decide (3 ≤ m + 1) = true := decide_eq_true (by omega)
    dsimp only at z0 z1 x0 x1
    have y0 := cell_regrown z0; have y1 := cell_regrown z1; have u0 := cell_regrown x0; have u1 := cell_regrown x1
    clear z0 z1 x0 x1 hc hp hn hg
    cases f : (PX == QX && PY == QY) with
    | true =>
      have rf := fun x y => ite2_yes f (α := Result Next) x y
      have sf := fun x y => ite2_yes f (α := Prop) x y
      have HF := hid f
      go_enter Try.func18, Try.ntmps18
      go_wp2
      refine wp_region_quiet_below (by kernel_rfl) (by kernel_rfl) ?_
      repeat (go_big_quiet_step (fail))
      refine wpQuiet_nil ?_
      intro W1 hW'
      obtain ⟨⟨dq, osq⟩, hW⟩ := hW'
      have HW1 := hid (show Below w.heap.size w W1 by rw [hW]; exact below_regrown _ _ _)
      clear hW
      clear y0 y1 u0 u1 rf sf
      go_wp2
      go_ret
      refine ⟨?_, HW1.out⟩
      rw [HCL.out]
      show _ = Ending.returned (.bool (PX == QX && PY == QY))
      rw [HF.out]
      rfl
    | false =>
      have rf := fun x y => ite2_no f (α := Result Next) x y
      have sf := fun x y => ite2_no f (α := Prop) x y
      have HF := hid f
      go_enter Try.func18, Try.ntmps18
      go_wp2
      refine wp_region_quiet_below (by kernel_rfl) (by kernel_rfl) ?_
      repeat (go_big_quiet_step (fail))
      refine wpQuiet_nil ?_
      intro W1 hW'
      obtain ⟨⟨dq, osq⟩, hW⟩ := hW'
      have HW1 := hid (show Below w.heap.size w W1 by rw [hW]; exact below_regrown _ _ _)
      clear hW
      clear y0 y1 u0 u1 rf sf
      go_wp2
      go_ret
      refine ⟨?_, HW1.out⟩
      rw [HCL.out]
      show _ = Ending.returned (.bool (PX == QX && PY == QY))
      rw [HF.out]
      rfl
  · have h3I : ¬ (3 : Int) ≤ (n : Int) := by omega
    have g1 : decide ((3 : Int) ≤ (n : Int)) = false := decide_eq_false (by omega)
    have g2 : decide (3 ≤ n) = false := decide_eq_false h3
    have HCL : Hid (closedL ps = false) := hid (by unfold closedL; rw [HN.out, decide_eq_false h3]; rfl)
    clear hp hn hg
    go_enter Try.func18, Try.ntmps18
    go_wp2
    refine wp_region_quiet_below (by kernel_rfl) (by kernel_rfl) ?_
    repeat (go_big_quiet_step (fail))
    refine wpQuiet_nil ?_
    intro W1 hW'
    obtain ⟨⟨dq, osq⟩, hW⟩ := hW'
    have HW1 := hid (show Below w.heap.size w W1 by rw [hW]; exact below_regrown _ _ _)
    clear hW
    go_wp2
    go_ret
    exact ⟨by rw [HCL.out]; rfl, HW1.out⟩
end Go.Proofs.Ytjokpahlpkoopaa

namespace Go.Proofs.Ytjokpahlpkoopaa
open Go.RowKit Go.Sort

theorem endL_comm (ps : List Pp) (p : Pp) : endL ps p = (eqp p (lpt ps 0) || eqp p (lpt ps (ps.length - 1))) := by
  unfold endL
  rw [eqp_comm, eqp_comm (lpt ps (ps.length - 1))]

set_option maxHeartbeats 1600000 in
theorem isEnd_any (v : Value) (ps : List Pp) (px py : Int) (w : World) (hp : Pts w v ps) (h1 : 1 ≤ ps.length) (hl : ps.length ≤ 100000) :
    Calls Try.prog 30 #[v, pv px py] w fun e w' => e = .returned (.bool (endL ps (px, py))) ∧ Below w.heap.size w w' := by
  have hp' := hp
  obtain ⟨a, cap, rfl, _⟩ := hp'
  obtain ⟨n, hn⟩ : ∃ n, ps.length = n := ⟨_, rfl⟩
  have HE := hid (endL_comm ps (px, py))
  have HN := hid hn
  rw [hn] at hl h1 hp HE ⊢
  obtain ⟨wA, hwA⟩ : ∃ wA, w.alloc (.cells #[.int .i64 px, .int .i64 py] 29) = wA := ⟨_, rfl⟩
  obtain ⟨hA, hBL, hszA⟩ := box1 hwA
  have HBL := hid hBL
  obtain ⟨b, off, rfl, hc⟩ := (hp.below hBL).row (by omega)
  obtain ⟨z0, z1⟩ := hc 0 (by omega)
  obtain ⟨x0, x1⟩ := hc (n - 1) (by omega)
  generalize lpt ps 0 = P at *
  generalize lpt ps (n - 1) = Q at *
  obtain ⟨PX, PY⟩ := P
  obtain ⟨QX, QY⟩ := Q
  rw [show (0 : Nat) * 2 = 0 from rfl, Nat.add_zero] at z0 z1
  obtain ⟨m, rfl⟩ : ∃ m, n = m + 1 := ⟨n - 1, by omega⟩
  rw [Nat.add_sub_cancel] at x0 x1
  have hm : ((m : Int) + 1 - 1) = (m : Int) := by omega
  dsimp only at z0 z1 x0 x1
  have y0 := cell_regrown z0; have y1 := cell_regrown z1; have u0 := cell_regrown x0; have u1 := cell_regrown x1; have a0 := cell_regrown hA.c0; have a1 := cell_regrown hA.c1
  clear z0 z1 x0 x1 hc hp hn hA hBL h1
  cases f : (px == PX && py == PY) with
  | true =>
    have rf := fun x y => ite2_yes f (α := Result Next) x y
    have sf := fun x y => ite2_yes f (α := Prop) x y
    have HF := hid f
    go_enter Try.func30, Try.ntmps30
    go_wp2
    refine wp_region_quiet_below (by kernel_rfl) (by kernel_rfl) ?_
    repeat (go_big_quiet_step (fail))
    refine wpQuiet_nil ?_
    intro W1 hW'
    obtain ⟨⟨dq, osq⟩, hW⟩ := hW'
    have HW1 := hid (show Below wA.heap.size wA W1 by rw [hW]; exact below_regrown _ _ _)
    clear hW
    clear y0 y1 u0 u1 a0 a1 rf sf
    go_wp2
    go_ret
    refine ⟨?_, HBL.out.trans (HW1.out.mono HBL.out.size)⟩
    rw [HE.out]
    show _ = Ending.returned (.bool ((px == PX && py == PY) || (px == QX && py == QY)))
    rw [HF.out]
    rfl
  | false =>
    have rf := fun x y => ite2_no f (α := Result Next) x y
    have sf := fun x y => ite2_no f (α := Prop) x y
    have HF := hid f
    cases g : (px == QX && py == QY) with
    | true =>
      have rg := fun x y => ite2_yes g (α := Result Next) x y
      have sg := fun x y => ite2_yes g (α := Prop) x y
      have HG := hid g
      go_enter Try.func30, Try.ntmps30
      go_wp2
      refine wp_region_quiet_below (by kernel_rfl) (by kernel_rfl) ?_
      repeat (go_big_quiet_step (fail))
      refine wpQuiet_nil ?_
      intro W1 hW'
      obtain ⟨⟨dq, osq⟩, hW⟩ := hW'
      have HW1 := hid (show Below wA.heap.size wA W1 by rw [hW]; exact below_regrown _ _ _)
      clear hW
      clear y0 y1 u0 u1 a0 a1 rf sf rg sg
      go_wp2
      go_ret
      refine ⟨?_, HBL.out.trans (HW1.out.mono HBL.out.size)⟩
      rw [HE.out]
      show _ = Ending.returned (.bool ((px == PX && py == PY) || (px == QX && py == QY)))
      rw [HF.out, HG.out]
      rfl
    | false =>
      have rg := fun x y => ite2_no g (α := Result Next) x y
      have sg := fun x y => ite2_no g (α := Prop) x y
      have HG := hid g
      go_enter Try.func30, Try.ntmps30
      go_wp2
      refine wp_region_quiet_below (by kernel_rfl) (by kernel_rfl) ?_
      repeat (go_big_quiet_step (fail))
      refine wpQuiet_nil ?_
      intro W1 hW'
      obtain ⟨⟨dq, osq⟩, hW⟩ := hW'
      have HW1 := hid (show Below wA.heap.size wA W1 by rw [hW]; exact below_regrown _ _ _)
      clear hW
      clear y0 y1 u0 u1 a0 a1 rf sf rg sg
      go_wp2
      go_ret
      refine ⟨?_, HBL.out.trans (HW1.out.mono HBL.out.size)⟩
      rw [HE.out]
      show _ = Ending.returned (.bool ((px == PX && py == PY) || (px == QX && py == QY)))
      rw [HF.out, HG.out]
      rfl
end Go.Proofs.Ytjokpahlpkoopaa
