/-
  Layer 12: points of the grid; the document's Same, Reverse, Closed, At.
-/
import Derived.Test.YtlnjjkgjknheiaaLPlain
import Derived.Test.YtlnjjkgjknheiaaEHeld
import Derived.Test.YtlnjjkgjknheiaaMD
namespace Go.Proofs.Ytlnjjkgjknheiaa
open Go.RowKit Go.Sort

theorem PtRow.nil (w : World) (base : Nat) : PtRow w base (.slice none 0 0) [] := ⟨rfl, .inl ⟨rfl, rfl⟩⟩
theorem PtRow.toPts {w : World} {base : Nat} {v : Value} {ps : List Pp} (h : PtRow w base v ps) : Pts w v ps := by
  obtain ⟨ao, cap, rfl⟩ := h.form
  refine ⟨ao, cap, rfl, fun h1 => ?_⟩
  obtain ⟨g, rfl, _⟩ := h.at (k := 0) (p := ps[0]) (by simp)
  refine ⟨g, 0, rfl, fun k p hk => ?_⟩
  obtain ⟨g', e, c0, c1⟩ := h.at hk
  cases e
  rw [Nat.zero_add]
  exact ⟨c0, c1⟩
/-- A slice of points that may be told on: nil, or at an address. -/
def Src (w : World) (v : Value) (ps : List Pp) : Prop :=
  (v = .slice none 0 0 ∧ ps = []) ∨ ∃ b off cap, v = .slice (some ⟨b, off, none⟩) ps.length cap ∧ ps.length ≤ cap ∧ ∀ k p, ps[k]? = some p → w.cell? ⟨b, off + k * 2, none⟩ = some (.int .i64 p.1) ∧ w.cell? ⟨b, off + k * 2 + 1, none⟩ = some (.int .i64 p.2)
theorem Src.pts {w : World} {v : Value} {ps : List Pp} (h : Src w v ps) : Pts w v ps := by
  rcases h with ⟨rfl, rfl⟩ | ⟨b, off, cap, rfl, _, hc⟩
  · exact ⟨none, 0, rfl, fun h => absurd h (by simp)⟩
  · exact ⟨_, cap, rfl, fun _ => ⟨b, off, rfl, hc⟩⟩
theorem Src.below {w w' : World} {v : Value} {ps : List Pp} (h : Src w v ps) (hb : Below w.heap.size w w') : Src w' v ps := by
  rcases h with h | ⟨b, off, cap, rfl, h1, hc⟩
  · exact .inl h
  · refine .inr ⟨b, off, cap, rfl, h1, fun k p hk => ?_⟩
    obtain ⟨z0, z1⟩ := hc k p hk
    have hbb : b < w.heap.size := World.block_lt_of_cell? w _ z0
    exact ⟨(hb.cell (p := ⟨b, off + k * 2, none⟩) hbb).trans z0, (hb.cell (p := ⟨b, off + k * 2 + 1, none⟩) hbb).trans z1⟩
theorem PtRow.src {w : World} {base : Nat} {v : Value} {ps : List Pp} (h : PtRow w base v ps) : Src w v ps := by
  rcases h.2 with ⟨rfl, h0⟩ | ⟨g, cap, cur, rfl, _, _, h1, _⟩
  · exact .inl ⟨rfl, List.length_eq_zero_iff.1 h0⟩
  · refine .inr ⟨g, 0, cap, rfl, h1, fun k p hk => ?_⟩
    obtain ⟨g', e, c0, c1⟩ := h.at hk
    cases e
    rw [Nat.zero_add]
    exact ⟨c0, c1⟩
theorem PtRow.set2 {w : World} {base b : Nat} {v : Value} {ps : List Pp} (h : PtRow w base v ps) (hb : b < base) (x y : Value) : PtRow ((w.setCell ⟨b, 0, none⟩ x).setCell ⟨b, 1, none⟩ y) base v ps := by
  refine ⟨h.1, ?_⟩
  rcases h.2 with h0 | ⟨g, cap, cur, h1, h2, h3, h4⟩
  · exact .inl h0
  · refine .inr ⟨g, cap, cur, h1, h2, ?_, h4⟩
    rw [Below.heap_setCell _ _ _ _ (show g ≠ b by omega), Below.heap_setCell _ _ _ _ (show g ≠ b by omega)]
    exact h3
theorem take_snoc {α : Type} {l : List α} {k : Nat} {p : α} (h : l[k]? = some p) : l.take (k + 1) = l.take k ++ [p] := by
  rw [List.take_add_one, h]
  rfl























































































































































set_option maxHeartbeats 1600000 in
theorem refReverse_any (v : Value) (ps : List Pp) (w : World) (hp : Pts w v ps) (hl : ps.length ≤ 100000) :
    Calls Try.prog 9 #[v] w fun e w' => (∃ u, e = .returned u ∧ Src w' u ps.reverse) ∧ Below w.heap.size w w' := by
  obtain ⟨a, cap, rfl, hx⟩ := hp
  have HX := hid hx
  obtain ⟨n, hn⟩ : ∃ n, ps.length = n := ⟨_, rfl⟩
  have HN := hid hn
  rw [hn] at hl ⊢
  clear hx hn
  go_enter Try.func9, Try.ntmps9
  go_wp2
  go_loopw [3, 4] (fun ov iv wr => ∃ (k m : Nat) (ao : Option Addr) (ca : Nat), k + m = n ∧ iv = .int .i64 ((k : Int) - 1) ∧ ov = .slice ao m ca ∧ PtRow wr w.heap.size (.slice ao m ca) (ps.reverse.take m) ∧ Below w.heap.size w wr) (fun _ iv _ => (intOf iv + 1).toNat)
  case atStart => exact ⟨n, 0, none, 0, by omega, rfl, rfl, PtRow.nil _ _, Below.refl _ _⟩
  case round =>
    obtain ⟨k, m, ao, ca, hk, rfl, rfl, hrow, hbr⟩ := hrel
    have HROW := hid hrow
    have HBR := hid hbr
    match k, hk with
    | k + 1, hk =>
      have e1 : ((k + 1 : Nat) : Int) - 1 = (k : Int) := by omega
      rw [e1]
      have hkn : k < n := by omega
      have hkI : (k : Int) < (n : Int) := by omega
      have hk0 : (0 : Int) ≤ (k : Int) := by omega
      have hkp : k < ps.length := by have := HN.out; omega
      obtain ⟨b, off, rfl, hc⟩ := HX.out (by omega)
      have HP := hid (show ps[k]? = some ps[k] by simp [hkp])
      obtain ⟨z0, z1⟩ := hc k ps[k] HP.out
      have hbb : b < w.heap.size := World.block_lt_of_cell? w _ z0
      have y0 := (hbr.cell (p := ⟨b, off + k * 2, none⟩) hbb).trans z0
      have y1 := (hbr.cell (p := ⟨b, off + k * 2 + 1, none⟩) hbb).trans z1
      generalize ps[k] = P at *
      obtain ⟨px, py⟩ := P
      dsimp only at y0 y1
      have HT := hid (show ps.reverse.take (m + 1) = ps.reverse.take m ++ [(px, py)] from take_snoc (by rw [List.getElem?_reverse (by rw [HN.out]; omega), HN.out, show n - 1 - m = k by omega]; exact HP.out))
      have HLN := hid (show (ps.reverse.take m).length = m by rw [List.length_take, List.length_reverse, HN.out]; omega)
      obtain ⟨ao', ca', wS, hrun, hrow', hbs⟩ := hrow.snoc hbr.size (by rw [HLN.out]; omega) (px, py)
      rw [HLN.out] at hrun hrow'
      have HRUN := hid hrun
      have HROW' := hid hrow'
      have HBS := hid (show Below w.heap.size w wS from hbr.trans hbs)
      clear z0 z1 hc hbr hrow HX hrun hrow' hbs e1
      go_wp2_with (at_builtin; refine wpList_append_run rfl (.tmp 12) (.tmp 17) 25 rfl rfl rfl HRUN.out ?_)
      go_roundw
      case rel => exact ⟨k, m + 1, ao', ca', by omega, rfl, rfl, by rw [HT.out]; exact HROW'.out, HBS.out⟩
      case measure => simp [intOf]
    | 0, hk =>
      obtain rfl : m = n := by omega
      clear hbr hrow
      go_wp2
      go_ret
      refine ⟨⟨_, rfl, ?_⟩, HBR.out⟩
      have := HROW.out.src
      rwa [List.take_of_length_le (by rw [List.length_reverse, HN.out]; exact Nat.le_refl _)] at this

end Go.Proofs.Ytlnjjkgjknheiaa

namespace Go.Proofs.Ytlnjjkgjknheiaa
open Go.RowKit Go.Sort

/-- The cells of a slice of points, in a world that has grown out of its own. -/
theorem Pts.row {w : World} {ao : Option Addr} {n cap : Nat} {ps : List Pp} (h : Pts w (.slice ao n cap) ps) (hn : 1 ≤ ps.length) : ∃ b off, ao = some ⟨b, off, none⟩ ∧ ∀ i, i < ps.length → w.cell? ⟨b, off + i * 2, none⟩ = some (.int .i64 (lpt ps i).1) ∧ w.cell? ⟨b, off + i * 2 + 1, none⟩ = some (.int .i64 (lpt ps i).2) := by
  obtain ⟨a, cap', e, hx⟩ := h
  injection e with e1 e2 e3
  subst e1
  obtain ⟨b, off, rfl, hc⟩ := hx hn
  exact ⟨b, off, rfl, fun i hi => hc i _ (at_lpt hi)⟩


set_option maxHeartbeats 1600000 in
theorem refClosed_any (v : Value) (ps : List Pp) (w : World) (hp : Pts w v ps) (hl : ps.length ≤ 100000) :
    Calls Try.prog 33 #[v] w fun e w' => e = .returned (.bool (closedL ps)) ∧ Below w.heap.size w w' := by
  have hp' := hp
  obtain ⟨a, cap, rfl, _⟩ := hp'
  obtain ⟨n, hn⟩ : ∃ n, ps.length = n := ⟨_, rfl⟩
  have HN := hid hn
  rw [hn] at hl hp ⊢
  by_cases h3 : 3 ≤ n
  · have h3I : (3 : Int) ≤ (n : Int) := by omega
    obtain ⟨b, off, rfl, hc⟩ := hp.row (by omega)
    obtain ⟨z0, z1⟩ := hc 0 (by omega)
    obtain ⟨x0, x1⟩ := hc (n - 1) (by omega)
    have HCL : Hid (closedL ps = eqp (clP (lpt ps 0)) (clP (lpt ps (n - 1)))) := hid (by unfold closedL; rw [HN.out, decide_eq_true h3]; rfl)
    generalize lpt ps 0 = P at *
    generalize lpt ps (n - 1) = Q at *
    obtain ⟨px, py⟩ := P
    obtain ⟨qx, qy⟩ := Q
    rw [show (0 : Nat) * 2 = 0 from rfl, Nat.add_zero] at z0 z1
    obtain ⟨m, rfl⟩ : ∃ m, n = m + 1 := ⟨n - 1, by omega⟩
    rw [Nat.add_sub_cancel] at x0 x1
    have hm : ((m : Int) + 1 - 1) = (m : Int) := by omega
    have g1 : decide ((3 : Int) ≤ (m : Int) + 1) = true := decide_eq_true (by omega)
    have g2 : decide (3 ≤ m + 1) = true := decide_eq_true (by omega)
    dsimp only at z0 z1 x0 x1
    have y0 := cell_regrown z0; have y1 := cell_regrown z1; have u0 := cell_regrown x0; have u1 := cell_regrown x1
    have c1 := fun d os => refClean_any px py (grow (redrawn w d) os)
    have c2 := fun d os => refClean_any qx qy (grow (redrawn w d) os)
    unfold clP at HCL
    dsimp only at HCL
    generalize near px = PX at *
    generalize near py = PY at *
    generalize near qx = QX at *
    generalize near qy = QY at *
    clear z0 z1 x0 x1 hc hp hn
    cases f : (PX == QX && PY == QY) with
    | true =>
      have rf := fun x y => ite2_yes f (α := Result Next) x y
      have sf := fun x y => ite2_yes f (α := Prop) x y
      have HF := hid f
      go_enter Try.func33, Try.ntmps33
      go_wp2
      refine wp_region_quiet_below (by kernel_rfl) (by kernel_rfl) ?_
      go_big_quiet_step (fail)
      go_big_quiet_step (fail)
      go_big_quiet_step (fail)
      go_big_quiet_step (fail)
      go_big_quiet_step (fail)
      go_big_quiet_step (fail)
      go_big_quiet_step (fail)
      go_big_quiet_step (exact Calls.regrown_of (c1 _ _))
      go_big_quiet_step (fail)
      go_big_quiet_step (fail)
      go_big_quiet_step (fail)
      go_big_quiet_step (fail)
      go_big_quiet_step (fail)
      go_big_quiet_step (fail)
      go_big_quiet_step (exact Calls.regrown_of (c2 _ _))
      go_big_quiet_step (fail)
      go_big_quiet_step (fail)
      go_big_quiet_step (fail)
      refine wpQuiet_nil ?_
      intro W1 hW'
      obtain ⟨⟨dq, osq⟩, hW⟩ := hW'
      have HW1 := hid (show Below w.heap.size w W1 by rw [hW]; exact below_regrown _ _ _)
      clear hW
      clear y0 y1 u0 u1 c1 c2 rf sf
      go_wp2
      go_ret
      refine ⟨?_, HW1.out⟩
      rw [HCL.out]
      show _ = Ending.returned (.bool (PX == QX && PY == QY))
      rw [HF.out]
      rfl
    | false =>
      have rf := fun x y => ite2_no f (α := Result Next) x y
      have sf := fun x y => ite2_no f (α := Prop) x y
      have HF := hid f
      go_enter Try.func33, Try.ntmps33
      go_wp2
      refine wp_region_quiet_below (by kernel_rfl) (by kernel_rfl) ?_
      go_big_quiet_step (fail)
      go_big_quiet_step (fail)
      go_big_quiet_step (fail)
      go_big_quiet_step (fail)
      go_big_quiet_step (fail)
      go_big_quiet_step (fail)
      go_big_quiet_step (fail)
      go_big_quiet_step (exact Calls.regrown_of (c1 _ _))
      go_big_quiet_step (fail)
      go_big_quiet_step (fail)
      go_big_quiet_step (fail)
      go_big_quiet_step (fail)
      go_big_quiet_step (fail)
      go_big_quiet_step (fail)
      go_big_quiet_step (exact Calls.regrown_of (c2 _ _))
      go_big_quiet_step (fail)
      go_big_quiet_step (fail)
      go_big_quiet_step (fail)
      refine wpQuiet_nil ?_
      intro W1 hW'
      obtain ⟨⟨dq, osq⟩, hW⟩ := hW'
      have HW1 := hid (show Below w.heap.size w W1 by rw [hW]; exact below_regrown _ _ _)
      clear hW
      clear y0 y1 u0 u1 c1 c2 rf sf
      go_wp2
      go_ret
      refine ⟨?_, HW1.out⟩
      rw [HCL.out]
      show _ = Ending.returned (.bool (PX == QX && PY == QY))
      rw [HF.out]
      rfl
  · have h3I : ¬ (3 : Int) ≤ (n : Int) := by omega
    have g1 : decide ((3 : Int) ≤ (n : Int)) = false := decide_eq_false (by omega)
    have g2 : decide (3 ≤ n) = false := decide_eq_false h3
    have HCL : Hid (closedL ps = false) := hid (by unfold closedL; rw [HN.out, decide_eq_false h3]; rfl)
    clear hp hn
    go_enter Try.func33, Try.ntmps33
    go_wp2
    refine wp_region_quiet_below (by kernel_rfl) (by kernel_rfl) ?_
    go_big_quiet_step (fail)
    go_big_quiet_step (fail)
    go_big_quiet_step (fail)
    go_big_quiet_step (fail)
    repeat (go_big_quiet_step (fail))
    refine wpQuiet_nil ?_
    intro W1 hW'
    obtain ⟨⟨dq, osq⟩, hW⟩ := hW'
    have HW1 := hid (show Below w.heap.size w W1 by rw [hW]; exact below_regrown _ _ _)
    clear hW
    go_wp2
    go_ret
    exact ⟨by rw [HCL.out]; rfl, HW1.out⟩


/-- The first segment that has a point, by the segments that have it not. -/
theorem atL_none {ps : List Pp} {p : Pp} (h : ∀ i, i < ps.length - 1 → onL ps p i = false) : atL ps p = none := by
  unfold atL
  rw [List.find?_eq_none]
  intro i hi
  rw [h i (List.mem_range.1 hi)]
  decide
theorem atL_some {ps : List Pp} {p : Pp} {k : Nat} (hk : k < ps.length - 1) (h : onL ps p k = true) (h0 : ∀ i, i < k → onL ps p i = false) : atL ps p = some k := by
  unfold atL
  rw [List.find?_eq_some_iff_getElem]
  refine ⟨h, k, by simpa using hk, by simp, fun j hj => ?_⟩
  simp only [List.getElem_range, h0 j hj, Bool.not_false]
def atI (o : Option Nat) : Int := match o with | none => -1 | some k => (k : Int)






































































































end Go.Proofs.Ytlnjjkgjknheiaa
