/-
  Layer 12: points of the grid; the document's Same, Reverse, Closed, At.
-/
import Derived.Test.YtepnjknblppfcaaLPlain
import Derived.Test.YtepnjknblppfcaaEHeld
import Derived.Test.YtepnjknblppfcaaMA
namespace Go.Proofs.Ytepnjknblppfcaa
open Go.RowKit Go.Sort

theorem PtRow.nil (w : World) (base : Nat) : PtRow w base (.slice none 0 0) [] := ⟨rfl, .inl ⟨rfl, rfl⟩⟩
theorem PtRow.toPts {w : World} {base : Nat} {v : Value} {ps : List Pp} (h : PtRow w base v ps) : Pts w v ps := by
  obtain ⟨ao, cap, rfl⟩ := h.form
  refine ⟨ao, cap, rfl, fun h1 => ?_⟩
  obtain ⟨g, rfl, _⟩ := h.at (k := 0) (p := ps[0]) (by simp)
  refine ⟨g, 0, rfl, fun k p hk => ?_⟩
  obtain ⟨g', e, c0, c1⟩ := h.at hk
  cases e
  rw [Nat.zero_add]
  exact ⟨c0, c1⟩
/-- A slice of points that may be told on: nil, or at an address. -/
def Src (w : World) (v : Value) (ps : List Pp) : Prop :=
  (v = .slice none 0 0 ∧ ps = []) ∨ ∃ b off cap, v = .slice (some ⟨b, off, none⟩) ps.length cap ∧ ps.length ≤ cap ∧ ∀ k p, ps[k]? = some p → w.cell? ⟨b, off + k * 2, none⟩ = some (.int .i64 p.1) ∧ w.cell? ⟨b, off + k * 2 + 1, none⟩ = some (.int .i64 p.2)
theorem Src.pts {w : World} {v : Value} {ps : List Pp} (h : Src w v ps) : Pts w v ps := by
  rcases h with ⟨rfl, rfl⟩ | ⟨b, off, cap, rfl, _, hc⟩
  · exact ⟨none, 0, rfl, fun h => absurd h (by simp)⟩
  · exact ⟨_, cap, rfl, fun _ => ⟨b, off, rfl, hc⟩⟩
theorem Src.below {w w' : World} {v : Value} {ps : List Pp} (h : Src w v ps) (hb : Below w.heap.size w w') : Src w' v ps := by
  rcases h with h | ⟨b, off, cap, rfl, h1, hc⟩
  · exact .inl h
  · refine .inr ⟨b, off, cap, rfl, h1, fun k p hk => ?_⟩
    obtain ⟨z0, z1⟩ := hc k p hk
    have hbb : b < w.heap.size := World.block_lt_of_cell? w _ z0
    exact ⟨(hb.cell (p := ⟨b, off + k * 2, none⟩) hbb).trans z0, (hb.cell (p := ⟨b, off + k * 2 + 1, none⟩) hbb).trans z1⟩
theorem PtRow.src {w : World} {base : Nat} {v : Value} {ps : List Pp} (h : PtRow w base v ps) : Src w v ps := by
  rcases h.2 with ⟨rfl, h0⟩ | ⟨g, cap, cur, rfl, _, _, h1, _⟩
  · exact .inl ⟨rfl, List.length_eq_zero_iff.1 h0⟩
  · refine .inr ⟨g, 0, cap, rfl, h1, fun k p hk => ?_⟩
    obtain ⟨g', e, c0, c1⟩ := h.at hk
    cases e
    rw [Nat.zero_add]
    exact ⟨c0, c1⟩
theorem PtRow.set2 {w : World} {base b : Nat} {v : Value} {ps : List Pp} (h : PtRow w base v ps) (hb : b < base) (x y : Value) : PtRow ((w.setCell ⟨b, 0, none⟩ x).setCell ⟨b, 1, none⟩ y) base v ps := by
  refine ⟨h.1, ?_⟩
  rcases h.2 with h0 | ⟨g, cap, cur, h1, h2, h3, h4⟩
  · exact .inl h0
  · refine .inr ⟨g, cap, cur, h1, h2, ?_, h4⟩
    rw [Below.heap_setCell _ _ _ _ (show g ≠ b by omega), Below.heap_setCell _ _ _ _ (show g ≠ b by omega)]
    exact h3
theorem take_snoc {α : Type} {l : List α} {k : Nat} {p : α} (h : l[k]? = some p) : l.take (k + 1) = l.take k ++ [p] := by
  rw [List.take_add_one, h]
  rfl


set_option maxHeartbeats 1600000 in
theorem gridRow_any (v : Value) (ps : List Pp) (w : World) (hp : Pts w v ps) (hl : ps.length ≤ 100000) :
    Calls Try.prog 11 #[v] w fun e w' => (∃ u, e = .returned u ∧ PtRow w' w.heap.size u (ps.map clP)) ∧ Below w.heap.size w w' := by
  obtain ⟨a, cap, rfl, hx⟩ := hp
  have HX := hid hx
  obtain ⟨n, hn⟩ : ∃ n, ps.length = n := ⟨_, rfl⟩
  have HN := hid hn
  rw [hn] at hl ⊢
  clear hx hn
  go_enter Try.func11, Try.ntmps11
  go_wp2
  go_loopw [3, 4] (fun ov iv wr => ∃ (k : Nat) (ao : Option Addr) (ca : Nat), k ≤ n ∧ iv = .int .i64 k ∧ ov = .slice ao k ca ∧ PtRow wr w.heap.size (.slice ao k ca) ((ps.take k).map clP) ∧ Below w.heap.size w wr) (fun _ iv _ => n - (intOf iv).toNat)
  case atStart => exact ⟨0, none, 0, by omega, rfl, rfl, PtRow.nil _ _, Below.refl _ _⟩
  case round =>
    obtain ⟨k, ao, ca, hk, rfl, rfl, hrow, hbr⟩ := hrel
    have HROW := hid hrow
    have HBR := hid hbr
    by_cases hlt : k < n
    · have hkI : (k : Int) < (n : Int) := by omega
      have hkp : k < ps.length := by have := HN.out; omega
      obtain ⟨b, off, rfl, hc⟩ := HX.out (by omega)
      have HP := hid (show ps[k]? = some ps[k] by simp [hkp])
      obtain ⟨z0, z1⟩ := hc k ps[k] HP.out
      have hbb : b < w.heap.size := World.block_lt_of_cell? w _ z0
      have y0 := (hbr.cell (p := ⟨b, off + k * 2, none⟩) hbb).trans z0
      have y1 := (hbr.cell (p := ⟨b, off + k * 2 + 1, none⟩) hbb).trans z1
      generalize ps[k] = P at *
      obtain ⟨px, py⟩ := P
      dsimp only at y0 y1
      have HT := hid (show (ps.take (k + 1)).map clP = (ps.take k).map clP ++ [(near px, near py)] by rw [take_snoc HP.out, List.map_append]; rfl)
      have HLN := hid (show ((ps.take k).map clP).length = k by rw [List.length_map, List.length_take]; omega)
      have HC := hid (fun W => refClean_any px py W)
      generalize near px = NX at *
      generalize near py = NY at *
      clear z0 z1 hc hbr hrow HX
      go_wp2_with (first
        | (go_at_call 23; refine (HC.out _).mono ?_; rintro e w1 ⟨rfl, hb1⟩; obtain ⟨ao', ca', wS, hrun, hrow', hbs⟩ := (HROW.out.below hb1).snoc (HBR.out.trans (hb1.mono HBR.out.size)).size (by rw [HLN.out]; omega) (NX, NY); rw [HLN.out] at hrun hrow'; have HRUN := hid hrun; have HROW' := hid hrow'; have HBS := hid (show Below w.heap.size w wS from (HBR.out.trans (hb1.mono HBR.out.size)).trans hbs); clear hrun hrow' hbs hb1)
        | (at_builtin; refine wpList_append_run rfl (.tmp 11) (.tmp 17) 22 rfl rfl rfl HRUN.out ?_))
      go_roundw
      case rel => exact ⟨k + 1, ao', ca', by omega, by go_num, rfl, by rw [HT.out]; exact HROW'.out, HBS.out⟩
      case measure => simp [intOf]; omega
    · have hkI : ¬ (k : Int) < (n : Int) := by omega
      obtain rfl : k = n := by omega
      clear hbr hrow
      go_wp2
      go_ret
      refine ⟨⟨_, rfl, ?_⟩, HBR.out⟩
      have := HROW.out
      rwa [List.take_of_length_le (by rw [HN.out]; exact Nat.le_refl _)] at this
theorem grid_any (v : Value) (ps : List Pp) (w : World) (hp : Pts w v ps) (hl : ps.length ≤ 100000) :
    Calls Try.prog 11 #[v] w fun e w' => (∃ u, e = .returned u ∧ Src w' u (ps.map clP)) ∧ Below w.heap.size w w' :=
  (gridRow_any v ps w hp hl).mono fun _e _w' ⟨⟨u, he, hu⟩, hb⟩ => ⟨⟨u, he, hu.src⟩, hb⟩



theorem same_take {a b : List Pp} {k : Nat} {p q : Pp} (h0 : a.take k = b.take k) (ha : a[k]? = some p) (hb : b[k]? = some q) (h : p = q) : a.take (k + 1) = b.take (k + 1) := by
  rw [take_snoc ha, take_snoc hb, h0, h]
set_option maxHeartbeats 1600000 in
theorem refSame_any (u v : Value) (ps qs : List Pp) (w : World) (hp : Pts w u ps) (hq : Pts w v qs) (hl : ps.length ≤ 100000) :
    Calls Try.prog 13 #[u, v] w fun e w' => e = .returned (.bool (decide (ps = qs))) ∧ Below w.heap.size w w' := by
  obtain ⟨a, ca, rfl, hx⟩ := hp
  obtain ⟨b, cb, rfl, hy⟩ := hq
  have HX := hid hx
  have HY := hid hy
  obtain ⟨n, hn⟩ : ∃ n, ps.length = n := ⟨_, rfl⟩
  obtain ⟨m, hm⟩ : ∃ m, qs.length = m := ⟨_, rfl⟩
  have HN := hid hn
  have HM := hid hm
  rw [hn] at hl ⊢
  rw [hm]
  clear hx hy hn hm
  by_cases hnm : n = m
  · subst hnm
    go_enter Try.func13, Try.ntmps13
    go_wp2
    go_loopw [5] (fun iv wr => ∃ k : Nat, k ≤ n ∧ iv = .int .i64 k ∧ ps.take k = qs.take k ∧ Below w.heap.size w wr) (fun iv _ => n - (intOf iv).toNat)
    case atStart => exact ⟨0, by omega, rfl, rfl, Below.refl _ _⟩
    case round =>
      obtain ⟨k, hk, rfl, hsame, hbr⟩ := hrel
      have HBR := hid hbr
      have HSM := hid hsame
      clear hsame
      by_cases hlt : k < n
      · have hkI : (k : Int) < (n : Int) := by omega
        obtain ⟨b1, o1, rfl, hc⟩ := HX.out (by rw [HN.out]; omega)
        obtain ⟨b2, o2, rfl, hd⟩ := HY.out (by rw [HM.out]; omega)
        obtain ⟨⟨px, py⟩, hP⟩ : ∃ p, ps[k]? = some p := ⟨_, List.getElem?_eq_getElem (by rw [HN.out]; exact hlt)⟩
        obtain ⟨⟨qx, qy⟩, hQ⟩ : ∃ p, qs[k]? = some p := ⟨_, List.getElem?_eq_getElem (by rw [HM.out]; exact hlt)⟩
        obtain ⟨z0, z1⟩ := hc k _ hP
        obtain ⟨x0, x1⟩ := hd k _ hQ
        have h1 : b1 < w.heap.size := World.block_lt_of_cell? w _ z0
        have h2 : b2 < w.heap.size := World.block_lt_of_cell? w _ x0
        have y0 := (hbr.cell (p := ⟨b1, o1 + k * 2, none⟩) h1).trans z0
        have y1 := (hbr.cell (p := ⟨b1, o1 + k * 2 + 1, none⟩) h1).trans z1
        have v0 := (hbr.cell (p := ⟨b2, o2 + k * 2, none⟩) h2).trans x0
        have v1 := (hbr.cell (p := ⟨b2, o2 + k * 2 + 1, none⟩) h2).trans x1
        dsimp only at y0 y1 v0 v1
        have HP := hid hP
        have HQ := hid hQ
        clear hc hd z0 z1 x0 x1 hbr HX HY hP hQ
        by_cases he : px = qx
        · subst he
          by_cases he' : py = qy
          · subst he'
            go_wp2
            go_region
            all_goals
              go_wp2
              go_roundw
              case rel => exact ⟨k + 1, by omega, by go_num, same_take HSM.out HP.out HQ.out rfl, HBR.out.drew⟩
              case measure => simp [intOf]; omega
          · have HE := hid he'
            go_wp2
            go_region
            all_goals
              go_wp2
              go_ret
              refine ⟨?_, HBR.out.drew⟩
              rw [decide_eq_false (fun e => by have h := HP.out; rw [e, HQ.out] at h; simp only [Option.some.injEq, Prod.mk.injEq] at h; exact HE.out h.2.symm)]
              rfl
        · have HE := hid he
          go_wp2
          go_region
          all_goals
            go_wp2
            go_ret
            refine ⟨?_, HBR.out.drew⟩
            rw [decide_eq_false (fun e => by have h := HP.out; rw [e, HQ.out] at h; simp only [Option.some.injEq, Prod.mk.injEq] at h; exact HE.out h.1.symm)]
            rfl
      · have hkI : ¬ (k : Int) < (n : Int) := by omega
        obtain rfl : k = n := by omega
        clear hbr
        go_wp2
        go_ret
        refine ⟨?_, HBR.out⟩
        have h := HSM.out
        rw [List.take_of_length_le (by rw [HN.out]; exact Nat.le_refl _), List.take_of_length_le (by rw [HM.out]; exact Nat.le_refl _)] at h
        rw [decide_eq_true h]
        rfl
  · have hnB : ((n : Int) != (m : Int)) = true := by simpa using fun h => hnm (by omega)
    go_enter Try.func13, Try.ntmps13
    go_wp2
    go_ret
    refine ⟨?_, Below.refl _ _⟩
    rw [decide_eq_false (fun e => hnm (by rw [← HN.out, ← HM.out, e]))]
    rfl


























































end Go.Proofs.Ytepnjknblppfcaa

namespace Go.Proofs.Ytepnjknblppfcaa
open Go.RowKit Go.Sort

/-- The cells of a slice of points, in a world that has grown out of its own. -/
theorem Pts.row {w : World} {ao : Option Addr} {n cap : Nat} {ps : List Pp} (h : Pts w (.slice ao n cap) ps) (hn : 1 ≤ ps.length) : ∃ b off, ao = some ⟨b, off, none⟩ ∧ ∀ i, i < ps.length → w.cell? ⟨b, off + i * 2, none⟩ = some (.int .i64 (lpt ps i).1) ∧ w.cell? ⟨b, off + i * 2 + 1, none⟩ = some (.int .i64 (lpt ps i).2) := by
  obtain ⟨a, cap', e, hx⟩ := h
  injection e with e1 e2 e3
  subst e1
  obtain ⟨b, off, rfl, hc⟩ := hx hn
  exact ⟨b, off, rfl, fun i hi => hc i _ (at_lpt hi)⟩


set_option maxHeartbeats 1600000 in
theorem refClosed_any (v : Value) (ps : List Pp) (w : World) (hp : Pts w v ps) (hl : ps.length ≤ 100000) :
    Calls Try.prog 39 #[v] w fun e w' => e = .returned (.bool (closedL ps)) ∧ Below w.heap.size w w' := by
  have hp' := hp
  obtain ⟨a, cap, rfl, _⟩ := hp'
  obtain ⟨n, hn⟩ : ∃ n, ps.length = n := ⟨_, rfl⟩
  have HN := hid hn
  rw [hn] at hl hp ⊢
  by_cases h3 : 3 ≤ n
  · have h3I : (3 : Int) ≤ (n : Int) := by omega
    obtain ⟨b, off, rfl, hc⟩ := hp.row (by omega)
    obtain ⟨z0, z1⟩ := hc 0 (by omega)
    obtain ⟨x0, x1⟩ := hc (n - 1) (by omega)
    have HCL : Hid (closedL ps = eqp (clP (lpt ps 0)) (clP (lpt ps (n - 1)))) := hid (by unfold closedL; rw [HN.out, decide_eq_true h3]; rfl)
    generalize lpt ps 0 = P at *
    generalize lpt ps (n - 1) = Q at *
    obtain ⟨px, py⟩ := P
    obtain ⟨qx, qy⟩ := Q
    rw [show (0 : Nat) * 2 = 0 from rfl, Nat.add_zero] at z0 z1
    obtain ⟨m, rfl⟩ : ∃ m, n = m + 1 := ⟨n - 1, by omega⟩
    rw [Nat.add_sub_cancel] at x0 x1
    have hm : ((m : Int) + 1 - 1) = (m : Int) := by omega
    have g1 : decide ((3 : Int) ≤ (m : Int) + 1) = true := decide_eq_true (by omega)
    have g2 : decide (3 ≤ m + 1) = true := decide_eq_true (by omega)
    dsimp only at z0 z1 x0 x1
    have y0 := cell_regrown z0; have y1 := cell_regrown z1; have u0 := cell_regrown x0; have u1 := cell_regrown x1
    have c1 := fun d os => refClean_any px py (grow (redrawn w d) os)
    have c2 := fun d os => refClean_any qx qy (grow (redrawn w d) os)
    unfold clP at HCL
    dsimp only at HCL
    generalize near px = PX at *
    generalize near py = PY at *
    generalize near qx = QX at *
    generalize near qy = QY at *
    clear z0 z1 x0 x1 hc hp hn
    cases f : (PX == QX && PY == QY) with
    | true =>
      have rf := fun x y => ite2_yes f (α := Result Next) x y
      have sf := fun x y => ite2_yes f (α := Prop) x y
      have HF := hid f
      go_enter Try.func39, Try.ntmps39
      go_wp2
      refine wp_region_quiet_below (by kernel_rfl) (by kernel_rfl) ?_
      go_big_quiet_step (fail)
      go_big_quiet_step (fail)
      go_big_quiet_step (fail)
      go_big_quiet_step (fail)
      go_big_quiet_step (fail)
      go_big_quiet_step (fail)
      go_big_quiet_step (fail)
      go_big_quiet_step (exact Calls.regrown_of (c1 _ _))
      go_big_quiet_step (fail)
      go_big_quiet_step (fail)
      go_big_quiet_step (fail)
      go_big_quiet_step (fail)
      go_big_quiet_step (fail)
      go_big_quiet_step (fail)
      go_big_quiet_step (exact Calls.regrown_of (c2 _ _))
      go_big_quiet_step (fail)
      go_big_quiet_step (fail)
      go_big_quiet_step (fail)
      refine wpQuiet_nil ?_
      intro W1 hW'
      obtain ⟨⟨dq, osq⟩, hW⟩ := hW'
      have HW1 := hid (show Below w.heap.size w W1 by rw [hW]; exact below_regrown _ _ _)
      clear hW
      clear y0 y1 u0 u1 c1 c2 rf sf
      go_wp2
      go_ret
      refine ⟨?_, HW1.out⟩
      rw [HCL.out]
      show _ = Ending.returned (.bool (PX == QX && PY == QY))
      rw [HF.out]
      rfl
    | false =>
      have rf := fun x y => ite2_no f (α := Result Next) x y
      have sf := fun x y => ite2_no f (α := Prop) x y
      have HF := hid f
      go_enter Try.func39, Try.ntmps39
      go_wp2
      refine wp_region_quiet_below (by kernel_rfl) (by kernel_rfl) ?_
      go_big_quiet_step (fail)
      go_big_quiet_step (fail)
      go_big_quiet_step (fail)
      go_big_quiet_step (fail)
      go_big_quiet_step (fail)
      go_big_quiet_step (fail)
      go_big_quiet_step (fail)
      go_big_quiet_step (exact Calls.regrown_of (c1 _ _))
      go_big_quiet_step (fail)
      go_big_quiet_step (fail)
      go_big_quiet_step (fail)
      go_big_quiet_step (fail)
      go_big_quiet_step (fail)
      go_big_quiet_step (fail)
      go_big_quiet_step (exact Calls.regrown_of (c2 _ _))
      go_big_quiet_step (fail)
      go_big_quiet_step (fail)
      go_big_quiet_step (fail)
      refine wpQuiet_nil ?_
      intro W1 hW'
      obtain ⟨⟨dq, osq⟩, hW⟩ := hW'
      have HW1 := hid (show Below w.heap.size w W1 by rw [hW]; exact below_regrown _ _ _)
      clear hW
      clear y0 y1 u0 u1 c1 c2 rf sf
      go_wp2
      go_ret
      refine ⟨?_, HW1.out⟩
      rw [HCL.out]
      show _ = Ending.returned (.bool (PX == QX && PY == QY))
      rw [HF.out]
      rfl
  · have h3I : ¬ (3 : Int) ≤ (n : Int) := by omega
    have g1 : decide ((3 : Int) ≤ (n : Int)) = false := decide_eq_false (by omega)
    have g2 : decide (3 ≤ n) = false := decide_eq_false h3
    have HCL : Hid (closedL ps = false) := hid (by unfold closedL; rw [HN.out, decide_eq_false h3]; rfl)
    clear hp hn
    go_enter Try.func39, Try.ntmps39
    go_wp2
    refine wp_region_quiet_below (by kernel_rfl) (by kernel_rfl) ?_
    go_big_quiet_step (fail)
    go_big_quiet_step (fail)
    go_big_quiet_step (fail)
    go_big_quiet_step (fail)
    repeat (go_big_quiet_step (fail))
    refine wpQuiet_nil ?_
    intro W1 hW'
    obtain ⟨⟨dq, osq⟩, hW⟩ := hW'
    have HW1 := hid (show Below w.heap.size w W1 by rw [hW]; exact below_regrown _ _ _)
    clear hW
    go_wp2
    go_ret
    exact ⟨by rw [HCL.out]; rfl, HW1.out⟩


/-- The first segment that has a point, by the segments that have it not. -/
theorem atL_none {ps : List Pp} {p : Pp} (h : ∀ i, i < ps.length - 1 → onL ps p i = false) : atL ps p = none := by
  unfold atL
  rw [List.find?_eq_none]
  intro i hi
  rw [h i (List.mem_range.1 hi)]
  decide
theorem atL_some {ps : List Pp} {p : Pp} {k : Nat} (hk : k < ps.length - 1) (h : onL ps p k = true) (h0 : ∀ i, i < k → onL ps p i = false) : atL ps p = some k := by
  unfold atL
  rw [List.find?_eq_some_iff_getElem]
  refine ⟨h, k, by simpa using hk, by simp, fun j hj => ?_⟩
  simp only [List.getElem_range, h0 j hj, Bool.not_false]
def atI (o : Option Nat) : Int := match o with | none => -1 | some k => (k : Int)






































































































end Go.Proofs.Ytepnjknblppfcaa
