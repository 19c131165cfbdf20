/-
  Layer 12: the document's Split.
-/
import Derived.Test.YtjokpahlpkoopaaLJoin
import Derived.Deep.RegionHeld3
namespace Go.Proofs.Ytjokpahlpkoopaa
open Go.RowKit Go.Sort

/-- An append whose run is known, at a step of a region that draws its order. -/
theorem step_append_known {P : Program} {ops : Array Oper} {o : Oper} {a : Act} {ts : Array Value} {w w' : World} {K : Act → World → Prop} {Q : Exit → Act → World → Prop} {E : Prop} (hg : o.guard = none) (s x : Operand) (t : TypeId) (hop : o.op = Op.call { callee := Callee.builtin Builtin.append, args := #[s, x], argTypes := #[t, t] }) {v u v' : Value} (hs : a.eval s = v) (hx : a.eval x = u)
    (hrun : (Builtin.append_ #[t, t] o.type #[v, u]).run P w = .ok v' w') (hK : K (a.put o.dst v') w') : if Region.wanted o (yielded ops ts) = true then Oper.wp P o a w K Q else E := by
  have hw : Region.wanted o (yielded ops ts) = true := by simp [Region.wanted, hg]
  rw [if_pos hw]
  unfold Oper.wp
  rw [show (execOp a.eval o).run P w = .ok (.value v') w' by simp [execOp, hop, resolve, invoke, builtin, hs, hx, hrun, Result.andThen]]
  exact hK
theorem atL_lt {ps : List Pp} {p : Pp} {k : Nat} (h : atL ps p = some k) : k + 1 < ps.length := by
  have := List.mem_of_find?_eq_some h
  have := List.mem_range.1 this
  omega
theorem Src.new (w : World) (x y : Int) : Src (w.alloc (.cells #[.int .i64 x, .int .i64 y] 29)) (.slice (some ⟨w.heap.size, 0, none⟩) 1 1) [(x, y)] := by
  have h := Pt.new w x y
  refine .inr ⟨_, 0, 1, rfl, Nat.le_refl _, fun k p hk => ?_⟩
  match k, hk with
  | 0, hk =>
    simp only [List.getElem?_cons_zero, Option.some.injEq] at hk
    subst hk
    exact ⟨h.c0, h.c1⟩
  | k + 1, hk => simp at hk
theorem PtRow.lit1 (w : World) (x y : Int) : PtRow (w.alloc (.cells #[.int .i64 x, .int .i64 y] 29)) w.heap.size (.slice (some ⟨w.heap.size, 0, none⟩) 1 1) [(x, y)] :=
  World.ownsRow_lit (e := 29) (size := 2) w #[.int .i64 x, .int .i64 y] 1 (Nat.le_refl _) (by unfold maxLen; omega) rfl


set_option maxRecDepth 100000 in
set_option maxHeartbeats 8000000 in
theorem refSplit_any (u : Value) (ps : List Pp) (px py : Int) (w : World) (hs : Src w u ps) (hl : ps.length ≤ 1000) :
    Calls Try.prog 28 #[u, pv px py] w fun e w' => (∃ x y, e = .returned (.tuple #[x, y, .bool (splitL ps (px, py)).2]) ∧ Src w' x (splitL ps (px, py)).1.1 ∧ Src w' y (splitL ps (px, py)).1.2) ∧ Below w.heap.size w w' := by
  obtain ⟨ao, ca, hu, _⟩ := hs.pts
  subst hu
  obtain ⟨n, hn⟩ : ∃ n, ps.length = n := ⟨_, rfl⟩
  have HN := hid hn
  rw [hn] at hl hs ⊢
  have HS := hid hs
  obtain ⟨wP, hwP⟩ : ∃ wP, w.alloc (.cells #[.int .i64 px, .int .i64 py] 29) = wP := ⟨_, rfl⟩
  obtain ⟨hPp, hBP, hszP⟩ := box1 hwP
  have a0 := hPp.c0; have a1 := hPp.c1
  have HPp := hid hPp
  have HBP := hid hBP
  have HAT := hid (fun W hW => refAt_any (.slice ao n ca) ps px py W hW (by rw [HN.out]; omega))
  clear hs hn hPp hBP
  cases hat : atL ps (px, py) with
  | none =>
    have HATL := hid hat
    have HSP := hid (show splitL ps (px, py) = (([], []), false) by unfold splitL; rw [hat])
    rw [HSP.out]
    dsimp only
    have e0 : atI none = -1 := rfl
    clear hat
    go_enter Try.func28, Try.ntmps28
    go_wp2_with (go_at_call 27; refine (HAT.out _ (HS.out.pts.below HBP.out) ).mono ?_; rintro e w1 ⟨rfl, hb1⟩; rw [HATL.out]; have HB1 := hid (HBP.out.trans (hb1.mono HBP.out.size)); have HP1 := hid (HPp.out.below hb1 HPp.out.lt); clear hb1)
    refine wp_region_quiet_below (by kernel_rfl) (by kernel_rfl) ?_
    go_big_quiet_step (fail)
    go_big_quiet_step (fail)
    go_big_quiet_step (fail)
    repeat (go_big_quiet_step (fail))
    refine wpQuiet_nil ?_
    intro W2 hW'
    obtain ⟨⟨dq, osq⟩, hW⟩ := hW'
    have HW2 := hid (show Below w1.heap.size w1 W2 by rw [hW]; exact below_regrown _ _ _)
    clear hW
    go_wp2
    refine bodyPost_ret (v := .tuple #[.slice none 0 0, .slice none 0 0, .bool false]) (by simp [results, Try.results28, go_sem]) rfl ?_
    refine ⟨⟨_, _, rfl, ?_, ?_⟩, HB1.out.trans (HW2.out.mono HB1.out.size)⟩
    · exact .inl ⟨rfl, rfl⟩
    · exact .inl ⟨rfl, rfl⟩
  | some k =>
    have hk1 := atL_lt hat
    rw [HN.out] at hk1
    have HATL := hid hat
    have e0 : atI (some k) = (k : Int) := rfl
    obtain ⟨b, off, rfl, hcap⟩ := HS.out.at (by rw [HN.out]; omega)
    have hl0 := HS.out.pts.row (by rw [HN.out]; omega)
    obtain ⟨b', off', e1, hc⟩ := hl0
    obtain ⟨rfl, rfl⟩ : b = b' ∧ off = off' := by injection e1 with e1; injection e1 with e1 e2; exact ⟨e1, e2⟩
    clear e1
    obtain ⟨f0, f1⟩ := hc 0 (by rw [HN.out]; omega)
    obtain ⟨l0, l1⟩ := hc (n - 1) (by rw [HN.out]; omega)
    obtain ⟨m0, m1⟩ := hc (k + 1) (by rw [HN.out]; omega)
    have hbb : b < w.heap.size := World.block_lt_of_cell? w _ f0
    obtain ⟨⟨fx, fy⟩, hF⟩ : ∃ P, lpt ps 0 = P := ⟨_, rfl⟩
    obtain ⟨⟨lx, ly⟩, hL⟩ : ∃ P, lpt ps (n - 1) = P := ⟨_, rfl⟩
    obtain ⟨⟨mx, my⟩, hM⟩ : ∃ P, lpt ps (k + 1) = P := ⟨_, rfl⟩
    rw [hF] at f0 f1
    rw [hL] at l0 l1
    rw [hM] at m0 m1
    rw [show (0 : Nat) * 2 = 0 from rfl, Nat.add_zero] at f0 f1
    dsimp only at f0 f1 l0 l1 m0 m1
    have HEND : Hid (endL ps (px, py) = ((fx == px && fy == py) || (lx == px && ly == py))) := hid (by unfold endL; rw [HN.out, hF, hL]; rfl)
    have HSPL : Hid (splitL ps (px, py) = if endL ps (px, py) then (([], []), false) else ((ps.take (k + 1) ++ [(px, py)], if (mx, my) = (px, py) then ps.drop (k + 1) else (px, py) :: ps.drop (k + 1)), true)) := hid (by unfold splitL; rw [hat]; dsimp only; rw [hM])
    obtain ⟨m, rfl⟩ : ∃ m, n = m + 1 := ⟨n - 1, by omega⟩
    rw [Nat.add_sub_cancel] at l0 l1
    have hm1 : ((m : Int) + 1 - 1) = (m : Int) := by omega
    have hkm : (k : Int) + 1 < (m : Int) + 1 := by omega
    have gk : decide ((k : Int) < 0) = false := decide_eq_false (by omega)
    have gk' : ¬ (k : Int) < 0 := by omega
    have HF0 := hid (And.intro (And.intro f0 f1) (And.intro (And.intro l0 l1) (And.intro m0 m1)))
    clear hc hat hF hL hM f0 f1 l0 l1 m0 m1
    cases f : (fx == px && fy == py) with
    | true =>
      have rf := fun x y => ite2_yes f (α := Result Next) x y
      have sf := fun x y => ite2_yes f (α := Prop) x y
      have HSP := hid (show splitL ps (px, py) = (([], []), false) by rw [HSPL.out, HEND.out, f]; rfl)
      rw [HSP.out]
      dsimp only
      go_enter Try.func28, Try.ntmps28
      go_wp2_with (go_at_call 27; refine (HAT.out _ (HS.out.pts.below HBP.out) ).mono ?_; rintro e w1 ⟨rfl, hb1⟩; rw [HATL.out]; have HB1 := hid (HBP.out.trans (hb1.mono HBP.out.size)); have HP1 := hid (HPp.out.below hb1 HPp.out.lt); clear hb1)
      have x0 := cell_regrown ((HB1.out.cell (p := ⟨b, off, none⟩) hbb).trans HF0.out.1.1); have x1 := cell_regrown ((HB1.out.cell (p := ⟨b, off + 1, none⟩) hbb).trans HF0.out.1.2)
      have x2 := cell_regrown ((HB1.out.cell (p := ⟨b, off + m * 2, none⟩) hbb).trans HF0.out.2.1.1); have x3 := cell_regrown ((HB1.out.cell (p := ⟨b, off + m * 2 + 1, none⟩) hbb).trans HF0.out.2.1.2)
      have y0 := cell_regrown HP1.out.c0; have y1 := cell_regrown HP1.out.c1
      refine wp_region_quiet_below (by kernel_rfl) (by kernel_rfl) ?_
      go_big_quiet_step (fail)
      go_big_quiet_step (fail)
      go_big_quiet_step (fail)
      go_big_quiet_step (fail)
      go_big_quiet_step (fail)
      go_big_quiet_step (fail)
      go_big_quiet_step (fail)
      go_big_quiet_step (fail)
      go_big_quiet_step (fail)
      go_big_quiet_step (fail)
      go_big_quiet_step (fail)
      go_big_quiet_step (fail)
      go_big_quiet_step (fail)
      go_big_quiet_step (fail)
      go_big_quiet_step (fail)
      go_big_quiet_step (fail)
      go_big_quiet_step (fail)
      go_big_quiet_step (fail)
      go_big_quiet_step (fail)
      refine wpQuiet_nil ?_
      intro W2 hW'
      obtain ⟨⟨dq, osq⟩, hW⟩ := hW'
      have HW2 := hid (show Below w1.heap.size w1 W2 by rw [hW]; exact below_regrown _ _ _)
      clear hW
      clear x0 x1 x2 x3 y0 y1 rf sf
      go_wp2
      refine bodyPost_ret (v := .tuple #[.slice none 0 0, .slice none 0 0, .bool false]) (by simp [results, Try.results28, go_sem]) rfl ?_
      refine ⟨⟨_, _, rfl, ?_, ?_⟩, HB1.out.trans (HW2.out.mono HB1.out.size)⟩
      · exact .inl ⟨rfl, rfl⟩
      · exact .inl ⟨rfl, rfl⟩
    | false =>
      cases g : (lx == px && ly == py) with
      | true =>
        have rf := fun x y => ite2_no f (α := Result Next) x y
        have sf := fun x y => ite2_no f (α := Prop) x y
        have rg := fun x y => ite2_yes g (α := Result Next) x y
        have sg := fun x y => ite2_yes g (α := Prop) x y
        have HSP := hid (show splitL ps (px, py) = (([], []), false) by rw [HSPL.out, HEND.out, f, g]; rfl)
        rw [HSP.out]
        dsimp only
        go_enter Try.func28, Try.ntmps28
        go_wp2_with (go_at_call 27; refine (HAT.out _ (HS.out.pts.below HBP.out) ).mono ?_; rintro e w1 ⟨rfl, hb1⟩; rw [HATL.out]; have HB1 := hid (HBP.out.trans (hb1.mono HBP.out.size)); have HP1 := hid (HPp.out.below hb1 HPp.out.lt); clear hb1)
        have x0 := cell_regrown ((HB1.out.cell (p := ⟨b, off, none⟩) hbb).trans HF0.out.1.1); have x1 := cell_regrown ((HB1.out.cell (p := ⟨b, off + 1, none⟩) hbb).trans HF0.out.1.2)
        have x2 := cell_regrown ((HB1.out.cell (p := ⟨b, off + m * 2, none⟩) hbb).trans HF0.out.2.1.1); have x3 := cell_regrown ((HB1.out.cell (p := ⟨b, off + m * 2 + 1, none⟩) hbb).trans HF0.out.2.1.2)
        have y0 := cell_regrown HP1.out.c0; have y1 := cell_regrown HP1.out.c1
        refine wp_region_quiet_below (by kernel_rfl) (by kernel_rfl) ?_
        go_big_quiet_step (fail)
        go_big_quiet_step (fail)
        go_big_quiet_step (fail)
        go_big_quiet_step (fail)
        go_big_quiet_step (fail)
        go_big_quiet_step (fail)
        go_big_quiet_step (fail)
        go_big_quiet_step (fail)
        go_big_quiet_step (fail)
        go_big_quiet_step (fail)
        go_big_quiet_step (fail)
        go_big_quiet_step (fail)
        go_big_quiet_step (fail)
        go_big_quiet_step (fail)
        go_big_quiet_step (fail)
        go_big_quiet_step (fail)
        go_big_quiet_step (fail)
        go_big_quiet_step (fail)
        go_big_quiet_step (fail)
        refine wpQuiet_nil ?_
        intro W2 hW'
        obtain ⟨⟨dq, osq⟩, hW⟩ := hW'
        have HW2 := hid (show Below w1.heap.size w1 W2 by rw [hW]; exact below_regrown _ _ _)
        clear hW
        clear x0 x1 x2 x3 y0 y1 rf sf rg sg
        go_wp2
        refine bodyPost_ret (v := .tuple #[.slice none 0 0, .slice none 0 0, .bool false]) (by simp [results, Try.results28, go_sem]) rfl ?_
        refine ⟨⟨_, _, rfl, ?_, ?_⟩, HB1.out.trans (HW2.out.mono HB1.out.size)⟩
        · exact .inl ⟨rfl, rfl⟩
        · exact .inl ⟨rfl, rfl⟩
      | false =>
        have HE := hid (show endL ps (px, py) = false by rw [HEND.out, f, g]; rfl)
        cases h : (mx == px && my == py) with
        | true =>
          have rf := fun x y => ite2_no f (α := Result Next) x y
          have sf := fun x y => ite2_no f (α := Prop) x y
          have rg := fun x y => ite2_no g (α := Result Next) x y
          have sg := fun x y => ite2_no g (α := Prop) x y
          have rh := fun x y => ite2_yes h (α := Result Next) x y
          have sh := fun x y => ite2_yes h (α := Prop) x y
          have HSP := hid (show splitL ps (px, py) = ((ps.take (k + 1) ++ [(px, py)], ps.drop (k + 1)), true) by
            rw [HSPL.out, HE.out, if_neg (by decide), if_pos (show (mx, my) = (px, py) by simp at h; rw [h.1, h.2])])
          rw [HSP.out]
          dsimp only
          go_enter Try.func28, Try.ntmps28
          go_wp2_with (go_at_call 27; refine (HAT.out _ (HS.out.pts.below HBP.out) ).mono ?_; rintro e w1 ⟨rfl, hb1⟩; rw [HATL.out]; have HB1 := hid (HBP.out.trans (hb1.mono HBP.out.size)); have HP1 := hid (HPp.out.below hb1 HPp.out.lt); clear hb1)
          have x0 := cell_regrown ((HB1.out.cell (p := ⟨b, off, none⟩) hbb).trans HF0.out.1.1); have x1 := cell_regrown ((HB1.out.cell (p := ⟨b, off + 1, none⟩) hbb).trans HF0.out.1.2)
          have x2 := cell_regrown ((HB1.out.cell (p := ⟨b, off + m * 2, none⟩) hbb).trans HF0.out.2.1.1); have x3 := cell_regrown ((HB1.out.cell (p := ⟨b, off + m * 2 + 1, none⟩) hbb).trans HF0.out.2.1.2)
          have y0 := cell_regrown HP1.out.c0; have y1 := cell_regrown HP1.out.c1
          refine wp_region_quiet_below (by kernel_rfl) (by kernel_rfl) ?_
          go_big_quiet_step (fail)
          go_big_quiet_step (fail)
          go_big_quiet_step (fail)
          go_big_quiet_step (fail)
          go_big_quiet_step (fail)
          go_big_quiet_step (fail)
          go_big_quiet_step (fail)
          go_big_quiet_step (fail)
          go_big_quiet_step (fail)
          go_big_quiet_step (fail)
          go_big_quiet_step (fail)
          go_big_quiet_step (fail)
          go_big_quiet_step (fail)
          go_big_quiet_step (fail)
          go_big_quiet_step (fail)
          go_big_quiet_step (fail)
          go_big_quiet_step (fail)
          go_big_quiet_step (fail)
          go_big_quiet_step (fail)
          refine wpQuiet_nil ?_
          intro W2 hW'
          obtain ⟨⟨dq, osq⟩, hW⟩ := hW'
          have HW2 := hid (show Below w1.heap.size w1 W2 by rw [hW]; exact below_regrown _ _ _)
          clear hW
          clear x0 x1 x2 x3 y0 y1 rf sf rg sg
          have HB2 := hid (HB1.out.trans (HW2.out.mono HB1.out.size))
          have HP2 := hid (HP1.out.below HW2.out HP1.out.lt)
          have HS2 := hid (HS.out.below HB2.out)
          obtain ⟨wE, hwE⟩ : ∃ wE, W2.alloc (.cells #[] 29) = wE := ⟨_, rfl⟩
          have hbE : Below W2.heap.size W2 wE := by rw [← hwE]; exact (Below.refl _ _).alloc (Nat.le_refl _) _
          obtain ⟨vA, w3, hrunA, hrowA, hbA, _⟩ := (show PtRow wE W2.heap.size (.slice (some ⟨W2.heap.size, 0, none⟩) 0 0) [] by rw [← hwE]; exact PtRow.lit0 W2).add ((HS2.out.take (k := k + 1) (by rw [HN.out]; omega)).below hbE) hbE.size (by rw [List.length_take, HN.out]; simp; omega)
          rw [List.nil_append] at hrowA
          have HRUNA := hid hrunA
          have HB3' : Hid (Below W2.heap.size W2 w3) := hid (hbE.trans hbA)
          have HB3 := hid (HB2.out.trans (HB3'.out.mono HB2.out.size))
          have HROWA := hid (hrowA.base HB2.out.size)
          have HP3 := hid (HP2.out.below HB3'.out HP2.out.lt)
          have HS3 := hid (HS.out.below HB3.out)
          clear hrunA hrowA hbA hbE
          go_wp2_with (at_builtin; refine wpList_append_run rfl (.tmp 32) (.tmp 36) 22 rfl rfl rfl HRUNA.out ?_)
          have hca : ¬ ca = k + 1 := by omega
          have hkm' : k + 1 ≤ m + 1 := by omega
          have hk0I : (0 : Int) ≤ (k : Int) + 1 := by omega
          have hkmI : (k : Int) + 1 ≤ (m : Int) + 1 := by omega
          have hcaI : (m : Int) + 1 ≤ (ca : Int) := by omega
          have hwr : IntKind.i64.wrap ((k : Int) + 1) = (k : Int) + 1 := by rw [IntKind.wrap_i64]; omega
          obtain ⟨y0, y1⟩ := And.intro HP3.out.c0 HP3.out.c1
          obtain ⟨wF, hwF⟩ : ∃ wF, w3.drew.alloc (.cells #[.int .i64 px, .int .i64 py] 29) = wF := ⟨_, rfl⟩
          have hbF : Below w3.heap.size w3 wF := by rw [← hwF]; exact (Below.refl _ _).drew.alloc (Nat.le_refl _) _
          have hsrcB : Src wF (.slice (some ⟨b, off + (k + 1) * 2, none⟩) (m - k) (ca - (k + 1))) (ps.drop (k + 1)) := by
            have h0 := (HS3.out.drop (k := k + 1) (by rw [HN.out]; omega)).below hbF
            rwa [Nat.add_sub_add_right] at h0
          obtain ⟨vB, w4, hrunB, hrowB, hbB, hgB⟩ := (show PtRow wF w3.heap.size (.slice (some ⟨w3.heap.size, 0, none⟩) 1 1) [(px, py)] by rw [← hwF]; exact PtRow.lit1 w3.drew px py).add hsrcB hbF.size (by rw [List.length_drop, HN.out]; simp; omega)
          have HRUNB := hid hrunB
          have hB4' : Below w3.heap.size w3 w4 := hbF.trans hbB
          have HB4 := hid (HB3.out.trans (hB4'.mono HB3.out.size))
          have HP4 := hid (HP3.out.below hB4' HP3.out.lt)
          obtain ⟨u0, u1⟩ := And.intro HP4.out.c0 HP4.out.c1
          obtain ⟨v0, v1⟩ := And.intro (HP3.out.below hbF HP3.out.lt).c0 (HP3.out.below hbF HP3.out.lt).c1
          have HROWA4 := hid (HROWA.out.below hB4')
          have HOTH := hid (show Other vA vB from fun j hj hv => by
            have h1 := (HROWA.out.lt hj).1
            rcases hgB.own j hv with e | e
            · have e' : some w3.heap.size = some j := e
              injection e' with e'
              omega
            · have h2 : w3.heap.size ≤ wF.heap.size := hbF.size
              omega)
          have hlenB : ([(px, py)] ++ ps.drop (k + 1)).length = m - k + 1 := by rw [List.length_append, List.length_drop, HN.out]; simp; omega
          obtain ⟨LB, hLB⟩ : ∃ LB, m - k + 1 = LB := ⟨_, rfl⟩
          rw [hLB] at hlenB
          obtain ⟨bo, cb, hvB⟩ := hrowB.form
          subst hvB
          obtain ⟨g1, g2, hg12, hcapB⟩ := hrowB.src.at (by rw [hlenB]; omega)
          subst hg12
          rw [hlenB] at hrowB HOTH HRUNB hcapB
          have HROWB := hid (hrowB.base HB3.out.size)
          have HLB := hid hlenB
          have hLB2 : 2 ≤ LB := by omega
          have hLBI : (1 : Int) ≤ (LB : Int) := by omega
          have hLB1 : 1 ≤ LB := by omega
          have hcb1 : ¬ cb = 1 := by omega
          clear hrunB hrowB hbB hgB hbF hsrcB hB4' hlenB hLB
          go_wp2
          go_region_held3 (fun w' => w'.cell? ⟨w.heap.size, 0, none⟩ = some (.int .i64 px) ∧ w'.cell? ⟨w.heap.size, 1, none⟩ = some (.int .i64 py)) (first | exact ⟨y0, y1⟩ | exact ⟨v0, v1⟩ | exact ⟨u0, u1⟩) (first
            | (refine step_append_known rfl (.tmp 39) (.tmp 43) 22 rfl rfl rfl HRUNB.out ?_))
          clear y0 y1 v0 v1 u0 u1 hca
          have x0 := cell_regrown ((HB4.out.cell (p := ⟨b, off + (k + 1) * 2, none⟩) hbb).trans HF0.out.2.2.1); have x1 := cell_regrown ((HB4.out.cell (p := ⟨b, off + (k + 1) * 2 + 1, none⟩) hbb).trans HF0.out.2.2.2)
          have y0 := cell_regrown HP4.out.c0; have y1 := cell_regrown HP4.out.c1
          go_wp2
          refine wp_region_quiet_below (by kernel_rfl) (by kernel_rfl) ?_
          go_big_quiet_step (fail)
          go_big_quiet_step (fail)
          go_big_quiet_step (fail)
          go_big_quiet_step (fail)
          go_big_quiet_step (fail)
          go_big_quiet_step (fail)
          go_big_quiet_step (fail)
          refine wpQuiet_nil ?_
          intro W5 hW'
          obtain ⟨⟨dq, osq⟩, hW⟩ := hW'
          have HW5 := hid (show Below w4.heap.size w4 W5 by rw [hW]; exact below_regrown _ _ _)
          clear hW
          clear x0 x1 y0 y1 rh sh
          have HB5 := hid (HB4.out.trans (HW5.out.mono HB4.out.size))
          have HP5 := hid (HP4.out.below HW5.out HP4.out.lt)
          have p0 := HP5.out.c0; have p1 := HP5.out.c1
          obtain ⟨wG, hwG⟩ : ∃ wG, W5.alloc (.cells #[.int .i64 px, .int .i64 py] 29) = wG := ⟨_, rfl⟩
          have hbG : Below W5.heap.size W5 wG := by rw [← hwG]; exact (Below.refl _ _).alloc (Nat.le_refl _) _
          have hB5G : Below w4.heap.size w4 wG := HW5.out.trans (hbG.mono HW5.out.size)
          obtain ⟨vA2, w6, hrun6, hrow6, hb6, hg6⟩ := (HROWA4.out.below hB5G).add (show Src wG (.slice (some ⟨W5.heap.size, 0, none⟩) 1 1) [(px, py)] by rw [← hwG]; exact Src.new W5 px py) (HB5.out.trans (hbG.mono HB5.out.size)).size (by rw [List.length_take, HN.out]; simp; omega)
          obtain ⟨hrowB6, _⟩ := (HROWB.out.below hB5G).keep hg6 HOTH.out
          have HB6 := hid (show Below w.heap.size w w6 from (HB5.out.trans (hbG.mono HB5.out.size)).trans hb6)
          obtain ⟨wH, hwH⟩ : ∃ wH, w6.alloc (.cells #[] 29) = wH := ⟨_, rfl⟩
          have hbH : Below w6.heap.size w6 wH := by rw [← hwH]; exact (Below.refl _ _).alloc (Nat.le_refl _) _
          obtain ⟨vB2, w7, hrun7, hrow7, hb7, _⟩ := (show PtRow wH w6.heap.size (.slice (some ⟨w6.heap.size, 0, none⟩) 0 0) [] by rw [← hwH]; exact PtRow.lit0 w6).add ((show Src w6 (.slice (some ⟨g1, g2 + 2, none⟩) (LB - 1) (cb - 1)) (ps.drop (k + 1)) from hrowB6.src.drop1 (by simp)).below hbH) hbH.size (by rw [List.length_drop, HN.out]; simp; omega)
          rw [List.nil_append] at hrow7
          have HRUN6 := hid hrun6
          have HRUN7 := hid hrun7
          have hB67 : Below w6.heap.size w6 w7 := hbH.trans hb7
          have HA7 := hid ((hrow6.below hB67).src)
          have HC7 := hid hrow7.src
          have HB7 := hid (HB6.out.trans (hB67.mono HB6.out.size))
          clear hbG hB5G hrun6 hrow6 hb6 hg6 hrowB6 hbH hrun7 hrow7 hb7 hB67
          go_wp2_with (first
            | (at_builtin; refine wpList_append_run rfl (.tmp 54) (.tmp 56) 22 rfl rfl rfl HRUN6.out ?_)
            | (at_builtin; refine wpList_append_run rfl (.tmp 58) (.tmp 59) 22 rfl rfl rfl HRUN7.out ?_))
          refine bodyPost_ret (v := .tuple #[vA2, vB2, .bool true]) (by simp [results, Try.results28, go_sem]) rfl ?_
          exact ⟨⟨_, _, rfl, HA7.out, HC7.out⟩, HB7.out⟩
        | false =>
          have rf := fun x y => ite2_no f (α := Result Next) x y
          have sf := fun x y => ite2_no f (α := Prop) x y
          have rg := fun x y => ite2_no g (α := Result Next) x y
          have sg := fun x y => ite2_no g (α := Prop) x y
          have rh := fun x y => ite2_no h (α := Result Next) x y
          have sh := fun x y => ite2_no h (α := Prop) x y
          have HSP := hid (show splitL ps (px, py) = ((ps.take (k + 1) ++ [(px, py)], (px, py) :: ps.drop (k + 1)), true) by
            rw [HSPL.out, HE.out, if_neg (by decide), if_neg (show ¬ (mx, my) = (px, py) by rintro e; injection e with e1 e2; subst e1 e2; simp at h)])
          rw [HSP.out]
          dsimp only
          go_enter Try.func28, Try.ntmps28
          go_wp2_with (go_at_call 27; refine (HAT.out _ (HS.out.pts.below HBP.out) ).mono ?_; rintro e w1 ⟨rfl, hb1⟩; rw [HATL.out]; have HB1 := hid (HBP.out.trans (hb1.mono HBP.out.size)); have HP1 := hid (HPp.out.below hb1 HPp.out.lt); clear hb1)
          have x0 := cell_regrown ((HB1.out.cell (p := ⟨b, off, none⟩) hbb).trans HF0.out.1.1); have x1 := cell_regrown ((HB1.out.cell (p := ⟨b, off + 1, none⟩) hbb).trans HF0.out.1.2)
          have x2 := cell_regrown ((HB1.out.cell (p := ⟨b, off + m * 2, none⟩) hbb).trans HF0.out.2.1.1); have x3 := cell_regrown ((HB1.out.cell (p := ⟨b, off + m * 2 + 1, none⟩) hbb).trans HF0.out.2.1.2)
          have y0 := cell_regrown HP1.out.c0; have y1 := cell_regrown HP1.out.c1
          refine wp_region_quiet_below (by kernel_rfl) (by kernel_rfl) ?_
          go_big_quiet_step (fail)
          go_big_quiet_step (fail)
          go_big_quiet_step (fail)
          go_big_quiet_step (fail)
          go_big_quiet_step (fail)
          go_big_quiet_step (fail)
          go_big_quiet_step (fail)
          go_big_quiet_step (fail)
          go_big_quiet_step (fail)
          go_big_quiet_step (fail)
          go_big_quiet_step (fail)
          go_big_quiet_step (fail)
          go_big_quiet_step (fail)
          go_big_quiet_step (fail)
          go_big_quiet_step (fail)
          go_big_quiet_step (fail)
          go_big_quiet_step (fail)
          go_big_quiet_step (fail)
          go_big_quiet_step (fail)
          refine wpQuiet_nil ?_
          intro W2 hW'
          obtain ⟨⟨dq, osq⟩, hW⟩ := hW'
          have HW2 := hid (show Below w1.heap.size w1 W2 by rw [hW]; exact below_regrown _ _ _)
          clear hW
          clear x0 x1 x2 x3 y0 y1 rf sf rg sg
          have HB2 := hid (HB1.out.trans (HW2.out.mono HB1.out.size))
          have HP2 := hid (HP1.out.below HW2.out HP1.out.lt)
          have HS2 := hid (HS.out.below HB2.out)
          obtain ⟨wE, hwE⟩ : ∃ wE, W2.alloc (.cells #[] 29) = wE := ⟨_, rfl⟩
          have hbE : Below W2.heap.size W2 wE := by rw [← hwE]; exact (Below.refl _ _).alloc (Nat.le_refl _) _
          obtain ⟨vA, w3, hrunA, hrowA, hbA, _⟩ := (show PtRow wE W2.heap.size (.slice (some ⟨W2.heap.size, 0, none⟩) 0 0) [] by rw [← hwE]; exact PtRow.lit0 W2).add ((HS2.out.take (k := k + 1) (by rw [HN.out]; omega)).below hbE) hbE.size (by rw [List.length_take, HN.out]; simp; omega)
          rw [List.nil_append] at hrowA
          have HRUNA := hid hrunA
          have HB3' : Hid (Below W2.heap.size W2 w3) := hid (hbE.trans hbA)
          have HB3 := hid (HB2.out.trans (HB3'.out.mono HB2.out.size))
          have HROWA := hid (hrowA.base HB2.out.size)
          have HP3 := hid (HP2.out.below HB3'.out HP2.out.lt)
          have HS3 := hid (HS.out.below HB3.out)
          clear hrunA hrowA hbA hbE
          go_wp2_with (at_builtin; refine wpList_append_run rfl (.tmp 32) (.tmp 36) 22 rfl rfl rfl HRUNA.out ?_)
          have hca : ¬ ca = k + 1 := by omega
          have hkm' : k + 1 ≤ m + 1 := by omega
          have hk0I : (0 : Int) ≤ (k : Int) + 1 := by omega
          have hkmI : (k : Int) + 1 ≤ (m : Int) + 1 := by omega
          have hcaI : (m : Int) + 1 ≤ (ca : Int) := by omega
          have hwr : IntKind.i64.wrap ((k : Int) + 1) = (k : Int) + 1 := by rw [IntKind.wrap_i64]; omega
          obtain ⟨y0, y1⟩ := And.intro HP3.out.c0 HP3.out.c1
          obtain ⟨wF, hwF⟩ : ∃ wF, w3.drew.alloc (.cells #[.int .i64 px, .int .i64 py] 29) = wF := ⟨_, rfl⟩
          have hbF : Below w3.heap.size w3 wF := by rw [← hwF]; exact (Below.refl _ _).drew.alloc (Nat.le_refl _) _
          have hsrcB : Src wF (.slice (some ⟨b, off + (k + 1) * 2, none⟩) (m - k) (ca - (k + 1))) (ps.drop (k + 1)) := by
            have h0 := (HS3.out.drop (k := k + 1) (by rw [HN.out]; omega)).below hbF
            rwa [Nat.add_sub_add_right] at h0
          obtain ⟨vB, w4, hrunB, hrowB, hbB, hgB⟩ := (show PtRow wF w3.heap.size (.slice (some ⟨w3.heap.size, 0, none⟩) 1 1) [(px, py)] by rw [← hwF]; exact PtRow.lit1 w3.drew px py).add hsrcB hbF.size (by rw [List.length_drop, HN.out]; simp; omega)
          have HRUNB := hid hrunB
          have hB4' : Below w3.heap.size w3 w4 := hbF.trans hbB
          have HB4 := hid (HB3.out.trans (hB4'.mono HB3.out.size))
          have HP4 := hid (HP3.out.below hB4' HP3.out.lt)
          obtain ⟨u0, u1⟩ := And.intro HP4.out.c0 HP4.out.c1
          obtain ⟨v0, v1⟩ := And.intro (HP3.out.below hbF HP3.out.lt).c0 (HP3.out.below hbF HP3.out.lt).c1
          have HROWA4 := hid (HROWA.out.below hB4')
          have HOTH := hid (show Other vA vB from fun j hj hv => by
            have h1 := (HROWA.out.lt hj).1
            rcases hgB.own j hv with e | e
            · have e' : some w3.heap.size = some j := e
              injection e' with e'
              omega
            · have h2 : w3.heap.size ≤ wF.heap.size := hbF.size
              omega)
          have hlenB : ([(px, py)] ++ ps.drop (k + 1)).length = m - k + 1 := by rw [List.length_append, List.length_drop, HN.out]; simp; omega
          obtain ⟨LB, hLB⟩ : ∃ LB, m - k + 1 = LB := ⟨_, rfl⟩
          rw [hLB] at hlenB
          obtain ⟨bo, cb, hvB⟩ := hrowB.form
          subst hvB
          obtain ⟨g1, g2, hg12, hcapB⟩ := hrowB.src.at (by rw [hlenB]; omega)
          subst hg12
          rw [hlenB] at hrowB HOTH HRUNB hcapB
          have HROWB := hid (hrowB.base HB3.out.size)
          have HLB := hid hlenB
          have hLB2 : 2 ≤ LB := by omega
          have hLBI : (1 : Int) ≤ (LB : Int) := by omega
          have hLB1 : 1 ≤ LB := by omega
          have hcb1 : ¬ cb = 1 := by omega
          clear hrunB hrowB hbB hgB hbF hsrcB hB4' hlenB hLB
          go_wp2
          go_region_held3 (fun w' => w'.cell? ⟨w.heap.size, 0, none⟩ = some (.int .i64 px) ∧ w'.cell? ⟨w.heap.size, 1, none⟩ = some (.int .i64 py)) (first | exact ⟨y0, y1⟩ | exact ⟨v0, v1⟩ | exact ⟨u0, u1⟩) (first
            | (refine step_append_known rfl (.tmp 39) (.tmp 43) 22 rfl rfl rfl HRUNB.out ?_))
          clear y0 y1 v0 v1 u0 u1 hca
          have x0 := cell_regrown ((HB4.out.cell (p := ⟨b, off + (k + 1) * 2, none⟩) hbb).trans HF0.out.2.2.1); have x1 := cell_regrown ((HB4.out.cell (p := ⟨b, off + (k + 1) * 2 + 1, none⟩) hbb).trans HF0.out.2.2.2)
          have y0 := cell_regrown HP4.out.c0; have y1 := cell_regrown HP4.out.c1
          go_wp2
          refine wp_region_quiet_below (by kernel_rfl) (by kernel_rfl) ?_
          go_big_quiet_step (fail)
          go_big_quiet_step (fail)
          go_big_quiet_step (fail)
          go_big_quiet_step (fail)
          go_big_quiet_step (fail)
          go_big_quiet_step (fail)
          go_big_quiet_step (fail)
          refine wpQuiet_nil ?_
          intro W5 hW'
          obtain ⟨⟨dq, osq⟩, hW⟩ := hW'
          have HW5 := hid (show Below w4.heap.size w4 W5 by rw [hW]; exact below_regrown _ _ _)
          clear hW
          clear x0 x1 y0 y1 rh sh
          have HB5 := hid (HB4.out.trans (HW5.out.mono HB4.out.size))
          have HP5 := hid (HP4.out.below HW5.out HP4.out.lt)
          have p0 := HP5.out.c0; have p1 := HP5.out.c1
          obtain ⟨wG, hwG⟩ : ∃ wG, W5.alloc (.cells #[.int .i64 px, .int .i64 py] 29) = wG := ⟨_, rfl⟩
          have hbG : Below W5.heap.size W5 wG := by rw [← hwG]; exact (Below.refl _ _).alloc (Nat.le_refl _) _
          have hB5G : Below w4.heap.size w4 wG := HW5.out.trans (hbG.mono HW5.out.size)
          obtain ⟨vA2, w6, hrun6, hrow6, hb6, hg6⟩ := (HROWA4.out.below hB5G).add (show Src wG (.slice (some ⟨W5.heap.size, 0, none⟩) 1 1) [(px, py)] by rw [← hwG]; exact Src.new W5 px py) (HB5.out.trans (hbG.mono HB5.out.size)).size (by rw [List.length_take, HN.out]; simp; omega)
          obtain ⟨hrowB6, _⟩ := (HROWB.out.below hB5G).keep hg6 HOTH.out
          have HB6 := hid (show Below w.heap.size w w6 from (HB5.out.trans (hbG.mono HB5.out.size)).trans hb6)
          obtain ⟨wH, hwH⟩ : ∃ wH, w6.alloc (.cells #[] 29) = wH := ⟨_, rfl⟩
          have hbH : Below w6.heap.size w6 wH := by rw [← hwH]; exact (Below.refl _ _).alloc (Nat.le_refl _) _
          obtain ⟨vB2, w7, hrun7, hrow7, hb7, _⟩ := (show PtRow wH w6.heap.size (.slice (some ⟨w6.heap.size, 0, none⟩) 0 0) [] by rw [← hwH]; exact PtRow.lit0 w6).add ((show Src w6 (.slice (some ⟨g1, g2, none⟩) LB cb) ((px, py) :: ps.drop (k + 1)) from hrowB6.src).below hbH) hbH.size (by rw [List.length_cons, List.length_drop, HN.out]; simp; omega)
          rw [List.nil_append] at hrow7
          have HRUN6 := hid hrun6
          have HRUN7 := hid hrun7
          have hB67 : Below w6.heap.size w6 w7 := hbH.trans hb7
          have HA7 := hid ((hrow6.below hB67).src)
          have HC7 := hid hrow7.src
          have HB7 := hid (HB6.out.trans (hB67.mono HB6.out.size))
          clear hbG hB5G hrun6 hrow6 hb6 hg6 hrowB6 hbH hrun7 hrow7 hb7 hB67
          go_wp2_with (first
            | (at_builtin; refine wpList_append_run rfl (.tmp 54) (.tmp 56) 22 rfl rfl rfl HRUN6.out ?_)
            | (at_builtin; refine wpList_append_run rfl (.tmp 58) (.tmp 59) 22 rfl rfl rfl HRUN7.out ?_))
          refine bodyPost_ret (v := .tuple #[vA2, vB2, .bool true]) (by simp [results, Try.results28, go_sem]) rfl ?_
          exact ⟨⟨_, _, rfl, HA7.out, HC7.out⟩, HB7.out⟩

end Go.Proofs.Ytjokpahlpkoopaa
