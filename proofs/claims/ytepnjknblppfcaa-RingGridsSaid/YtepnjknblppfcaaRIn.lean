/-
  ring's Inside.
-/
import Derived.Test.YtepnjknblppfcaaRArea
import Derived.Test.YtepnjknblppfcaaRHas
namespace Go.Proofs.Ytepnjknblppfcaa
open Go.RowKit Go.Shelf Go.Sort

attribute [local go_sem] Oper.semAt_some

/-- Is p on the segment at k, does it ray p, as ring asks it? -/
def hasK (ps : List Pp) (p : Pp) (k : Nat) : Bool := hasP (lpt ps k) (nxt ps k) p
def meetK (ps : List Pp) (p : Pp) (k : Nat) : Bool := okP p.1 p.2 && rayP (clP (lpt ps k)) (clP (nxt ps k)) (clP p)
def odF (mb : Nat → Bool) (ks : List Nat) : Bool := ks.foldl (fun o k => if mb k then !o else o) false
theorem odF_snoc (mb : Nat → Bool) (ks : List Nat) (k : Nat) : odF mb (ks ++ [k]) = if mb k then !odF mb ks else odF mb ks := by unfold odF; rw [List.foldl_append]; rfl
def inF (ps : List Pp) (p : Pp) : Int := if (List.range ps.length).any (hasK ps p) then 0 else if odF (meetK ps p) (List.range ps.length) then 1 else -1

/-- Amid Inside. -/
structure InI (w : World) (px py r : Int) (o : Bool) (W : World) : Prop where
  pp : Pt W w.heap.size px py
  res : Boxed W (w.heap.size + 1) 3 (.int .i64 r)
  odd : Boxed W (w.heap.size + 2) 4 (.bool o)
  big : w.heap.size + 4 ≤ W.heap.size
  below : Below w.heap.size w W
theorem InI.turn {w W W' : World} {px py r : Int} {o : Bool} {row : Option Nat} (h : InI w px py r o W) (hg : W.grownBy W' row) (hr : ∀ r, row = some r → w.heap.size ≤ r ∧ ∃ o : Obj, W.heap[r]? = some o ∧ o.isCells = false) : InI w px py r o W' :=
  ⟨block_turn hg (fun r e => (hr r e).2) h.pp, block_turn hg (fun r e => (hr r e).2) h.res, block_turn hg (fun r e => (hr r e).2) h.odd, Nat.le_trans h.big hg.size, h.below.grown hg h.below.size (fun k e => (hr k e).1)⟩
theorem InI.fresh {w W W' : World} {px py r : Int} {o : Bool} (h : InI w px py r o W) (hb : Below W.heap.size W W') : InI w px py r o W' :=
  ⟨(hb.block _ h.pp.lt).trans h.pp, boxed_below h.res hb, boxed_below h.odd hb, Nat.le_trans h.big hb.size, h.below.trans (hb.mono h.below.size)⟩
theorem InI.setR {w W : World} {px py r : Int} {o : Bool} (h : InI w px py r o W) (t : Int) : InI w px py t o (W.setCell ⟨w.heap.size + 1, 0, none⟩ (.int .i64 t)) :=
  ⟨(Below.heap_setCell W _ _ _ (by show w.heap.size ≠ w.heap.size + 1; omega)).trans h.pp, h.res.set _, (Below.heap_setCell W _ _ _ (by show w.heap.size + 2 ≠ w.heap.size + 1; omega)).trans h.odd, by rw [World.size_setCell]; exact h.big, h.below.setCell (p := ⟨w.heap.size + 1, 0, none⟩) (by show w.heap.size ≤ w.heap.size + 1; omega) _⟩
theorem InI.setO {w W : World} {px py r : Int} {o : Bool} (h : InI w px py r o W) (t : Bool) : InI w px py r t (W.setCell ⟨w.heap.size + 2, 0, none⟩ (.bool t)) :=
  ⟨(Below.heap_setCell W _ _ _ (by show w.heap.size ≠ w.heap.size + 2; omega)).trans h.pp, (Below.heap_setCell W _ _ _ (by show w.heap.size + 1 ≠ w.heap.size + 2; omega)).trans h.res, h.odd.set _, by rw [World.size_setCell]; exact h.big, h.below.setCell (p := ⟨w.heap.size + 2, 0, none⟩) (by show w.heap.size ≤ w.heap.size + 2; omega) _⟩
theorem push4 (a : Array Obj) (x0 x1 x2 x3 : Obj) : ((((a.push x0).push x1).push x2).push x3)[a.size]? = some x0 ∧ ((((a.push x0).push x1).push x2).push x3)[a.size + 1]? = some x1 ∧ ((((a.push x0).push x1).push x2).push x3)[a.size + 2]? = some x2 ∧ ((((a.push x0).push x1).push x2).push x3)[a.size + 3]? = some x3 := by
  refine ⟨?_, ?_, ?_, ?_⟩ <;> simp only [Array.getElem?_push, Array.size_push] <;> repeat (first | rw [if_pos (by omega)] | rw [if_neg (by omega)] | rw [if_pos trivial])

set_option maxRecDepth 100000 in
set_option maxHeartbeats 3200000 in
theorem inside_in (ao : Option Addr) (n cap b off : Nat) (ps : List Pp) (px py : Int) (w : World) (hn : ps.length = n) (hao : 1 ≤ n → ao = some ⟨b, off, none⟩) (hat : CellsAt w b off ps) (hb : b ≤ w.heap.size) (hl : n ≤ 4096) :
    CallsIn Fence.wide 12 Try.prog 9 #[.slice ao n cap, pv px py] w fun e w' => e = .returned (.int .i64 (inF ps (px, py))) ∧ Below w.heap.size w w' := by
  have HN := hid hn
  have HAO := hid hao
  have HAT := hid hat
  have hmx : Try.prog.follows .mixedOrders = true := by kernel_rfl
  clear hao hat hn
  refine callsIn_of_wp_marks Try.func9 rfl trivial ?_ rfl
  simp only [Try.ntmps9, List.size_toArray, List.length_cons, List.length_nil, Nat.reduceAdd, Nat.reduceSub, Array.replicate_succ, Array.replicate_zero, List.push_toArray, List.append_toArray, List.nil_append, List.cons_append]
  have hw : ∀ k, Fence.wide.fn k := fun _ => trivial
  gi_wp2_with (gi_at_call 19; refine (callsIn_wide.2 (segmentsOf_any _ _ _ _)).mono ?_; rintro e w' ⟨rfl, rfl⟩)
  obtain ⟨W0, hW0⟩ : ∃ W0, (((w.alloc (.cells #[.int .i64 px, .int .i64 py] 24)).alloc (.cells #[.int .i64 0] 3)).alloc (.cells #[.bool false] 4)).alloc (.cells #[.slice ao n cap] 22) = W0 := ⟨_, rfl⟩
  have hsz : W0.heap.size = w.heap.size + 4 := by rw [← hW0]; simp
  have hF0 : Below w.heap.size w W0 := by rw [← hW0]; exact ((((Below.refl _ w).alloc (Nat.le_refl _) _).alloc (by simp) _).alloc (by simp; omega) _).alloc (by simp; omega) _
  have hpush := push4 w.heap (.cells #[.int .i64 px, .int .i64 py] 24) (.cells #[.int .i64 0] 3) (.cells #[.bool false] 4) (.cells #[.slice ao n cap] 22)
  have h0 : InI w px py 0 false W0 := ⟨by rw [← hW0]; exact hpush.1, by rw [← hW0]; exact hpush.2.1, by rw [← hW0]; exact hpush.2.2.1, by omega, hF0⟩
  have hbx : Boxed W0 (w.heap.size + 3) 22 (.slice ao n cap) := by rw [← hW0]; exact hpush.2.2.2
  rw [hW0]
  clear hW0 hpush
  refine wpIn_rangeFunc_ownH rfl (by decide) (gf := 29) (lb := #[.pointer (some ⟨w.heap.size + 1 + 1 + 1, 0, none⟩)]) rfl trivial (enters_of Try.func29 (by kernel_rfl) rfl)
    (segs_stops (12 - 1) (by decide) (w.heap.size + 3) b off n cap ao ps HN.out W0 hbx.cell HAO.out (HAT.out.below hF0) (by omega)) (fun h k => Kq.trans h k) (fun W l o o' h1 h2 _ _ => Kq.putObj W l o' (by have := lt_of_heap h2; omega) (by have := lt_of_heap h2; omega) (by omega) (by omega)) (Below.refl _ _) (fun _ => rfl)
    (fun pre W => InI w px py 0 (odF (meetK ps (px, py)) (pre.map (·.1))) W ∧ ∀ x ∈ pre, hasK ps (px, py) x.1 = false) (fun c _ W => c = .ret ∧ (∃ k, k < n ∧ hasK ps (px, py) k = true) ∧ ∃ o, InI w px py 0 o W) ?hI ?hIx ?h0
    (fun x a' W => ∃ B1 B2, a' = { tmps := #[.slice ao n cap, pv px py, undef, .pointer (some ⟨w.heap.size, 0, none⟩), .pointer (some ⟨w.heap.size + 1, 0, none⟩), .pointer (some ⟨w.heap.size + 1 + 1, 0, none⟩), .pointer (some ⟨B1, 0, none⟩), .pointer (some ⟨B2, 0, none⟩), .slice ao n cap, .func (.func 29) #[] #[.pointer (some ⟨w.heap.size + 1 + 1 + 1, 0, none⟩)], pv (lpt ps x.1).1 (lpt ps x.1).2, pv (nxt ps x.1).1 (nxt ps x.1).2, undef, undef, undef, undef, undef, undef, undef, undef, undef, undef, undef], defers := [] } ∧ Pt W B1 (lpt ps x.1).1 (lpt ps x.1).2 ∧ Pt W B2 (nxt ps x.1).1 (nxt ps x.1).2)
    ?hAx ?assign ?body ?done ?stop
  case hI =>
    rintro s A B' row ⟨hs, hq⟩ hg' hrow
    exact ⟨hs.turn hg' (fun r e => ⟨by have := (hrow r e).1; omega, (hrow r e).2⟩), hq⟩
  case hIx =>
    rintro c s A B' row ⟨hc, hk, o, hs⟩ hg' hrow
    exact ⟨hc, hk, o, hs.turn hg' (fun r e => ⟨by have := (hrow r e).1; omega, (hrow r e).2⟩)⟩
  case h0 => exact ⟨h0, fun x hx => by cases hx⟩
  case hAx =>
    rintro x a' _ A B' row ⟨B1, B2, rfl, h1, h2⟩ hg hrow
    exact ⟨B1, B2, rfl, block_turn hg (fun r e => (hrow r e).2) h1, block_turn hg (fun r e => (hrow r e).2) h2⟩
  case assign =>
    rintro l pre x W K ⟨hI, hq⟩ hK
    have hfr : Below W.heap.size W ((W.alloc (.cells #[.int .i64 (lpt ps x.1).1, .int .i64 (lpt ps x.1).2] 24)).alloc (.cells #[.int .i64 (nxt ps x.1).1, .int .i64 (nxt ps x.1).2] 24)) := ((Below.refl _ W).alloc (Nat.le_refl _) _).alloc (by simp) _
    have hbig := hI.big
    have h1 : Pt ((W.alloc (.cells #[.int .i64 (lpt ps x.1).1, .int .i64 (lpt ps x.1).2] 24)).alloc (.cells #[.int .i64 (nxt ps x.1).1, .int .i64 (nxt ps x.1).2] 24)) W.heap.size (lpt ps x.1).1 (lpt ps x.1).2 := (Pt.new W _ _).alloc _
    have h2 : Pt ((W.alloc (.cells #[.int .i64 (lpt ps x.1).1, .int .i64 (lpt ps x.1).2] 24)).alloc (.cells #[.int .i64 (nxt ps x.1).1, .int .i64 (nxt ps x.1).2] 24)) (W.heap.size + 1) (nxt ps x.1).1 (nxt ps x.1).2 := by
      have := Pt.new (W.alloc (.cells #[.int .i64 (lpt ps x.1).1, .int .i64 (lpt ps x.1).2] 24)) (nxt ps x.1).1 (nxt ps x.1).2
      rwa [World.size_alloc] at this
    have HK := hid (hK _ _ ((keeps_fresh hfr).from _) (Kq.fresh hfr (by omega) (by omega)) ⟨hI.fresh hfr, hq⟩ ⟨W.heap.size, W.heap.size + 1, rfl, h1, h2⟩)
    clear hK hI hfr h1 h2
    gi_wp2
    exact HK.out
  case body =>
    rintro l pre x a' W _ _ ⟨hI, hq⟩ ⟨B1, B2, rfl, hP1, hP2⟩ hlt
    have hd1 : 1 ≤ 12 - 1 - 1 := by decide
    have HE := hid (show odF (meetK ps (px, py)) ((pre ++ [x]).map (·.1)) = if meetK ps (px, py) x.1 then !odF (meetK ps (px, py)) (pre.map (·.1)) else odF (meetK ps (px, py)) (pre.map (·.1)) by rw [List.map_append]; exact odF_snoc _ _ _)
    have HQ := hid hq
    have HI := hid hI
    have HP1 := hid hP1
    have HP2 := hid hP2
    have c00 := hI.pp.c0; have c01 := hI.pp.c1
    have c10 := hP1.c0; have c11 := hP1.c1; have c20 := hP2.c0; have c21 := hP2.c1
    have H1 := hid (fun W => ringHas_any (lpt ps x.1).1 (lpt ps x.1).2 (nxt ps x.1).1 (nxt ps x.1).2 px py W)
    have H2 := hid (fun W => ringMeets_any (lpt ps x.1).1 (lpt ps x.1).2 (nxt ps x.1).1 (nxt ps x.1).2 px py W)
    have e1 : hasP ((lpt ps x.1).1, (lpt ps x.1).2) ((nxt ps x.1).1, (nxt ps x.1).2) (px, py) = hasK ps (px, py) x.1 := rfl
    have e2 : (okP px py && rayP (near (lpt ps x.1).1, near (lpt ps x.1).2) (near (nxt ps x.1).1, near (nxt ps x.1).2) (near px, near py)) = meetK ps (px, py) x.1 := rfl
    rw [e1] at H1
    rw [e2] at H2
    have HX := hid x.2
    clear hI hP1 hP2 h0 hbx hq e1 e2
    obtain ⟨R1, hR1⟩ : ∃ R, hasK ps (px, py) x.1 = R := ⟨_, rfl⟩
    obtain ⟨R2, hR2⟩ : ∃ R, meetK ps (px, py) x.1 = R := ⟨_, rfl⟩
    rw [hR1] at H1
    rw [hR2] at H2 HE
    have HR1 := hid hR1
    clear hR1 hR2
    generalize odF (meetK ps (px, py)) (pre.map (·.1)) = o at *
    generalize (lpt ps x.1).1 = X1 at *
    generalize (lpt ps x.1).2 = Y1 at *
    generalize (nxt ps x.1).1 = X2 at *
    generalize (nxt ps x.1).2 = Y2 at *
    cases R1 with
    | true =>
      gi_wp2_with (gi_at_call 20; refine (CallsIn.inRound l (callsIn_wide.2 (H1.out _))).mono ?_; rintro e w1 ⟨rfl, hb1⟩; have HI1 := hid (HI.out.fresh hb1); have HKO := hid (keeps_fresh hb1); have g0 := HI1.out.res.cell; have g1 := HI1.out.res.frozen; clear hb1 H1)
      exact ⟨(HKO.out.trans (KeepsOthers.setCell w1 _ _)).from _, rfl, ⟨x.1, HX.out, HR1.out⟩, o, HI1.out.setR 0⟩
    | false =>
      have HQ' := hid (show ∀ y ∈ pre ++ [x], hasK ps (px, py) y.1 = false from fun y hy => by
        rcases List.mem_append.1 hy with h | h
        · exact HQ.out y h
        · rw [List.mem_singleton.1 h]; exact HR1.out)
      cases R2 with
      | true =>
        gi_wp2_with (first
          | (gi_at_call 20; refine (CallsIn.inRound l (callsIn_wide.2 (H1.out _))).mono ?_; rintro e w1 ⟨rfl, hb1⟩; have HKO := hid (keeps_fresh hb1); have HKQ := hid (show Kq (w.heap.size + 3) b W w1 from Kq.fresh hb1 (by have := HI.out.big; omega) (by have := HI.out.big; omega)); replace HI := hid (HI.out.fresh hb1); replace HP1 := hid (HP1.out.below hb1 HP1.out.lt); replace HP2 := hid (HP2.out.below hb1 HP2.out.lt); have c30 := HI.out.pp.c0; have c31 := HI.out.pp.c1; have c40 := HP1.out.c0; have c41 := HP1.out.c1; have c50 := HP2.out.c0; have c51 := HP2.out.c1; clear hb1 H1)
          | (gi_at_call 21; refine (CallsIn.inRound l (callsIn_wide.2 (H2.out _))).mono ?_; rintro e w2 ⟨rfl, hb2⟩; have HKO2 := hid (HKO.out.trans (keeps_fresh hb2)); have HKQ2 := hid (HKQ.out.trans (show Kq (w.heap.size + 3) b w1 w2 from Kq.fresh hb2 (by have := HI.out.big; omega) (by have := HI.out.big; omega))); replace HI := hid (HI.out.fresh hb2); have g0 := HI.out.odd.cell; have g1 := HI.out.odd.frozen; clear hb2 H2))
        refine ⟨(HKO2.out.trans (KeepsOthers.setCell w2 _ _)).from _, HKQ2.out.trans ⟨Below.heap_setCell w2 _ _ _ (by show w.heap.size + 3 ≠ w.heap.size + 2; omega), Below.heap_setCell w2 _ _ _ (by show b ≠ w.heap.size + 2; omega)⟩, ?_, HQ'.out⟩
        rw [HE.out]
        exact HI.out.setO _
      | false =>
        gi_wp2_with (first
          | (gi_at_call 20; refine (CallsIn.inRound l (callsIn_wide.2 (H1.out _))).mono ?_; rintro e w1 ⟨rfl, hb1⟩; have HKO := hid (keeps_fresh hb1); have HKQ := hid (show Kq (w.heap.size + 3) b W w1 from Kq.fresh hb1 (by have := HI.out.big; omega) (by have := HI.out.big; omega)); replace HI := hid (HI.out.fresh hb1); replace HP1 := hid (HP1.out.below hb1 HP1.out.lt); replace HP2 := hid (HP2.out.below hb1 HP2.out.lt); have c30 := HI.out.pp.c0; have c31 := HI.out.pp.c1; have c40 := HP1.out.c0; have c41 := HP1.out.c1; have c50 := HP2.out.c0; have c51 := HP2.out.c1; clear hb1 H1)
          | (gi_at_call 21; refine (CallsIn.inRound l (callsIn_wide.2 (H2.out _))).mono ?_; rintro e w2 ⟨rfl, hb2⟩; have HKO2 := hid (HKO.out.trans (keeps_fresh hb2)); have HKQ2 := hid (HKQ.out.trans (show Kq (w.heap.size + 3) b w1 w2 from Kq.fresh hb2 (by have := HI.out.big; omega) (by have := HI.out.big; omega))); replace HI := hid (HI.out.fresh hb2); clear hb2 H2))
        refine ⟨HKO2.out.from _, HKQ2.out, ?_, HQ'.out⟩
        rw [HE.out]
        exact HI.out
  case done =>
    rintro D ys W hD hS ⟨hI, hq⟩ hK
    have HNO := hid (show (List.range ps.length).any (hasK ps (px, py)) = false by
      rw [HN.out, ← hS, List.any_eq_false]
      intro k hk
      obtain ⟨y, hy, rfl⟩ := List.mem_map.1 hk
      rw [hq y hy]
      decide)
    rw [hS, ← HN.out] at hI
    obtain ⟨o, ho⟩ : ∃ o, odF (meetK ps (px, py)) (List.range ps.length) = o := ⟨_, rfl⟩
    rw [ho] at hI
    have HRE := hid (show inF ps (px, py) = if o then 1 else -1 by unfold inF; rw [HNO.out, ho]; rfl)
    have cb := hI.odd.cell
    have g0 := hI.res.cell; have g1 := hI.res.frozen
    have HI := hid hI
    have HK := hid hK
    clear hI hK hS h0 hbx ho hq HNO
    cases o with
    | true =>
      gi_wp2
      have hfin := HI.out.setR 1
      have hK' := (KeepsOthers.setCell W ⟨w.heap.size + 1, 0, none⟩ (.int .i64 1)).same D _ HK.out rfl
      have hrow : ∀ r, some D = some r → w.heap.size ≤ r ∧ ∃ o : Obj, (W.setCell ⟨w.heap.size + 1, 0, none⟩ (.int .i64 1)).heap[r]? = some o ∧ o.isCells = false := fun r e => by cases e; exact ⟨by omega, _, hK', rfl⟩
      refine ⟨by simp, .inl ⟨_, _, rfl, run_takeDeferred hK', ?_⟩⟩
      have h2 := hfin.turn (grownBy_putObj' _ D (.deferred none)) hrow
      have hb5 := h2.res.cell
      exact ⟨.int .i64 1, by simp [results, Try.f9, go_sem, hb5], by rw [HRE.out]; rfl, h2.below⟩
    | false =>
      gi_wp2
      have hfin := HI.out.setR (-1)
      have hK' := (KeepsOthers.setCell W ⟨w.heap.size + 1, 0, none⟩ (.int .i64 (-1))).same D _ HK.out rfl
      have hrow : ∀ r, some D = some r → w.heap.size ≤ r ∧ ∃ o : Obj, (W.setCell ⟨w.heap.size + 1, 0, none⟩ (.int .i64 (-1))).heap[r]? = some o ∧ o.isCells = false := fun r e => by cases e; exact ⟨by omega, _, hK', rfl⟩
      refine ⟨by simp, .inl ⟨_, _, rfl, run_takeDeferred hK', ?_⟩⟩
      have h2 := hfin.turn (grownBy_putObj' _ D (.deferred none)) hrow
      have hb5 := h2.res.cell
      exact ⟨.int .i64 (-1), by simp [results, Try.f9, go_sem, hb5], by rw [HRE.out]; rfl, h2.below⟩
  case stop =>
    rintro D c pre W hD hSp ⟨rfl, ⟨k, hk, hhk⟩, o, hI⟩ hK
    have HRE := hid (show inF ps (px, py) = 0 by
      unfold inF
      rw [if_pos (List.any_eq_true.2 ⟨k, List.mem_range.2 (by rw [HN.out]; exact hk), hhk⟩)])
    have HI := hid hI
    have HK := hid hK
    clear hI hK h0 hbx hk hhk
    gi_wp2
    have hrow : ∀ r, some D = some r → w.heap.size ≤ r ∧ ∃ o : Obj, W.heap[r]? = some o ∧ o.isCells = false := fun r e => by cases e; exact ⟨by omega, _, HK.out, rfl⟩
    refine ⟨by simp, .inl ⟨_, _, rfl, run_takeDeferred HK.out, ?_⟩⟩
    have h2 := HI.out.turn (grownBy_putObj' _ D (.deferred none)) hrow
    have hb5 := h2.res.cell
    exact ⟨.int .i64 0, by simp [results, Try.f9, go_sem, hb5], by rw [HRE.out], h2.below⟩

theorem ringIn_any (v : Value) (ps : List Pp) (px py : Int) (w : World) (hs : Src w v ps) (hl : ps.length ≤ 4096) :
    Calls Try.prog 9 #[v, pv px py] w fun e w' => e = .returned (.int .i64 (inF ps (px, py))) ∧ Below w.heap.size w w' := by
  obtain ⟨ao, cap, b, off, rfl, h1, h2, h3⟩ := hs.view
  exact callsIn_wide.1 (inside_in ao ps.length cap b off ps px py w rfl h1 h2 h3 hl)
end Go.Proofs.Ytepnjknblppfcaa
