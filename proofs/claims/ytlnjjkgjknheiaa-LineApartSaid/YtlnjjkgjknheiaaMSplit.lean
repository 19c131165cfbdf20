/-
  line's Split.
-/
import Derived.Test.YtlnjjkgjknheiaaMI
import Derived.Test.YtlnjjkgjknheiaaMG
import Derived.Test.YtlnjjkgjknheiaaMJoin
namespace Go.Proofs.Ytlnjjkgjknheiaa
open Go.RowKit Go.Sort

theorem PtRow.newer {w : World} {base : Nat} {v : Value} {ps : List Pp} (h : PtRow w base v ps) : Newer base v := by
  rcases h.2 with ⟨rfl, _⟩ | ⟨g, cap, cur, rfl, h1, _⟩
  · intro a n c e
    cases e
  · intro a n c e
    injection e with e
    injection e with e
    subst e
    exact h1
theorem newer_nil (base : Nat) : Newer base (.slice none 0 0) := fun a n c e => by cases e
/-- Where a line is parted the point is none of its own ahead of it. -/
theorem at_ne {ps : List Pp} {p : Pp} {k : Nat} (_hg : Gl ps) (h : atL ps p = some k) (he : endL ps p = false) : lpt ps k ≠ p := by
  have hk := atL_lt h
  intro e
  cases k with
  | zero =>
    unfold endL at he
    rw [e, eqp_self] at he
    cases he
  | succ j =>
    have h1 := (List.find?_range_eq_some.1 h).2.2 j (by omega)
    have h2 : onL ps p j = true := by
      unfold onL
      rw [e, on_right]
    rw [h2] at h1
    cases h1
theorem split_left {ps : List Pp} {p : Pp} {k : Nat} (hg : Gl ps) (h : atL ps p = some k) (he : endL ps p = false) : joinL (ps.take (k + 1)) [p] = ps.take (k + 1) ++ [p] := by
  have hk := atL_lt h
  unfold joinL
  rw [if_neg]
  rintro ⟨_, _, e⟩
  rw [List.length_take, show min (k + 1) ps.length - 1 = k by omega, lpt_take (by omega) (by omega)] at e
  exact at_ne hg h he e
theorem split_right {ps : List Pp} {p : Pp} {k : Nat} (hk : k + 1 < ps.length) : joinL [p] (ps.drop (k + 1)) = if lpt ps (k + 1) = p then ps.drop (k + 1) else p :: ps.drop (k + 1) := by
  unfold joinL
  have h0 : lpt (ps.drop (k + 1)) 0 = lpt ps (k + 1) := lpt_drop (by omega)
  have h1 : lpt [p] ([p].length - 1) = p := rfl
  rw [h0, h1]
  by_cases e : lpt ps (k + 1) = p
  · rw [if_pos ⟨by simp, by rw [List.length_drop]; omega, e.symm⟩, if_pos e, List.drop_drop, List.singleton_append]
    have := List.drop_eq_getElem_cons (l := ps) (i := k + 1) (by omega)
    rw [this]
    congr 1
    have q := at_lpt (ps := ps) (i := k + 1) (by omega)
    rw [List.getElem?_eq_getElem (by omega)] at q
    rw [← e]
    exact (Option.some.inj q).symm
  · rw [if_neg (fun h => e h.2.2.symm), if_neg e]
    rfl

set_option maxRecDepth 100000 in
set_option maxHeartbeats 8000000 in
theorem lineSplit_any (u : Value) (ps : List Pp) (px py : Int) (w : World) (hs : Src w u ps) (hg : Gl ps) (hgp : clP (px, py) = (px, py)) (hl : ps.length ≤ 200) :
    Calls Try.prog 14 #[u, pv px py] w fun e w' => (∃ x y, e = .returned (.tuple #[x, y, .bool (splitL ps (px, py)).2]) ∧ Src w' x (splitL ps (px, py)).1.1 ∧ Src w' y (splitL ps (px, py)).1.2 ∧ Newer w.heap.size x ∧ Newer w.heap.size y) ∧ Below w.heap.size w w' := by
  obtain ⟨ao, ca, hu, _⟩ := hs.pts
  subst hu
  obtain ⟨wP, hwP⟩ : ∃ wP, w.alloc (.cells #[.int .i64 px, .int .i64 py] 24) = wP := ⟨_, rfl⟩
  obtain ⟨hPp, hBP, hszP⟩ := box1 hwP
  have a0 := hPp.c0; have a1 := hPp.c1
  have HPp := hid hPp
  have HBP := hid hBP
  have HAT := hid (lineAt_any _ ps px py wP (hs.pts.below hBP) hg hgp (by omega))
  have HEN := hid (fun h1 W (hb : Below w.heap.size w W) => isEnd_any _ ps px py W (hs.pts.below hb) h1 (by omega))
  have HGL := hid hg
  obtain ⟨n, hn⟩ : ∃ n, ps.length = n := ⟨_, rfl⟩
  have HN := hid hn
  rw [hn] at hl hs HAT HEN ⊢
  have HS := hid hs
  clear hs hn hPp hBP hg hgp
  cases hat : atL ps (px, py) with
  | none =>
    have HSP := hid (show splitL ps (px, py) = (([], []), false) by unfold splitL; rw [hat])
    rw [HSP.out]
    dsimp only
    rw [hat] at HAT
    have e0 : atI none = -1 := rfl
    rw [e0] at HAT
    clear hat e0
    go_enter Try.func14, Try.ntmps14
    go_wp2_with (go_at_call 28; refine HAT.out.mono ?_; rintro e w1 ⟨rfl, hb1⟩; have HB1 := hid (HBP.out.trans (hb1.mono HBP.out.size)); clear hb1 HAT)
    refine bodyPost_ret (v := .tuple #[.slice none 0 0, .slice none 0 0, .bool false]) (by simp [results, Try.results14, go_sem]) rfl ?_
    exact ⟨⟨_, _, rfl, .inl ⟨rfl, rfl⟩, .inl ⟨rfl, rfl⟩, newer_nil _, newer_nil _⟩, HB1.out⟩
  | some k =>
    have hk1 := atL_lt hat
    rw [HN.out] at hk1
    rw [hat] at HAT
    have e0 : atI (some k) = (k : Int) := rfl
    rw [e0] at HAT
    clear e0
    have gk : decide ((k : Int) < 0) = false := decide_eq_false (by omega)
    have gk' : ¬ (k : Int) < 0 := by omega
    replace HEN := hid (HEN.out (by omega))
    cases hen : endL ps (px, py) with
    | true =>
      have HSP := hid (show splitL ps (px, py) = (([], []), false) by unfold splitL; rw [hat]; dsimp only; rw [hen]; rfl)
      rw [HSP.out]
      dsimp only
      rw [hen] at HEN
      clear hat hen
      go_enter Try.func14, Try.ntmps14
      go_wp2_with (first
        | (go_at_call 28; refine HAT.out.mono ?_; rintro e w1 ⟨rfl, hb1⟩; have HB1 := hid (HBP.out.trans (hb1.mono HBP.out.size)); have HP1 := hid (HPp.out.below hb1 HPp.out.lt); have b0 := HP1.out.c0; have b1 := HP1.out.c1; clear hb1 HAT)
        | (go_at_call 27; refine (HEN.out _ HB1.out).mono ?_; rintro e w2 ⟨rfl, hb2⟩; replace HB1 := hid (HB1.out.trans (hb2.mono HB1.out.size)); clear hb2 HEN))
      refine bodyPost_ret (v := .tuple #[.slice none 0 0, .slice none 0 0, .bool false]) (by simp [results, Try.results14, go_sem]) rfl ?_
      exact ⟨⟨_, _, rfl, .inl ⟨rfl, rfl⟩, .inl ⟨rfl, rfl⟩, newer_nil _, newer_nil _⟩, HB1.out⟩
    | false =>
      have HSP := hid (show splitL ps (px, py) = ((joinL (ps.take (k + 1)) [(px, py)], joinL [(px, py)] (ps.drop (k + 1))), true) by
        rw [split_left HGL.out hat hen, split_right (by rw [HN.out]; exact hk1)]
        unfold splitL
        rw [hat]
        dsimp only
        rw [hen]
        rfl)
      rw [HSP.out]
      dsimp only
      rw [hen] at HEN
      obtain ⟨b, off, rfl, hcap⟩ := HS.out.at (by rw [HN.out]; omega)
      have HJ1 := hid (fun O W (h1 : Src W (.slice (some ⟨O, 0, none⟩) 1 1) [(px, py)]) (hb : Below w.heap.size w W) => joinRow_any _ _ (ps.take (k + 1)) [(px, py)] W ((HS.out.below hb).take (k := k + 1) (by rw [HN.out]; omega)) h1 (by rw [List.length_take, HN.out]; omega) (by simp))
      have HJ2 := hid (fun O W (h1 : Src W (.slice (some ⟨O, 0, none⟩) 1 1) [(px, py)]) (hb : Below w.heap.size w W) => joinRow_any _ _ [(px, py)] (ps.drop (k + 1)) W h1 ((HS.out.below hb).drop (k := k + 1) (by rw [HN.out]; omega)) (by simp) (by rw [List.length_drop, HN.out]; omega))
      clear hat hen
      have hk2 : (k : Int) + 1 ≤ (n : Int) := by omega
      have hk3 : (k : Int) + 1 ≤ (ca : Int) := by omega
      have hk4 : ¬ (ca = k + 1) := by omega
      have hk5 : k + 1 ≤ n := by omega
      have hk6 : k + 1 ≤ ca := by omega
      go_enter Try.func14, Try.ntmps14
      go_wp2_with (first
        | (go_at_call 28; refine HAT.out.mono ?_; rintro e w1 ⟨rfl, hb1⟩; have HB1 := hid (HBP.out.trans (hb1.mono HBP.out.size)); have HP1 := hid (HPp.out.below hb1 HPp.out.lt); have b0 := HP1.out.c0; have b1 := HP1.out.c1; clear hb1 HAT)
        | (go_at_call 27; refine (HEN.out _ HB1.out).mono ?_; rintro e w2 ⟨rfl, hb2⟩; replace HB1 := hid (HB1.out.trans (hb2.mono HB1.out.size)); have HP2 := hid (HP1.out.below hb2 HP1.out.lt); have d0 := HP2.out.c0; have d1 := HP2.out.c1; clear hb2 HEN; obtain ⟨w3, hw3⟩ : ∃ w3, w2.alloc (.cells #[.int .i64 px, .int .i64 py] 24) = w3 := ⟨_, rfl⟩; have HSN := hid (show Src w3 (.slice (some ⟨w2.heap.size, 0, none⟩) 1 1) [(px, py)] by rw [← hw3]; exact Src.new w2 px py); have HB3 := hid (show Below w.heap.size w w3 by rw [← hw3]; exact HB1.out.alloc HB1.out.size _)))
      have HSD := hid (show Src w3.drew (.slice (some ⟨w2.heap.size, 0, none⟩) 1 1) [(px, py)] from HSN.out.below (Below.refl _ _).drew)
      have HBD := hid (show Below w.heap.size w w3.drew from HB3.out.drew)
      clear HSN HB3 HB1 HP2 HP1 d0 d1 b0 b1 a0 a1 hw3
      generalize w2.heap.size = O at *
      have hk0I : (0 : Int) ≤ (k : Int) + 1 := by omega
      have hcaI : (n : Int) ≤ (ca : Int) := by omega
      have hwr : IntKind.i64.wrap ((k : Int) + 1) = (k : Int) + 1 := by rw [IntKind.wrap_i64]; omega
      go_region_with (first
        | (go_at_call 29; (with_reducible refine (HJ1.out _ _ HSD.out HBD.out).mono ?_); rintro e w4 ⟨⟨x, rfl, hx⟩, hb4⟩; have HX := hid (hx.base HBD.out.size); replace HSD := hid (HSD.out.below hb4); replace HBD := hid (HBD.out.trans (hb4.mono HBD.out.size)); try (replace HY := hid (HY.out.below hb4)); clear hx hb4 HJ1)
        | (go_at_call 29; (with_reducible refine (HJ2.out _ _ HSD.out HBD.out).mono ?_); rintro e w5 ⟨⟨y, rfl, hy⟩, hb5⟩; have HY := hid (hy.base HBD.out.size); replace HSD := hid (HSD.out.below hb5); replace HBD := hid (HBD.out.trans (hb5.mono HBD.out.size)); try (replace HX := hid (HX.out.below hb5)); clear hy hb5 HJ2))
      all_goals
        go_wp2
        refine bodyPost_ret (v := .tuple #[x, y, .bool true]) (by simp [results, Try.results14, go_sem]) rfl ?_
        exact ⟨⟨_, _, rfl, HX.out.src, HY.out.src, HX.out.newer, HY.out.newer⟩, HBD.out⟩
end Go.Proofs.Ytlnjjkgjknheiaa
