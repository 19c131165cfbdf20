/-
  Layer 13: RingTurned.
-/
import Derived.Test.YtepnjknblppfcaaRLaw
namespace Go.Proofs.Ytepnjknblppfcaa
open Go.RowKit Go.Sort

theorem turnedL_gl {ps : List Pp} (h : Gl ps) : Gl (turnedL ps) := fun p hp => by
  unfold turnedL at hp
  obtain ⟨i, hi, rfl⟩ := List.mem_map.1 hp
  have := List.mem_range.1 hi
  exact h _ (List.mem_of_getElem? (at_lpt (Nat.mod_lt _ (by omega))))
theorem lpt_turned {ps : List Pp} {i : Nat} (h : i < ps.length) : lpt (turnedL ps) i = lpt ps ((ps.length - i) % ps.length) := by
  refine lpt_at ?_
  unfold turnedL
  rw [List.getElem?_map, List.getElem?_range h]
  rfl
theorem ringQ_turned {ps : List Pp} {i : Nat} (h : i < ps.length) : ringQ (turnedL ps) i = ringQ ps ((ps.length - i) % ps.length) := by
  unfold ringQ
  rw [lpt_turned h]
theorem areaR_congr {n : Nat} {q r : Nat → Pp} (h : ∀ i, i < n → q i = r i) : areaR n q = areaR n r := by
  unfold areaR
  refine sN_congr fun i hi => ?_
  rw [h i hi, h _ (Nat.mod_lt _ (by omega))]
theorem insideR_congr {n : Nat} {q r : Nat → Pp} (p : Pp) (h : ∀ i, i < n → q i = r i) : insideR n q p = insideR n r p := by
  unfold insideR onR rayR
  rw [cN_congr (c := fun i => on2 (r i) (r ((i + 1) % n)) p) (fun i hi => by rw [h i hi, h _ (Nat.mod_lt _ (by omega))]), cN_congr (b := fun i => rayP (q i) (q ((i + 1) % n)) p) (c := fun i => rayP (r i) (r ((i + 1) % n)) p) (fun i hi => by rw [h i hi, h _ (Nat.mod_lt _ (by omega))])]
theorem areaL_turned (ps : List Pp) : areaL (turnedL ps) = -areaL ps := by
  unfold areaL
  rw [turnedL_len, areaR_congr (fun i hi => ringQ_turned hi)]
  exact areaR_back ps.length (ringQ ps)
theorem insideL_turned (ps : List Pp) (p : Pp) : insideL (turnedL ps) p = insideL ps p := by
  unfold insideL
  rw [turnedL_len, insideR_congr _ (fun i hi => ringQ_turned hi)]
  exact insideR_back ps.length (ringQ ps) (clP p)
theorem insideG_turned (ps : List Pp) (p : Pp) : insideG (turnedL ps) p = insideG ps p := by
  unfold insideG
  rw [insideL_turned]
theorem turned_turned (ps : List Pp) : turnedL (turnedL ps) = ps := by
  refine List.ext_getElem? fun t => ?_
  by_cases ht : t < ps.length
  · have e1 : turnedL (turnedL ps) = (List.range (turnedL ps).length).map fun i => lpt (turnedL ps) (((turnedL ps).length - i) % (turnedL ps).length) := rfl
    rw [e1, turnedL_len, List.getElem?_map, List.getElem?_range ht, at_lpt ht]
    show some (lpt (turnedL ps) ((ps.length - t) % ps.length)) = some (lpt ps t)
    rw [lpt_turned (Nat.mod_lt _ (by omega))]
    congr 2
    cases t with
    | zero => rw [Nat.sub_zero, Nat.mod_self, Nat.sub_zero, Nat.mod_self]
    | succ t => rw [Nat.mod_eq_of_lt (show ps.length - (t + 1) < ps.length by omega), Nat.mod_eq_of_lt (by omega)]; omega
  · rw [List.getElem?_eq_none (by rw [turnedL_len, turnedL_len]; omega), List.getElem?_eq_none (by omega)]


set_option maxRecDepth 100000 in
set_option maxHeartbeats 8000000 in
theorem ringTurned_core (H : RingC) (w : World) (u : Value) (ps : List Pp) (px py : Int) (hu : Src w u ps) (hlp : ps.length ≤ 140737488355328) :
    Calls Try.prog 5 #[u, pv px py] w fun e w' => e = .returned (.bool true) ∧ Below w.heap.size w w' := by
  obtain ⟨ao, ca, e1, _⟩ := hu.pts
  subst e1
  obtain ⟨n, hn⟩ : ∃ n, ps.length = n := ⟨_, rfl⟩
  have HN := hid hn
  rw [hn] at hu hlp ⊢
  obtain ⟨wA, hwA⟩ : ∃ wA, w.alloc (.cells #[.int .i64 px, .int .i64 py] 24) = wA := ⟨_, rfl⟩
  obtain ⟨hA, hBL, hszA⟩ := box1 hwA
  have HPT := hid hA
  have HU := hid (hu.below hBL)
  have HB := hid hBL
  clear hu hn hA hBL
  by_cases h100 : 100 < n
  · have hI : (100 : Int) < (n : Int) := by omega
    go_enter Try.func5, Try.ntmps5
    go_wp2_with (go_at_call 8; refine (ringAwake_any H _).mono ?_; rintro e w9 ⟨rfl, hb9⟩; replace HB := hid (HB.out.trans (hb9.mono HB.out.size)); clear hb9)
    go_ret
    exact ⟨rfl, HB.out⟩
  · have hI : ¬ (100 : Int) < (n : Int) := by omega
    obtain ⟨xs, hxs⟩ : ∃ xs, ps.map clP = xs := ⟨_, rfl⟩
    obtain ⟨ts, hts⟩ : ∃ ts, turnedL xs = ts := ⟨_, rfl⟩
    have HGX := hid (show Gl xs by rw [← hxs]; exact gl_map ps)
    have HGT := hid (show Gl ts by rw [← hts]; exact turnedL_gl HGX.out)
    have HLX := hid (show xs.length = n by rw [← hxs, List.length_map, HN.out])
    have HLT := hid (show ts.length = n by rw [← hts, turnedL_len, HLX.out])
    have HTT := hid (show turnedL ts = xs by rw [← hts]; exact turned_turned xs)
    have H1 := hid (show ∀ W, Pts W (.slice ao n ca) ps → Calls Try.prog 11 #[.slice ao n ca] W fun e w' => (∃ u, e = .returned u ∧ Src w' u xs) ∧ Below W.heap.size W w' from fun W h => by rw [← hxs]; exact grid_any _ ps W h (by rw [HN.out]; omega))
    have F1 := hid (fun x W h => H.turned x xs W h HGX.out (by have := HLX.out; omega))
    rw [hts] at F1
    have F2 := hid (fun x W h => H.area x ts W h HGT.out (by have := HLT.out; omega))
    rw [show areaL ts = -areaL xs by rw [← hts]; exact areaL_turned xs] at F2
    have F3 := hid (fun x W h => H.area x xs W h HGX.out (by have := HLX.out; omega))
    have F4 := hid (fun x W h => H.inside x ts px py W h HGT.out (by have := HLT.out; omega))
    rw [show insideG ts (px, py) = insideG xs (px, py) by rw [← hts]; exact insideG_turned xs _] at F4
    have F5 := hid (fun x W h => H.inside x xs px py W h HGX.out (by have := HLX.out; omega))
    have F6 := hid (fun x W h => H.turned x ts W h HGT.out (by have := HLT.out; omega))
    rw [HTT.out] at F6
    have F7 := hid (fun r r2 W h h' => refSame_any r r2 xs xs W h h' (by have := HLX.out; omega))
    rw [show decide (xs = xs) = true by simp] at F7
    have hab : -900719925474099 ≤ areaL xs ∧ areaL xs ≤ 900719925474099 := by
      have q := areaK_bound xs xs.length
      rw [areaK_all] at q
      have := HLX.out
      omega
    generalize areaL xs = AR at *
    generalize insideG xs (px, py) = IN at *
    have hwn : IntKind.i64.wrap (-AR) = -AR := by rw [IntKind.wrap_i64]; omega
    clear hxs hts HTT
    go_enter Try.func5, Try.ntmps5
    go_wp2_with (first
      | (go_at_call 11; refine (H1.out _ HU.out.pts).mono ?_; rintro e w1 ⟨⟨x, rfl, hx⟩, hb1⟩; replace HPT := hid (HPT.out.below hb1 HPT.out.lt); replace HB := hid (HB.out.trans (hb1.mono HB.out.size)); obtain ⟨xo, xc, ex, _⟩ := hx.pts; subst ex; rw [HLX.out] at hx ⊢; have HX := hid hx; clear hx H1 hb1 HU)
      | (go_at_call 12; refine (F1.out _ _ HX.out).mono ?_; rintro e w2 ⟨⟨t, rfl, ht⟩, hb2⟩; replace HX := hid (HX.out.below hb2); replace HPT := hid (HPT.out.below hb2 HPT.out.lt); replace HB := hid (HB.out.trans (hb2.mono HB.out.size)); obtain ⟨tO, tC, et, _⟩ := ht.pts; subst et; rw [HLT.out] at ht ⊢; have HT := hid ht; clear ht F1 hb2))
    replace HX := hid (show Src w2.drew _ xs from HX.out.below (Below.refl _ _).drew)
    replace HT := hid (show Src w2.drew _ ts from HT.out.below (Below.refl _ _).drew)
    replace HB := hid (show Below w.heap.size w w2.drew from HB.out.drew)
    replace HPT := hid (show Pt w2.drew w.heap.size px py from HPT.out)
    go_region_held (fun w' => w'.cell? ⟨w.heap.size, 0, none⟩ = some (.int .i64 px) ∧ w'.cell? ⟨w.heap.size, 1, none⟩ = some (.int .i64 py)) (first | exact ⟨HPT.out.c0, HPT.out.c1⟩) (first
      | (go_at_call 10; refine (F2.out _ _ HT.out).mono ?_; rintro e w3 ⟨rfl, hb3⟩; replace HX := hid (HX.out.below hb3); replace HT := hid (HT.out.below hb3); replace HPT := hid (HPT.out.below hb3 HPT.out.lt); replace HB := hid (HB.out.trans (hb3.mono HB.out.size)); clear hb3 F2)
      | (go_at_call 10; refine (F3.out _ _ HX.out).mono ?_; rintro e w4 ⟨rfl, hb4⟩; replace HX := hid (HX.out.below hb4); replace HT := hid (HT.out.below hb4); replace HPT := hid (HPT.out.below hb4 HPT.out.lt); replace HB := hid (HB.out.trans (hb4.mono HB.out.size)); clear hb4 F3)
      | (go_at_call 9; refine (F4.out _ _ HT.out).mono ?_; rintro e w5 ⟨rfl, hb5⟩; replace HX := hid (HX.out.below hb5); replace HT := hid (HT.out.below hb5); replace HPT := hid (HPT.out.below hb5 HPT.out.lt); replace HB := hid (HB.out.trans (hb5.mono HB.out.size)); clear hb5 F4)
      | (go_at_call 9; refine (F5.out _ _ HX.out).mono ?_; rintro e w6 ⟨rfl, hb6⟩; replace HX := hid (HX.out.below hb6); replace HT := hid (HT.out.below hb6); replace HPT := hid (HPT.out.below hb6 HPT.out.lt); replace HB := hid (HB.out.trans (hb6.mono HB.out.size)); clear hb6 F5)
      | (go_at_call 12; refine (F6.out _ _ HT.out).mono ?_; rintro e w7 ⟨⟨t2, rfl, ht2⟩, hb7⟩; have HT2 := hid ht2; replace HX := hid (HX.out.below hb7); replace HPT := hid (HPT.out.below hb7 HPT.out.lt); replace HB := hid (HB.out.trans (hb7.mono HB.out.size)); clear hb7 F6 ht2)
      | (go_at_call 13; refine (F7.out _ _ _ HT2.out.pts HX.out.pts).mono ?_; rintro e w8 ⟨rfl, hb8⟩; replace HPT := hid (HPT.out.below hb8 HPT.out.lt); replace HB := hid (HB.out.trans (hb8.mono HB.out.size)); clear hb8 F7)
      | (go_at_call 8; refine (ringAwake_any H _).mono ?_; rintro e w9 ⟨rfl, hb9⟩; replace HPT := hid (HPT.out.below hb9 HPT.out.lt); replace HB := hid (HB.out.trans (hb9.mono HB.out.size)); clear hb9))
    all_goals
      go_wp2
      go_ret
      exact ⟨rfl, HB.out⟩

end Go.Proofs.Ytepnjknblppfcaa
