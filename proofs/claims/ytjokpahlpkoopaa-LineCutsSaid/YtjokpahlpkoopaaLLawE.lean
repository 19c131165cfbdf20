/-
  LineCuts, given what line answers.
-/
import Derived.Test.YtjokpahlpkoopaaLSlices
namespace Go.Proofs.Ytjokpahlpkoopaa
open Go.RowKit Go.Sort


/-- The pieces that were cut off, from behind. -/
def Cuts (W : World) (P : Value) (l : List Pp) (vs : List Value) : Prop := ∀ t v, vs[t]? = some v → Src W v [lpt l (l.length - 2 - t), lpt l (l.length - 1 - t)] ∧ Off P v
theorem Cuts.below {w w' : World} {P : Value} {l : List Pp} {vs : List Value} (h : Cuts w P l vs) (hb : Below w.heap.size w w') : Cuts w' P l vs := fun t v ht => ⟨(h t v ht).1.below hb, (h t v ht).2⟩
theorem Cuts.keepBy {w w' : World} {P P' : Value} {l : List Pp} {vs : List Value} (h : Cuts w P l vs) (hg : RowBy w w' P P') : Cuts w' P' l vs := fun t v ht => (h t v ht).1.keepBy (by simp) hg (h t v ht).2
theorem Cuts.snoc {w : World} {P v : Value} {l : List Pp} {vs : List Value} (h : Cuts w P l vs) (hv : Src w v [lpt l (l.length - 2 - vs.length), lpt l (l.length - 1 - vs.length)]) (ho : Off P v) : Cuts w P l (vs ++ [v]) := fun t u ht => by
  rcases Nat.lt_or_ge t vs.length with hlt | hge
  · rw [List.getElem?_append_left hlt] at ht
    exact h t u ht
  · rw [List.getElem?_append_right hge] at ht
    obtain ⟨e1, e2⟩ := List.getElem?_eq_some_iff.1 ht
    have e0 : t = vs.length := by simp at e1; omega
    subst e0
    simp at e2
    subst e2
    exact ⟨hv, ho⟩
set_option maxRecDepth 100000 in
set_option maxHeartbeats 6400000 in
theorem lineCuts_core (H : LineC) (w : World) (v : Value) (ps : List Pp) (hs : Src w v ps) (hlp : ps.length ≤ 140737488355328) :
    Calls Try.prog 3 #[v] w fun e w' => e = .returned (.bool true) ∧ Below w.heap.size w w' := by
  obtain ⟨ao, ca, hu, _⟩ := hs.pts
  subst hu
  obtain ⟨n, hn⟩ : ∃ n, ps.length = n := ⟨_, rfl⟩
  have HN := hid hn
  rw [hn] at hs ⊢
  have HS := hid hs
  have HB := hid (Below.refl w.heap.size w)
  have F1 := hid (fun W h => refOk12_any (.slice ao n ca) ps W h hlp)
  obtain ⟨O, hO⟩ : ∃ O, okL ps = O := ⟨_, rfl⟩
  rw [hO] at F1
  cases O with
  | false =>
    clear hs hn hO
    go_enter Try.func3, Try.ntmps3
    go_wp2_with (first
      | (go_at_call 9; refine (F1.out _ HS.out.pts).mono ?_; rintro e w1 ⟨rfl, hb1⟩; replace HB := hid (HB.out.trans (hb1.mono HB.out.size)); clear F1; clear hb1)
      | (go_at_call 10; refine (lineAwake_any H _).mono ?_; rintro e w9 ⟨rfl, hb9⟩; replace HB := hid (HB.out.trans (hb9.mono HB.out.size)); clear hb9))
    go_ret
    exact ⟨rfl, HB.out⟩
  | true =>
    have HO := hid hO
    obtain ⟨h2, h64⟩ := okL_len hO
    rw [hn] at h2 h64
    have HG := hid (okL_gl hO)
    obtain ⟨q, rfl⟩ : ∃ q, n = q + 2 := ⟨n - 2, by omega⟩
    have hq2 : ((q : Int) + 2 - 2) = (q : Int) := by omega
    clear hs hn hO
    go_enter Try.func3, Try.ntmps3
    go_wp2_with (first
      | (go_at_call 9; refine (F1.out _ HS.out.pts).mono ?_; rintro e w1 ⟨rfl, hb1⟩; replace HB := hid (HB.out.trans (hb1.mono HB.out.size)); clear F1; obtain ⟨wE, hwE⟩ : ∃ wE, w1.alloc (.cells #[] 29) = wE := ⟨_, rfl⟩; have hbE : Below w1.heap.size w1 wE := (by rw [← hwE]; exact (Below.refl _ _).alloc (Nat.le_refl _) _); obtain ⟨vR, w2, hrunR, hrowR, hbR, _⟩ := (show PtRow wE w1.heap.size (.slice (some ⟨w1.heap.size, 0, none⟩) 0 0) [] by rw [← hwE]; exact PtRow.lit0 w1).add ((HS.out.below HB.out).below hbE) hbE.size (by rw [HN.out]; simp; omega); rw [List.nil_append] at hrowR; obtain ⟨ro, rc, eR⟩ := hrowR.form; subst eR; rw [HN.out] at hrowR hrunR; have HRUNR := hid hrunR; have HR := hid hrowR.src; replace HB := hid (HB.out.trans ((hbE.trans hbR).mono HB.out.size)); clear hrunR hrowR hbR hbE; clear hb1)
      | (at_builtin; refine wpList_append_run rfl (.tmp 14) (.tmp 15) 22 rfl rfl rfl HRUNR.out ?_; clear HRUNR))
    go_loopw [3, 4, 5] (fun rv pv kv wr => ∃ (k m : Nat) (ro : Option Addr) (rc : Nat) (po : Option Addr) (pc : Nat) (vs : List Value), k + m = q ∧ kv = .int .i64 k ∧ rv = .slice ro (k + 2) rc ∧ pv = .slice po m pc ∧ vs.length = m ∧ Src wr (.slice ro (k + 2) rc) (ps.take (k + 2)) ∧ Off (.slice po m pc) (.slice ro (k + 2) rc) ∧ SvRow wr w.heap.size (.slice po m pc) vs ∧ Cuts wr (.slice po m pc) ps vs ∧ Below w.heap.size w wr) (fun _ _ kv _ => (intOf kv).toNat)
    case atStart => exact ⟨q, 0, ro, rc, none, 0, [], by omega, rfl, rfl, rfl, rfl, by rw [List.take_of_length_le (by rw [HN.out]; exact Nat.le_refl _)]; exact HR.out, (fun a n c _ h => nomatch h), SvRow.nil _ _, (fun t v h => by simp at h), HB.out⟩
    case round =>
      obtain ⟨k, m, ro, rc, po, pc, vs, hkm, rfl, rfl, rfl, hvs, hr, hoff, hrow, hcuts, hbr⟩ := hrel
      clear HR HB
      have HVS := hid hvs
      by_cases hk1 : 1 ≤ k
      · have hkI : (1 : Int) ≤ (k : Int) := by omega
        have hkJ : (k : Int) < (q : Int) + 2 := by omega
        have hk0 : (0 : Int) ≤ (k : Int) := by omega
        have hlen2 : (ps.take (k + 2)).length = k + 2 := by rw [List.length_take, HN.out]; omega
        obtain ⟨b, off, rfl, hc⟩ := (HS.out.below hbr).pts.row (by rw [HN.out]; omega)
        obtain ⟨z0, z1⟩ := hc k (by rw [HN.out]; omega)
        have hcut := cut_inner HO.out hk1 (show k + 1 < ps.length by rw [HN.out]; omega)
        have hgp : clP (lpt ps k) = lpt ps k := HG.out _ (List.mem_of_getElem? (at_lpt (by rw [HN.out]; omega)))
        have hgt : Gl (ps.take (k + 2)) := fun p hp => HG.out p (List.mem_of_mem_take hp)
        obtain ⟨⟨qx, qy⟩, hqq⟩ : ∃ p, lpt ps k = p := ⟨_, rfl⟩
        rw [hqq] at z0 z1 hgp
        dsimp only at z0 z1
        have G1 := hid (show ∀ W, Src W (.slice ro (k + 2) rc) (ps.take (k + 2)) → Calls Try.prog 11 #[.slice ro (k + 2) rc, pv qx qy] W fun e w' => (∃ x y, e = .returned (.tuple #[x, y, .bool true]) ∧ Src w' x (ps.take (k + 1)) ∧ Src w' y [lpt ps k, lpt ps (k + 1)] ∧ Newer W.heap.size x ∧ Newer W.heap.size y) ∧ Below W.heap.size W w' from fun W h => by
          have h1 := H.split (.slice ro (k + 2) rc) (ps.take (k + 2)) qx qy W h hgt hgp (by rw [hlen2]; omega)
          rw [← hqq] at h1
          rw [hcut] at h1
          exact h1)
        have HTL := hid (show (ps.take (k + 1)).length = k + 1 by rw [List.length_take, HN.out]; omega)
        have HPL := hid hqq
        have HRV := hid hr
        have HROW := hid hrow
        have HCT := hid hcuts
        have HB := hid hbr
        clear hc hcut hgp hgt hqq hlen2 hvs hr hoff hrow hcuts hbr
        go_wp2_with (first
          | (go_at_call 11; refine (G1.out _ HRV.out).mono ?_; rintro e w5 ⟨⟨x, y, rfl, hx, hy, nx, ny⟩, hb5⟩; obtain ⟨ax, cx, ex, _⟩ := hx.pts; subst ex; rw [HTL.out] at hx nx ⊢; obtain ⟨ay, cy, ey⟩ : ∃ ay cy, y = .slice ay 2 cy := (by obtain ⟨ay, cy, ey, _⟩ := hy.pts; exact ⟨ay, cy, ey⟩); subst ey; have o1 := Off.of HROW.out nx; have o2 := Off.of HROW.out ny; have hrow5 := HROW.out.below hb5; have hct5 := (HCT.out.below hb5).snoc (v := .slice ay 2 cy) (by rw [HVS.out, HN.out, show q + 2 - 2 - m = k by omega, show q + 2 - 1 - m = k + 1 by omega]; exact hy) o2; have hB5 := HB.out.trans (hb5.mono HB.out.size); obtain ⟨po2, pc2, w6, hrun6, hrow6, hb6, hg6⟩ := hrow5.snoc hB5.size (by rw [HVS.out]; omega) (.slice ay 2 cy) ⟨_, _, _, rfl⟩; rw [HVS.out] at hrun6 hrow6 hg6; obtain ⟨hx6, ox6⟩ := hx.keepBy (by rw [HTL.out]; omega) hg6 o1; have HCT6 := hid (hct5.keepBy hg6); have HX6 := hid hx6; have OX6 := hid ox6; have HROW6 := hid hrow6; have HRUN6 := hid hrun6; have HB6 := hid (hB5.trans hb6); clear hx hy nx ny o1 o2 hrow5 hct5 hB5 hrun6 hrow6 hb6 hg6 hx6 ox6 hb5 G1 HRV HROW HCT HB)
          | (at_builtin; refine wpList_append_run rfl (.tmp 43) (.tmp 45) 25 rfl rfl rfl HRUN6.out ?_; clear HRUN6))
        go_roundw
        case rel =>
          obtain ⟨k', rfl⟩ : ∃ k', k = k' + 1 := ⟨k - 1, by omega⟩
          exact ⟨k', m + 1, ax, cx, po2, pc2, vs ++ [.slice ay 2 cy], by omega, by go_num, rfl, rfl, by rw [List.length_append, HVS.out]; rfl, HX6.out, OX6.out, HROW6.out, HCT6.out, HB6.out⟩
        case measure => simp [intOf]; omega
      · have HK0 := hid (show k = 0 by omega)
        have hkI : ¬ (1 : Int) ≤ (k : Int) := by omega
        have hkB : decide ((1 : Int) ≤ (k : Int)) = false := decide_eq_false hkI
        have hkB' : decide (1 ≤ k) = false := decide_eq_false hk1
        obtain rfl : m = q := by omega
        have HROW := hid hrow
        have HCT := hid hcuts
        have HB := hid hbr
        have HRV := hid hr
        clear hvs hr hoff hrow hcuts hbr hkm hk1
        go_wp2
        go_loopw [3, 9] (fun rv iv wy => ∃ (t : Nat) (ro : Option Addr) (L rc : Nat), t ≤ m ∧ iv = .int .i64 ((t : Int) - 1) ∧ rv = .slice ro L rc ∧ Src wy (.slice ro L rc) (ps.take (m + 2 - t)) ∧ SvRow wy w.heap.size (.slice po m pc) vs ∧ Cuts wy (.slice po m pc) ps vs ∧ Below w.heap.size w wy) (fun _ iv _ => (intOf iv + 1).toNat)
        case atStart => exact ⟨m, ro, k + 2, rc, by omega, rfl, rfl, by have h0 := HK0.out; rw [show m + 2 - m = k + 2 by omega]; exact HRV.out, HROW.out, HCT.out, HB.out⟩
        case round =>
          obtain ⟨t, ro, L, rc, ht, rfl, rfl, hr, hrow, hcuts, hby⟩ := hrel
          clear HROW HCT HB HRV
          match t, ht with
          | t + 1, ht =>
            have e1 : ((t + 1 : Nat) : Int) - 1 = (t : Int) := by omega
            rw [e1]
            have htI : (t : Int) < (m : Int) := by omega
            have ht0 : (0 : Int) ≤ (t : Int) := by omega
            obtain ⟨u, hu⟩ : ∃ u, vs[t]? = some u := ⟨_, List.getElem?_eq_getElem (by rw [HVS.out]; omega)⟩
            obtain ⟨g, rfl, hcell⟩ := hrow.at hu
            obtain ⟨hsu, _⟩ := hcuts t u hu
            rw [HN.out, show m + 2 - 2 - t = m - t by omega, show m + 2 - 1 - t = m - t + 1 by omega] at hsu
            rw [show m + 2 - (t + 1) = m - t + 1 by omega] at hr
            have hji := join_inner (ps := ps) (j := m - t) (by rw [HN.out]; omega)
            have G1 := hid (show ∀ W, Src W (.slice ro L rc) (ps.take (m - t + 1)) → Src W u [lpt ps (m - t), lpt ps (m - t + 1)] → Calls Try.prog 12 #[.slice ro L rc, u] W fun e w' => (∃ x, e = .returned x ∧ Src w' x (ps.take (m - t + 2))) ∧ Below W.heap.size W w' from fun W h h' => by
              rw [← hji]
              refine H.join (.slice ro L rc) u _ _ W h h' (fun p hp => HG.out p (List.mem_of_mem_take hp)) (fun p hp => ?_) (by rw [List.length_take, HN.out]; omega) (by simp)
              simp only [List.mem_cons, List.not_mem_nil, or_false] at hp
              rcases hp with rfl | rfl
              · exact HG.out _ (List.mem_of_getElem? (at_lpt (by rw [HN.out]; omega)))
              · exact HG.out _ (List.mem_of_getElem? (at_lpt (by rw [HN.out]; omega))))
            have HRV := hid hr
            have HSU := hid hsu
            have HROW := hid hrow
            have HCT := hid hcuts
            have HB := hid hby
            clear hr hrow hcuts hby hsu hji e1
            go_wp2_with (first
              | (go_at_call 12; refine (G1.out _ HRV.out HSU.out).mono ?_; rintro e w5 ⟨⟨x, rfl, hx⟩, hb5⟩; replace HROW := hid (HROW.out.below hb5); replace HCT := hid (HCT.out.below hb5); replace HB := hid (HB.out.trans (hb5.mono HB.out.size)); obtain ⟨ax, cx, ex, _⟩ := hx.pts; subst ex; have HX := hid hx; clear hx G1; clear hb5))
            go_roundw
            case rel => exact ⟨t, ax, _, cx, by omega, rfl, rfl, by have h := HX.out; rw [List.length_take] at h; rw [show m + 2 - t = m - t + 2 by omega]; exact h, HROW.out, HCT.out, HB.out⟩
            case measure => simp [intOf]
          | 0, ht =>
            have HB := hid hby
            have HRV := hid hr
            have F2 := hid (fun W h h' => refSame_any (.slice ro L rc) (.slice ao (m + 2) ca) (ps.take (m + 2 - 0)) ps W h h' (by rw [List.length_take, HN.out]; omega))
            have D1 : Hid (decide (ps.take (m + 2 - 0) = ps) = true) := hid (decide_eq_true (List.take_of_length_le (by rw [HN.out]; omega)))
            rw [D1.out] at F2
            clear hr hrow hcuts hby
            go_wp2_with (first
              | (go_at_call 13; refine (F2.out _ HRV.out.pts (HS.out.below HB.out).pts).mono ?_; rintro e w6 ⟨rfl, hb6⟩; replace HB := hid (HB.out.trans (hb6.mono HB.out.size)); clear F2; clear hb6)
              | (go_at_call 10; refine (lineAwake_any H _).mono ?_; rintro e w7 ⟨rfl, hb7⟩; replace HB := hid (HB.out.trans (hb7.mono HB.out.size)); clear hb7))
            go_ret
            exact ⟨rfl, HB.out⟩

end Go.Proofs.Ytjokpahlpkoopaa
