/-
  ring's Holds, with slices.ContainsFunc and slices.IndexFunc of its closure; Inside of points of the grid, and beyond it.
-/
import Derived.Test.YtepnjknblppfcaaRIn
namespace Go.Proofs.Ytepnjknblppfcaa
open Go.RowKit Go.Sort

set_option maxHeartbeats 1600000 in
theorem holds1_any (Bl : Nat) (lv : Value) (ps : List Pp) (x y : Int) (w : World) (hb : w.cell? ⟨Bl, 0, none⟩ = some lv) (hs : Src w lv ps) (hl : ps.length ≤ 4096) :
    Calls Try.prog 26 #[pv x y, .pointer (some ⟨Bl, 0, none⟩)] w fun e w' => e = .returned (.bool (!(inF ps (x, y) == 1))) ∧ Below w.heap.size w w' := by
  obtain ⟨ao, ca, hu, _⟩ := hs.pts
  subst hu
  obtain ⟨wA, hwA⟩ : ∃ wA, w.alloc (.cells #[.int .i64 x, .int .i64 y] 24) = wA := ⟨_, rfl⟩
  obtain ⟨hA, hBL, hszA⟩ := box1 hwA
  have HB := hid hBL
  have a0 := hA.c0; have a1 := hA.c1
  have b0 : wA.cell? ⟨Bl, 0, none⟩ = some (.slice ao ps.length ca) := (hBL.cell (p := ⟨Bl, 0, none⟩) (World.block_lt_of_cell? w _ hb)).trans hb
  have H := hid (ringIn_any _ ps x y wA (hs.below hBL) hl)
  generalize inF ps (x, y) = R at *
  generalize ps.length = n at *
  clear hA hBL hb hs
  go_enter Try.func26, Try.ntmps26
  go_wp2_with (go_at_call 9; refine H.out.mono ?_; rintro e w1 ⟨rfl, hb1⟩; replace HB := hid (HB.out.trans (hb1.mono HB.out.size)); clear hb1 H)
  go_ret
  exact ⟨rfl, HB.out⟩

set_option maxHeartbeats 1600000 in
theorem ringIndex_any (nb : Pp → Bool) (cp : Value) (v : Value) (ms : List Pp) (w : World) (hp : Pts w v ms) (hl : ms.length ≤ 100000)
    (hcl : ∀ W, Below w.heap.size w W → ∀ x y, Calls Try.prog 26 #[pv x y, cp] W fun e w' => e = .returned (.bool (nb (x, y))) ∧ Below W.heap.size W w') :
    Calls Try.prog 38 #[v, .func (.func 26) #[] #[cp]] w fun e w' => (∃ i : Int, e = .returned (.int .i64 i) ∧ decide (0 ≤ i) = ms.any nb) ∧ Below w.heap.size w w' := by
  have hp' := hp
  obtain ⟨a, cap, rfl, _⟩ := hp'
  obtain ⟨n, hn⟩ : ∃ n, ms.length = n := ⟨_, rfl⟩
  have HN := hid hn
  rw [hn] at hl hp ⊢
  have HP := hid hp
  have HCL := hid hcl
  clear hp hn hcl
  go_enter Try.func38, Try.ntmps38
  go_wp2
  go_loopw [8] (fun iv wr => ∃ k : Nat, k ≤ n ∧ iv = .int .i64 k ∧ (∀ i, i < k → nb (lpt ms i) = false) ∧ Below w.heap.size w wr) (fun iv _ => n - (intOf iv).toNat)
  case atStart => exact ⟨0, by omega, rfl, (fun i hi => absurd hi (Nat.not_lt_zero i)), Below.refl _ _⟩
  case round =>
    obtain ⟨k, hk, rfl, hok, hbr⟩ := hrel
    have HG := hid hok
    have HBR := hid hbr
    clear hok
    by_cases hlt : k < n
    · have hkI : (k : Int) < (n : Int) := by omega
      obtain ⟨b, off, rfl, hc⟩ := (HP.out.below hbr).row (by rw [HN.out]; omega)
      obtain ⟨z0, z1⟩ := hc k (by rw [HN.out]; omega)
      obtain ⟨O, hO⟩ : ∃ O, nb (lpt ms k) = O := ⟨_, rfl⟩
      have HC := hid (HCL.out wr hbr (lpt ms k).1 (lpt ms k).2)
      have HO := hid (show ∀ i, i = k → nb (lpt ms i) = O from fun i hi => by rw [hi]; exact hO)
      rw [show nb ((lpt ms k).1, (lpt ms k).2) = O from hO] at HC
      have HMEM := hid (List.mem_of_getElem? (at_lpt (ps := ms) (i := k) (by rw [HN.out]; exact hlt)))
      have HOK := hid hO
      clear hO
      generalize (lpt ms k).1 = X0 at *
      generalize (lpt ms k).2 = Y0 at *
      clear hc hbr
      cases O with
      | false =>
        go_wp2_with (go_at_call 26; refine HC.out.mono ?_; rintro e w1 ⟨rfl, hb1⟩; replace HBR := hid (HBR.out.trans (hb1.mono HBR.out.size)); clear hb1)
        go_roundw
        case rel =>
          refine ⟨k + 1, by omega, by go_num, fun i hi => ?_, HBR.out⟩
          by_cases hik : i = k
          · exact HO.out i hik
          · exact HG.out i (by omega)
        case measure => simp [intOf]; omega
      | true =>
        go_wp2_with (go_at_call 26; refine HC.out.mono ?_; rintro e w1 ⟨rfl, hb1⟩; replace HBR := hid (HBR.out.trans (hb1.mono HBR.out.size)); clear hb1)
        go_ret
        refine ⟨⟨_, rfl, ?_⟩, HBR.out⟩
        rw [List.any_eq_true.2 ⟨_, HMEM.out, HOK.out⟩]
        exact decide_eq_true (Int.natCast_nonneg k)
    · have hkI : ¬ (k : Int) < (n : Int) := by omega
      clear hbr
      go_wp2
      go_ret
      refine ⟨⟨_, rfl, ?_⟩, HBR.out⟩
      rw [show ms.any nb = false from ?_]
      · rfl
      · rw [List.any_eq_false]
        intro p hp
        obtain ⟨i, hi⟩ := List.mem_iff_getElem?.1 hp
        have hil := (List.getElem?_eq_some_iff.1 hi).1
        rw [← lpt_at hi, HG.out i (by rw [HN.out] at hil; omega)]
        decide

set_option maxHeartbeats 1600000 in
theorem ringHolds_any (u v : Value) (ps ms : List Pp) (w : World) (hu : Src w u ps) (hv : Src w v ms) (hl : ps.length ≤ 4096) (hm : ms.length ≤ 4096) :
    Calls Try.prog 16 #[u, v] w fun e w' => e = .returned (.bool (decide (0 < ms.length) && ms.all fun m => inF ps m == 1)) ∧ Below w.heap.size w w' := by
  obtain ⟨wA, hwA⟩ : ∃ wA, w.alloc (.cells #[u] 22) = wA := ⟨_, rfl⟩
  have hBL : Below w.heap.size w wA := by rw [← hwA]; exact (Below.refl _ _).alloc (Nat.le_refl _) _
  have hbx : Boxed wA w.heap.size 22 u := by rw [← hwA]; exact Boxed.new w _ _
  have HB := hid hBL
  have HC := hid (show ∀ W, Below wA.heap.size wA W → Calls Try.prog 27 #[v, .func (.func 26) #[] #[.pointer (some ⟨w.heap.size, 0, none⟩)]] W fun e w' => e = .returned (.bool (ms.any fun m => !(inF ps m == 1))) ∧ Below W.heap.size W w' from fun W hW => by
    have HI := hid (ringIndex_any (fun m => !(inF ps m == 1)) (.pointer (some ⟨w.heap.size, 0, none⟩)) v ms W ((hv.below hBL).below hW).pts (by omega) (fun W' hW' x y => holds1_any w.heap.size u ps x y W' ((hW'.cell (p := ⟨w.heap.size, 0, none⟩) (by have := hbx.lt; have := hW.size; show w.heap.size < W.heap.size; omega)).trans ((hW.cell (p := ⟨w.heap.size, 0, none⟩) hbx.lt).trans hbx.cell)) (((hu.below hBL).below hW).below hW') hl))
    obtain ⟨vo, vc, ev, _⟩ := hv.pts
    subst ev
    generalize (ms.any fun m => !(inF ps m == 1)) = G at *
    clear hu hv hBL hbx HB
    go_enter Try.func27, Try.ntmps27
    go_wp2_with (go_at_call 38; refine HI.out.mono ?_; rintro e w1 ⟨⟨i, rfl, hi⟩, hb1⟩; have HB1 := hid hb1; have HII := hid hi; clear hb1 hi HI)
    go_ret
    exact ⟨by rw [← HII.out]; rfl, HB1.out⟩)
  obtain ⟨uo, uc, eu, _⟩ := hu.pts
  obtain ⟨vo, vc, ev, _⟩ := hv.pts
  subst eu ev
  have HG := hid (show (ms.all fun m => inF ps m == 1) = !(ms.any fun m => !(inF ps m == 1)) by rw [List.not_any_eq_all_not]; simp)
  rw [HG.out]
  generalize (ms.any fun m => !(inF ps m == 1)) = G at *
  generalize ms.length = k at *
  generalize ps.length = n at *
  clear hu hv hBL hbx HG
  by_cases h : 0 < k
  · have hI : (0 : Int) < (k : Int) := by omega
    have gI : decide ((0 : Int) < (k : Int)) = true := decide_eq_true hI
    have HD := hid (show decide (0 < k) = true from decide_eq_true h)
    go_enter Try.func16, Try.ntmps16
    go_wp2_with (go_at_call 27; refine (HC.out _ (Below.refl _ _)).mono ?_; rintro e w1 ⟨rfl, hb1⟩; replace HB := hid (HB.out.trans (hb1.mono HB.out.size)); clear hb1 HC)
    go_ret
    exact ⟨by rw [HD.out]; cases G <;> rfl, HB.out⟩
  · have hI : ¬ (0 : Int) < (k : Int) := by omega
    have gI : decide ((0 : Int) < (k : Int)) = false := decide_eq_false hI
    have HD := hid (show decide (0 < k) = false from decide_eq_false h)
    go_enter Try.func16, Try.ntmps16
    go_wp2
    go_ret
    exact ⟨by first | rfl | (rw [HD.out]; rfl), HB.out⟩

theorem inF_grid {ps : List Pp} (hg : Gl ps) {p : Pp} (hp : clP p = p) : inF ps p = insideL ps p := by
  have hok : okP p.1 p.2 = true := by
    unfold okP
    have e1 : near p.1 = p.1 := congrArg Prod.fst hp
    have e2 : near p.2 = p.2 := congrArg Prod.snd hp
    rw [e1, e2]; simp
  have hh : ∀ k, k < ps.length → hasK ps p k = onAt ps p k := fun k hk => by
    have ha := hg _ (List.mem_of_getElem? (at_lpt hk))
    have hb := hg _ (List.mem_of_getElem? (at_lpt (ps := ps) (i := (k + 1) % ps.length) (Nat.mod_lt _ (by omega))))
    show hasP (lpt ps k) (nxt ps k) p = on2 (clP (lpt ps k)) (clP (lpt ps ((k + 1) % ps.length))) (clP p)
    rw [ha, hb, hp]
    have a1 : near (lpt ps k).1 = (lpt ps k).1 := congrArg Prod.fst ha
    have a2 : near (lpt ps k).2 = (lpt ps k).2 := congrArg Prod.snd ha
    have b1 : near (lpt ps ((k + 1) % ps.length)).1 = (lpt ps ((k + 1) % ps.length)).1 := congrArg Prod.fst hb
    have b2 : near (lpt ps ((k + 1) % ps.length)).2 = (lpt ps ((k + 1) % ps.length)).2 := congrArg Prod.snd hb
    have e1 : near p.1 = p.1 := congrArg Prod.fst hp
    have e2 : near p.2 = p.2 := congrArg Prod.snd hp
    unfold hasP nxt on2
    rw [a1, a2, b1, b2, e1, e2]
    unfold onP
    rw [inBox_btw]
    cases btw p.1 (lpt ps k).1 (lpt ps ((k + 1) % ps.length)).1 <;> cases btw p.2 (lpt ps k).2 (lpt ps ((k + 1) % ps.length)).2 <;> simp
  have hm : ∀ k, meetK ps p k = rayAt ps p k := fun k => by
    unfold meetK
    rw [hok, Bool.true_and]
    rfl
  have ho : ∀ k, odF (meetK ps p) (List.range k) = oddK ps p k := fun k => by
    induction k with
    | zero => rfl
    | succ k ih =>
      rw [List.range_succ, odF_snoc, ih, hm]
      cases h : rayAt ps p k with
      | true => rw [oddK_yes h]; rfl
      | false => rw [oddK_no h]; rfl
  unfold inF
  by_cases h : ∃ k, k < ps.length ∧ onAt ps p k = true
  · obtain ⟨k, hk, h⟩ := h
    rw [insideL_on hk h, if_pos (List.any_eq_true.2 ⟨k, List.mem_range.2 hk, by rw [hh k hk]; exact h⟩)]
  · have h' : ∀ k, k < ps.length → onAt ps p k = false := fun k hk => by
      cases hx : onAt ps p k with
      | false => rfl
      | true => exact absurd ⟨k, hk, hx⟩ h
    rw [insideL_off h', ho, if_neg]
    rw [Bool.not_eq_true, List.any_eq_false]
    intro k hk
    rw [hh k (List.mem_range.1 hk), h' k (List.mem_range.1 hk)]
    decide
theorem near_mid {a b x : Int} (ha : near a = a) (hb : near b = b) (h : btw x a b = true) : near x = x := by
  have h1 := near_lo a; have h2 := near_hi a; have h3 := near_lo b; have h4 := near_hi b
  unfold btw at h
  rw [Bool.and_eq_true, decide_eq_true_eq, decide_eq_true_eq] at h
  exact near_in (by omega) (by omega)
theorem inF_beyond {ps : List Pp} (hg : Gl ps) {p : Pp} (hp : ¬ clP p = p) : inF ps p = -1 := by
  have hok : okP p.1 p.2 = false := by
    cases h : okP p.1 p.2 with
    | false => rfl
    | true =>
      unfold okP at h
      rw [Bool.and_eq_true, beq_iff_eq, beq_iff_eq] at h
      exact absurd (show clP p = p by unfold clP; rw [← h.1, ← h.2]) hp
  have hh : ∀ k, k < ps.length → hasK ps p k = false := fun k hk => by
    cases h : hasK ps p k with
    | false => rfl
    | true =>
      have ha := hg _ (List.mem_of_getElem? (at_lpt hk))
      have hb := hg _ (List.mem_of_getElem? (at_lpt (ps := ps) (i := (k + 1) % ps.length) (Nat.mod_lt _ (by omega))))
      unfold hasK hasP at h
      rw [Bool.and_eq_true, Bool.and_eq_true] at h
      have e1 := near_mid (congrArg Prod.fst ha) (congrArg Prod.fst hb) h.1.1
      have e2 := near_mid (congrArg Prod.snd ha) (congrArg Prod.snd hb) h.1.2
      exact absurd (show clP p = p by unfold clP; rw [e1, e2]) hp
  have ho : ∀ k, odF (meetK ps p) (List.range k) = false := fun k => by
    induction k with
    | zero => rfl
    | succ k ih =>
      rw [List.range_succ, odF_snoc, ih]
      unfold meetK
      rw [hok]
      rfl
  unfold inF
  rw [ho, if_neg]
  · rfl
  rw [Bool.not_eq_true, List.any_eq_false]
  intro k hk
  rw [hh k (List.mem_range.1 hk)]
  decide
end Go.Proofs.Ytepnjknblppfcaa
