/-
  Layer 13: RingParts.
-/
import Derived.Test.YtepnjknblppfcaaRLaw
import Derived.Deep.RegionLaw
import Derived.Deep.CutRange
namespace Go.Proofs.Ytepnjknblppfcaa
open Go.RowKit Go.Sort

theorem and255_ring (n : Int) : bits .and .i64 n 255 = n % 256 := by
  have h31 : (BitVec.ofInt 64 255).toNat = 2 ^ 8 - 1 := by decide
  have key : (BitVec.ofInt 64 n &&& BitVec.ofInt 64 255).toNat = (n % ((2 ^ 64 : Nat) : Int)).toNat % 2 ^ 8 := by
    rw [BitVec.toNat_and, BitVec.toNat_ofInt, h31, Nat.and_two_pow_sub_one_eq_mod]
  show IntKind.i64.wrap ((BitVec.ofInt 64 n &&& BitVec.ofInt 64 255).toNat : Nat) = n % 256
  rw [key, IntKind.wrap_i64]
  omega
/-- A point, taken to a grid of a hundred. -/
def md (p : Pp) : Pp := (Int.tmod p.1 100, Int.tmod p.2 100)
theorem tmod_100 (x : Int) : -100 < Int.tmod x 100 ∧ Int.tmod x 100 < 100 := by
  have h1 := Int.tmod_lt_of_pos x (show (0 : Int) < 100 by decide)
  have h2 := Int.lt_tmod_of_pos x (show (0 : Int) < 100 by decide)
  omega
theorem gl_md (ps : List Pp) : Gl (ps.map md) := fun p hp => by
  obtain ⟨q, _, rfl⟩ := List.mem_map.1 hp
  have h1 := tmod_100 q.1
  have h2 := tmod_100 q.2
  unfold clP md
  dsimp only
  rw [near_in (by omega) (by omega), near_in (by omega) (by omega)]
theorem lpt_sub {xs : List Pp} {a k i : Nat} (hi : i < k) (h : a + i < xs.length) : lpt ((xs.drop a).take k) i = lpt xs (a + i) := by
  refine lpt_at ?_
  rw [List.getElem?_take, if_pos hi, List.getElem?_drop]
  exact at_lpt h
theorem lpt_join {xs : List Pp} {b a i : Nat} (hb : b < xs.length) (ha : a < xs.length) (hi : i < xs.length - b + a + 1) : lpt (xs.drop b ++ xs.take (a + 1)) i = if i < xs.length - b then lpt xs (b + i) else lpt xs (i - (xs.length - b)) := by
  refine lpt_at ?_
  by_cases h : i < xs.length - b
  · rw [if_pos h, List.getElem?_append_left (by rw [List.length_drop]; exact h), List.getElem?_drop]
    exact at_lpt (by omega)
  · rw [if_neg h, List.getElem?_append_right (by rw [List.length_drop]; omega), List.length_drop, List.getElem?_take, if_pos (by omega)]
    exact at_lpt (by omega)
theorem parts_area {xs : List Pp} {a b : Nat} (hab : a ≤ b) (hb : b < xs.length) : areaL ((xs.drop a).take (b - a + 1)) + areaL (xs.drop b ++ xs.take (a + 1)) = areaL xs := by
  unfold areaL
  rw [← areaR_parts (ringQ xs) hab hb]
  have l1 : ((xs.drop a).take (b - a + 1)).length = b - a + 1 := by rw [List.length_take, List.length_drop]; omega
  have l2 : (xs.drop b ++ xs.take (a + 1)).length = xs.length - b + a + 1 := by rw [List.length_append, List.length_drop, List.length_take]; omega
  have c : ∀ {n : Nat} {q r : Nat → Pp}, (∀ i, i < n → q i = r i) → areaR n q = areaR n r := fun {n q r} h => by
    unfold areaR
    refine sN_congr fun i hi => ?_
    rw [h i hi, h _ (Nat.mod_lt _ (by omega))]
  rw [l1, l2]
  congr 1
  · refine c fun i hi => ?_
    unfold ringQ
    rw [lpt_sub hi (by omega)]
  · refine c fun i hi => ?_
    unfold ringQ
    rw [lpt_join hb (by omega) hi]
    split <;> rfl
theorem areaL_bound {xs : List Pp} (h : xs.length ≤ 200) : -9007199254740992 ≤ areaL xs ∧ areaL xs ≤ 9007199254740992 := by
  have q := areaK_bound xs xs.length
  rw [areaK_all] at q
  omega
theorem gl_sub {xs : List Pp} (h : Gl xs) (a k : Nat) : Gl ((xs.drop a).take k) := fun p hp => h p (List.mem_of_mem_drop (List.mem_of_mem_take hp))
theorem gl_app {xs ys : List Pp} (h : Gl xs) (h' : Gl ys) : Gl (xs ++ ys) := fun p hp => (List.mem_append.1 hp).elim (h p) (h' p)


set_option maxRecDepth 100000 in
set_option maxHeartbeats 8000000 in
theorem ringParts_core (H : RingC) (w : World) (u : Value) (ps : List Pp) (a b : Int) (hu : Src w u ps) (hlp : ps.length ≤ 140737488355328) :
    Calls Try.prog 4 #[u, .int .i64 a, .int .i64 b] w fun e w' => e = .returned (.bool true) ∧ Below w.heap.size w w' := by
  obtain ⟨ao, ca, e1, _⟩ := hu.pts
  subst e1
  obtain ⟨n, hn⟩ : ∃ n, ps.length = n := ⟨_, rfl⟩
  have HN := hid hn
  rw [hn] at hu hlp ⊢
  have HU := hid hu.pts
  clear hu hn
  by_cases h3 : n < 3
  · have hI : (n : Int) < 3 := by omega
    have gI : decide ((n : Int) < 3) = true := decide_eq_true hI
    go_enter Try.func4, Try.ntmps4
    go_wp2_with (go_at_call 8; refine (ringAwake_any H _).mono ?_; rintro e w9 ⟨rfl, hb9⟩; have HB := hid hb9; clear hb9)
    go_ret
    exact ⟨rfl, HB.out⟩
  · have hI : ¬ (n : Int) < 3 := by omega
    have gI : decide ((n : Int) < 3) = false := decide_eq_false hI
    by_cases h60 : 60 < n
    · have hJ : (60 : Int) < (n : Int) := by omega
      have gJ : decide ((60 : Int) < (n : Int)) = true := decide_eq_true hJ
      go_enter Try.func4, Try.ntmps4
      go_wp2_with (go_at_call 8; refine (ringAwake_any H _).mono ?_; rintro e w9 ⟨rfl, hb9⟩; have HB := hid hb9; clear hb9)
      go_ret
      exact ⟨rfl, HB.out⟩
    · have hJ : ¬ (60 : Int) < (n : Int) := by omega
      have gJ : decide ((60 : Int) < (n : Int)) = false := decide_eq_false hJ
      obtain ⟨c, hc⟩ : ∃ c : Nat, bits .and .i64 a 255 = (c : Int) := ⟨(a % 256).toNat, by rw [and255_ring]; omega⟩
      obtain ⟨d, hd⟩ : ∃ d : Nat, bits .and .i64 b 255 = (d : Int) := ⟨(b % 256).toNat, by rw [and255_ring]; omega⟩
      obtain ⟨A, hA, hAn⟩ : ∃ A : Nat, (c : Int) % (n : Int) = (A : Int) ∧ A < n := ⟨c % n, by omega, Nat.mod_lt _ (by omega)⟩
      obtain ⟨B, hB, hBn⟩ : ∃ B : Nat, (d : Int) % (n : Int) = (B : Int) ∧ B < n := ⟨d % n, by omega, Nat.mod_lt _ (by omega)⟩
      have hnz : ¬ (n : Int) = 0 := by omega
      have hnzB : ((n : Int) == 0) = false := by simpa using hnz
      go_enter Try.func4, Try.ntmps4
      go_wp2
      go_loopw [7, 8] (fun xv iv wr => ∃ (k : Nat) (xo : Option Addr) (xc : Nat), k ≤ n ∧ iv = .int .i64 k ∧ xv = .slice xo k xc ∧ PtRow wr w.heap.size (.slice xo k xc) ((ps.take k).map md) ∧ Below w.heap.size w wr) (fun _ iv _ => n - (intOf iv).toNat)
      case atStart => exact ⟨0, none, 0, by omega, rfl, rfl, PtRow.nil _ _, Below.refl _ _⟩
      case round =>
        obtain ⟨k, xo, xc, hk, rfl, rfl, hrow, hbr⟩ := hrel
        have HB := hid hbr
        by_cases hlt : k < n
        · have hkI : (k : Int) < (n : Int) := by omega
          have hkp : k < ps.length := by have := HN.out; omega
          obtain ⟨g, off, rfl, hcx⟩ := (HU.out.below hbr).row (by rw [HN.out]; omega)
          obtain ⟨z0, z1⟩ := hcx k hkp
          have HT := hid (show (ps.take (k + 1)).map md = (ps.take k).map md ++ [md (lpt ps k)] by rw [take_snoc (at_lpt hkp), List.map_append]; rfl)
          have HLN := hid (show ((ps.take k).map md).length = k by rw [List.length_map, List.length_take]; omega)
          obtain ⟨ao', ca', wS, hrun, hrow', hbs⟩ := (hrow.below (Below.refl _ wr).drew).snoc hbr.size (by rw [HLN.out]; omega) (md (lpt ps k))
          rw [HLN.out] at hrun hrow'
          have HROW := hid (show PtRow wS w.heap.size (.slice ao' (k + 1) ca') ((ps.take (k + 1)).map md) by rw [HT.out]; exact hrow')
          have HBS := hid (show Below w.heap.size w wS from hbr.drew.trans hbs)
          have e0 : Int.tmod (lpt ps k).1 100 = (md (lpt ps k)).1 := rfl
          have e1 : Int.tmod (lpt ps k).2 100 = (md (lpt ps k)).2 := rfl
          generalize (md (lpt ps k)).1 = RX at *
          generalize (md (lpt ps k)).2 = RY at *
          generalize (lpt ps k).1 = X0 at *
          generalize (lpt ps k).2 = Y0 at *
          have HRUN := hid hrun
          have d0 : wr.drew.cell? ⟨g, off + k * 2, none⟩ = some (.int .i64 X0) := z0
          have d1 : wr.drew.cell? ⟨g, off + k * 2 + 1, none⟩ = some (.int .i64 Y0) := z1
          clear hrun hrow' hbs hrow hcx hbr HT HLN
          go_wp2
          go_region_law (first
            | (refine step_append_known rfl (.tmp 26) (.tmp 40) 22 rfl rfl rfl HRUN.out ?_))
          all_goals
            go_wp2
            go_roundw
            case rel => exact ⟨k + 1, ao', ca', by omega, by go_num, rfl, HROW.out, HBS.out⟩
            case measure => simp [intOf]; omega
        · have hkI : ¬ (k : Int) < (n : Int) := by omega
          obtain rfl : k = n := by omega
          have HROW := hid (show PtRow wr w.heap.size (.slice xo k xc) (ps.map md) by
            have q := hrow
            rwa [List.take_of_length_le (by rw [HN.out]; exact Nat.le_refl _)] at q)
          clear hrow hbr
          go_upto_region 8 with fail
          go_cut [1, 2] from 42 to 51 (fun av bv wx => av = .int .i64 A ∧ bv = .int .i64 B ∧ PtRow wx w.heap.size (.slice xo k xc) (ps.map md) ∧ Below w.heap.size w wx)
          case first =>
            go_region
            all_goals
              go_wp2
              go_meet
              case rel => exact ⟨by first | rfl | (rw [hA]), by first | rfl | (rw [hB]), HROW.out.below (Below.refl _ _).drew, HB.out.drew⟩
          case rest =>
            obtain ⟨rfl, rfl, hrow, hbr⟩ := hcut
            clear HROW HB hc hd hA hB
            have HROW := hid hrow
            have HB := hid hbr
            clear hrow hbr
            go_upto_if 54 with fail
            go_cut [1, 2] from 52 to 56 (fun av bv wx => ∃ lo hi : Nat, lo ≤ hi ∧ hi < k ∧ av = .int .i64 lo ∧ bv = .int .i64 hi ∧ PtRow wx w.heap.size (.slice xo k xc) (ps.map md) ∧ Below w.heap.size w wx)
            case first =>
              by_cases hAB : B < A
              · have hABI : (B : Int) < (A : Int) := by omega
                go_wp2
                go_meet
                case rel => exact ⟨B, A, by omega, hAn, rfl, rfl, HROW.out, HB.out⟩
              · have hABI : ¬ (B : Int) < (A : Int) := by omega
                go_wp2
                go_meet
                case rel => exact ⟨A, B, by omega, hBn, rfl, rfl, HROW.out, HB.out⟩
            case rest =>
              obtain ⟨lo, hi, hlo, hhi, rfl, rfl, hrow, hbr⟩ := hcut
              clear HROW HB hAn hBn
              obtain ⟨g, cap, cur, e, hg0, _, hcap, _⟩ : ∃ g cap cur, Value.slice xo k xc = .slice (some ⟨g, 0, none⟩) k cap ∧ w.heap.size ≤ g ∧ wc.heap[g]? = some (.cells cur 24 (0, 0)) ∧ k ≤ cap ∧ cap ≤ maxLen := by
                rcases hrow.2 with ⟨_, h0⟩ | ⟨g, cap, cur, e, h1, h2, h3, h4, _⟩
                · rw [List.length_map, HN.out] at h0; omega
                · rw [List.length_map, HN.out] at e h3; exact ⟨g, cap, cur, e, h1, h2, h3, h4⟩
              injection e with e1 _ e3
              subst e1 e3
              have hloI : (lo : Int) ≤ (hi : Int) + 1 := by omega
              have hlo0 : (0 : Int) ≤ (hi : Int) + 1 := by omega
              have hhiI : (hi : Int) + 1 ≤ (k : Int) := by omega
              have hhiJ : (hi : Int) + 1 ≤ (xc : Int) := by omega
              have hloN : lo ≤ hi + 1 := by omega
              have hhiN : hi + 1 ≤ xc := by omega
              have hcl : ¬ xc = lo := by omega
              have hch : ¬ xc = hi := by omega
              have hkc : (k : Int) ≤ (xc : Int) := by omega
              have hlk : (lo : Int) + 1 ≤ (xc : Int) := by omega
              have hlk0 : (0 : Int) ≤ (lo : Int) + 1 := by omega
              have hlkN : lo + 1 ≤ xc := by omega
              have hhk : (hi : Int) ≤ (k : Int) := by omega
              have hwl : IntKind.i64.wrap ((lo : Int) + 1) = (lo : Int) + 1 := by rw [IntKind.wrap_i64]; omega
              obtain ⟨xs, hxs⟩ : ∃ xs, ps.map md = xs := ⟨_, rfl⟩
              have HGX := hid (show Gl xs by rw [← hxs]; exact gl_md ps)
              have HLX := hid (show xs.length = k by rw [← hxs, List.length_map, HN.out])
              rw [hxs] at hrow
              have HX := hid hrow.src
              obtain ⟨wE, hwE⟩ : ∃ wE, wc.alloc (.cells #[] 24) = wE := ⟨_, rfl⟩
              have hbE : Below wc.heap.size wc wE := by rw [← hwE]; exact (Below.refl _ _).alloc (Nat.le_refl _) _
              have hs1 : Src wE (.slice (some ⟨g, lo * 2, none⟩) (hi + 1 - lo) (xc - lo)) ((xs.drop lo).take (hi + 1 - lo)) := by
                have q := ((HX.out.below hbE).drop (k := lo) (by rw [HLX.out]; omega)).take (k := hi + 1 - lo) (by rw [List.length_drop, HLX.out]; omega)
                rwa [Nat.zero_add] at q
              obtain ⟨v1, w1, hrun1, hrow1, hb1, _⟩ := (show PtRow wE wc.heap.size (.slice (some ⟨wc.heap.size, 0, none⟩) 0 0) [] by rw [← hwE]; exact PtRow.lit0 wc).add hs1 hbE.size (by rw [List.length_take]; simp; omega)
              rw [List.nil_append] at hrow1
              obtain ⟨o1, c1, hv1⟩ := hrow1.form
              subst hv1
              have hb1c : Below wc.heap.size wc w1 := hbE.trans hb1
              have HRUN1 := hid hrun1
              have HB1 := hid (hbr.trans (hb1c.mono hbr.size))
              have HX1 := hid (HX.out.below hb1c)
              obtain ⟨wF, hwF⟩ : ∃ wF, w1.drew.alloc (.cells #[] 24) = wF := ⟨_, rfl⟩
              have hbF : Below w1.heap.size w1 wF := by rw [← hwF]; exact (Below.refl _ _).drew.alloc (Nat.le_refl _) _
              have hs2 : Src wF (.slice (some ⟨g, hi * 2, none⟩) (k - hi) (xc - hi)) (xs.drop hi) := by
                have q := (HX1.out.below hbF).drop (k := hi) (by rw [HLX.out]; omega)
                rwa [Nat.zero_add] at q
              obtain ⟨v2, w2, hrun2, hrow2, hb2, _⟩ := (show PtRow wF w1.heap.size (.slice (some ⟨w1.heap.size, 0, none⟩) 0 0) [] by rw [← hwF]; exact PtRow.lit0 w1.drew).add hs2 hbF.size (by rw [List.length_drop, HLX.out]; simp; omega)
              rw [List.nil_append] at hrow2
              have hb2c : Below w1.heap.size w1 w2 := hbF.trans hb2
              have hs3 : Src w2 (.slice (some ⟨g, 0, none⟩) (lo + 1) xc) (xs.take (lo + 1)) := (HX1.out.below hb2c).take (k := lo + 1) (by rw [HLX.out]; omega)
              obtain ⟨v3, w3, hrun3, hrow3, hb3, _⟩ := hrow2.add hs3 hb2c.size (by rw [List.length_drop, List.length_take, HLX.out]; omega)
              have hb3c : Below w1.heap.size w1 w3 := hb2c.trans hb3
              have HRUN2 := hid hrun2
              have HRUN3 := hid hrun3
              have HONE := hid (show Src w3 (.slice o1 ((xs.drop lo).take (hi + 1 - lo)).length c1) ((xs.drop lo).take (hi + 1 - lo)) from (hrow1.below hb3c).src)
              have HTWO := hid (show Src w3 v3 (xs.drop hi ++ xs.take (lo + 1)) from hrow3.src)
              have HX3 := hid (HX1.out.below hb3c)
              have HB3 := hid (HB1.out.trans (hb3c.mono HB1.out.size))
              obtain ⟨m1, hm1⟩ : ∃ m1, ((xs.drop lo).take (hi + 1 - lo)).length = m1 := ⟨_, rfl⟩
              rw [hm1] at HONE HRUN1
              have F1 := hid (fun x W h => H.area x ((xs.drop lo).take (hi + 1 - lo)) W h (gl_sub HGX.out _ _) (by rw [List.length_take]; omega))
              have F2 := hid (fun x W h => H.area x (xs.drop hi ++ xs.take (lo + 1)) W h (gl_app (fun p hp => HGX.out p (List.mem_of_mem_drop hp)) (fun p hp => HGX.out p (List.mem_of_mem_take hp))) (by rw [List.length_append, List.length_drop, List.length_take, HLX.out]; omega))
              have F3 := hid (fun x W h => H.area x xs W h HGX.out (by rw [HLX.out]; omega))
              have hsum := parts_area (xs := xs) (a := lo) (b := hi) hlo (by rw [HLX.out]; exact hhi)
              rw [show hi - lo + 1 = hi + 1 - lo by omega] at hsum
              have hb1' := areaL_bound (xs := (xs.drop lo).take (hi + 1 - lo)) (by rw [List.length_take]; omega)
              have hb2' := areaL_bound (xs := xs.drop hi ++ xs.take (lo + 1)) (by rw [List.length_append, List.length_drop, List.length_take, HLX.out]; omega)
              rw [← hsum] at F3
              generalize areaL ((xs.drop lo).take (hi + 1 - lo)) = A1 at *
              generalize areaL (xs.drop hi ++ xs.take (lo + 1)) = A2 at *
              clear hsum hrun1 hrun2 hrun3 hrow1 hrow2 hrow3 hb1 hb2 hb3 hbE hbF hs1 hs2 hs3 hb1c hb2c hb3c hrow hbr hm1 hxs
              go_wp2_with (at_builtin; refine wpList_append_run rfl (.tmp 57) (.tmp 62) 22 rfl rfl rfl HRUN1.out ?_)
              go_region_law (first
                | (refine step_append_known rfl (.tmp 64) (.tmp 67) 22 rfl rfl rfl HRUN2.out ?_)
                | (refine step_append_known rfl (.tmp 68) (.tmp 72) 22 rfl rfl rfl HRUN3.out ?_))
              have HB := HB3
              go_wp2_with (first
                | (go_at_call 10; refine (F1.out _ _ HONE.out).mono ?_; rintro e w4 ⟨rfl, hb4⟩; replace HTWO := hid (HTWO.out.below hb4); replace HX3 := hid (HX3.out.below hb4); replace HB := hid (HB.out.trans (hb4.mono HB.out.size)); clear hb4 F1)
                | (go_at_call 10; refine (F2.out _ _ HTWO.out).mono ?_; rintro e w5 ⟨rfl, hb5⟩; replace HX3 := hid (HX3.out.below hb5); replace HB := hid (HB.out.trans (hb5.mono HB.out.size)); clear hb5 F2)
                | (go_at_call 10; refine (F3.out _ _ HX3.out).mono ?_; rintro e w6 ⟨rfl, hb6⟩; replace HB := hid (HB.out.trans (hb6.mono HB.out.size)); clear hb6 F3)
                | (go_at_call 8; refine (ringAwake_any H _).mono ?_; rintro e w7 ⟨rfl, hb7⟩; replace HB := hid (HB.out.trans (hb7.mono HB.out.size)); clear hb7))
              go_ret
              exact ⟨rfl, HB.out⟩

end Go.Proofs.Ytepnjknblppfcaa
