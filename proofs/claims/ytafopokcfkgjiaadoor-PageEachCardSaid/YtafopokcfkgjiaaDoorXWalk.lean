/-
  PageEach: the walk.
-/
import Derived.Test.YtafopokcfkgjiaaDoorXAll
namespace Go.Proofs.YtafopokcfkgjiaaDoor
open Go.RowKit

theorem i64_and255 (n : Int) : bits .and .i64 n 255 = n % 256 := by
  have h31 : (BitVec.ofInt 64 255).toNat = 2 ^ 8 - 1 := by decide
  have key : (BitVec.ofInt 64 n &&& BitVec.ofInt 64 255).toNat = (n % ((2 ^ 64 : Nat) : Int)).toNat % 2 ^ 8 := by
    rw [BitVec.toNat_and, BitVec.toNat_ofInt, h31, Nat.and_two_pow_sub_one_eq_mod]
  show IntKind.i64.wrap ((BitVec.ofInt 64 n &&& BitVec.ofInt 64 255).toNat : Nat) = n % 256
  rw [key, IntKind.wrap_i64]
  omega
theorem i64_and127 (n : Int) : bits .and .i64 n 127 = n % 128 := by
  have h31 : (BitVec.ofInt 64 127).toNat = 2 ^ 7 - 1 := by decide
  have key : (BitVec.ofInt 64 n &&& BitVec.ofInt 64 127).toNat = (n % ((2 ^ 64 : Nat) : Int)).toNat % 2 ^ 7 := by
    rw [BitVec.toNat_and, BitVec.toNat_ofInt, h31, Nat.and_two_pow_sub_one_eq_mod]
  show IntKind.i64.wrap ((BitVec.ofInt 64 n &&& BitVec.ofInt 64 127).toNat : Nat) = n % 128
  rw [key, IntKind.wrap_i64]
  omega
theorem opened_each {w : World} {base B : Nat} {D : Dk} {m0 m2 : Nat} (hd : DiskIs w base B 104 D) (hl : D.left = -1) (ht : TabOk w) (hg : 0 < base) (hj : JOk D.now 24 3) (h3 : Told3 (redoP 0 D (notedP D.now 24)) m0 m2) (hwl : D.wait.length ≤ 700000) (hwr : D.writes ≤ 700000000) :
    Calls Tryd.prog 6 #[.pointer (some ⟨B, 0, none⟩), .int .i64 0, .int .i64 3, .int .i64 (-1), .slice none 0 0] w fun e w' => ∃ (F : Nat) (D3 : Dk), e = .returned (.pointer (some ⟨F, 0, none⟩)) ∧ DiskIs w' base B 104 D3 ∧ FileIs w' base F B 0 3 false ∧ D3.left ≠ 0 ∧ Told3 D3 m0 m2 ∧ Below base w w' := by
  have hlive := (redoP_live 0 (notedP D.now 24) D hl).1
  have H := opened_gen (p0 := 0) (np := 3) hd hl ht hg (by omega) (by omega) (by omega) hj h3.ok hwl hwr
  refine H.mono ?_
  rintro e w2 ⟨F, he, _, h1, h2, h4⟩
  exact ⟨F, _, he, h1, h2, by rw [show 0 + 3 * 8 = 24 from rfl, hlive]; decide, h3, h4.below⟩

set_option maxRecDepth 100000 in
set_option maxHeartbeats 3200000 in
theorem pageEach_walk (w : World) (a : Int) (_a0 : -9223372036854775808 ≤ a) (_a1 : a ≤ 9223372036854775807) (b : Int) (_b0 : -9223372036854775808 ≤ b) (_b1 : b ≤ 9223372036854775807) (at_ : Int) (_at_0 : -9223372036854775808 ≤ at_) (_at_1 : at_ ≤ 9223372036854775807) (keep : Int) (_keep0 : -9223372036854775808 ≤ keep) (_keep1 : keep ≤ 9223372036854775807) (ht : TabOk w) :
    Calls Tryd.prog 3 #[.int .i64 a, .int .i64 b, .int .i64 at_, .int .i64 keep] w fun e w' => e = .returned (.bool true) ∧ Below w.heap.size w w' := by
  clear _a0 _a1 _b0 _b1 _at_0 _at_1
  have hg := ht.lt
  have HT := hid ht
  have HN3 := hid (fun wx => need_any 3 wx (by omega))
  have hmx : (8 * max (3 : Int) 1 + 80) = 104 := by decide
  rw [hmx] at HN3
  have HNW := hid (new_any 104 w (by omega))
  obtain ⟨ka, hka, hka2⟩ : ∃ k : Nat, bits .and .i64 a 255 = (k : Int) ∧ k ≤ 255 := ⟨(a % 256).toNat, by rw [i64_and255]; omega, by omega⟩
  obtain ⟨kb, hkb, hkb2⟩ : ∃ k : Nat, bits .and .i64 b 255 = (k : Int) ∧ k ≤ 255 := ⟨(b % 256).toNat, by rw [i64_and255]; omega, by omega⟩
  obtain ⟨A, hA, hA2⟩ : ∃ m : Nat, (ka : Int) + 10 = (m : Int) ∧ 10 ≤ m ∧ m < 266 := ⟨ka + 10, by omega, by omega⟩
  obtain ⟨C, hC, hC2⟩ : ∃ m : Nat, (kb : Int) + 10 = (m : Int) ∧ 10 ≤ m ∧ m < 266 := ⟨kb + 10, by omega, by omega⟩
  obtain ⟨K, hK, hK2⟩ : ∃ k : Int, bits .and .i64 at_ 127 = k ∧ 0 ≤ k ∧ k ≤ 127 := ⟨at_ % 128, i64_and127 at_, by omega⟩
  obtain ⟨D1, hw1, hl1, hwt1, hwr1, hold⟩ := first_all
  have HW1 := hid hw1
  have HOLD := hid hold
  have HWT1 := hid hwt1
  clear ht hmx hw1 hold hwt1
  go_enter Tryd.func3, Tryd.ntmps3
  go_wp2_with (first
    | (go_at_call 5; refine (HN3.out _).mono ?_; rintro e w0 ⟨rfl, hw⟩; have hw' := hw.symm; clear hw HN3; subst hw')
    | (go_at_call 4; refine HNW.out.mono ?_; rintro e w1 ⟨B, rfl, hd1, hb1⟩; have HB1 := hid hb1; have HOX := hid (opened_st (p0 := 0) (np := 3) hd1 rfl (tab_kd HT.out hg hb1) hg (by omega) (new_st (by omega) (by omega)) (by decide) (by decide)); clear hd1 hb1 HNW)
    | (go_at_call 6; refine HOX.out.mono ?_; rintro e w2 ⟨F, rfl, hF2, hd2, hf2, hk2⟩; have HB2 := hid (HB1.out.trans hk2.below); have HD2 := hid hd2; have HF2 := hid hf2; have HOF0 := hid (of_any 0 1 w2 (by omega)); clear hd2 hf2 hk2 HOX hF2)
    | (go_at_call 8; refine HOF0.out.mono ?_; rintro e w3 ⟨a3, c3, rfl, hown3, hb3⟩; have HO3 := hid hown3; have HB3 := hid hb3; have HOF1 := hid (of_any 1 2 w3 (by omega)); clear hown3 hb3 HOF0)
    | (go_at_call 8; refine HOF1.out.mono ?_; rintro e w4 ⟨a4, c4, rfl, hown4, hb4⟩; have HO34 := hid (own_below HO3.out hb4); have HO4 := hid hown4; have HB4 := hid (HB3.out.trans (hb4.mono HB3.out.size)); have HOF2 := hid (of_any 2 3 w4 (by omega)); clear hown4 hb4 HOF1 HO3 HB3)
    | (go_at_call 8; refine HOF2.out.mono ?_; rintro e w5 ⟨a5, c5, rfl, hown5, hb5⟩; obtain ⟨wL, hwL⟩ : ∃ wL, w5.alloc (.cells #[.int .i64 0, .int .u64 1, .slice a3 480 c3, .int .i64 1, .int .u64 2, .slice a4 480 c4, .int .i64 2, .int .u64 3, .slice a5 480 c5] 33) = wL := ⟨_, rfl⟩; have hbL : Below w5.heap.size w5 wL := (by rw [← hwL]; exact (Below.refl _ _).alloc (Nat.le_refl _) _); have hpgL : Pgs wL (.slice (some ⟨w5.heap.size, 0, none⟩) 3 3) [pgOf 0 1, pgOf 1 2, pgOf 2 3] := (by rw [← hwL]; exact pgs_three (own_mono (own_below HO34.out hb5) (Nat.zero_le _)) (own_mono (own_below HO4.out hb5) (Nat.zero_le _)) (own_mono hown5 (Nat.zero_le _))); have hb2L : Below w2.heap.size w2 wL := (HB4.out.trans (hb5.mono HB4.out.size)).trans (hbL.mono (Nat.le_trans HB4.out.size hb5.size)); have HBL := hid (HB2.out.trans (hb2L.mono HB2.out.size)); have HWR := hid (pwrite_any (HD2.out.below hb2L) (HF2.out.below hb2L) (tab_kd HT.out hg HBL.out) hg (by omega) (by omega) hpgL (show takes 3 [pgOf 0 1, pgOf 1 2, pgOf 2 3] from takes0) (by simp) (by decide) (by decide)); rw [HW1.out] at HWR; clear hown5 hb5 hbL hpgL hb2L HOF2 HO34 HO4 HB4)
    | (go_at_call 7; refine HWR.out.mono ?_; rintro e w6 ⟨rfl, hd6, ⟨half, hf6, hh6⟩, hk6⟩; obtain rfl := hh6 (by simp); have HB6 := hid (HBL.out.trans hk6.below); have HF6 := hid hf6; have HFU := hid (fuse_any hd6 (k := K) (by omega) (by omega)); obtain ⟨D2, E, hw2, hE, hwl2, hwr2, hall⟩ := second_all (k := K) (a := A) (b := C) HWT1.out (HOLD.out hd6.ok) hwr1 hA2 hC2; have HW2 := hid hw2; have HE := hid hE; have HALL := hid hall; clear hd6 hf6 hk6 hh6 HWR hw2 hE hall HBL)
    | (go_at_call 9; refine HFU.out.mono ?_; rintro e w7 ⟨⟨v7, rfl⟩, hd7, hk7⟩; have HD7 := hid hd7; have HF7 := hid (HF6.out.kd hk7); have HB7 := hid (HB6.out.trans hk7.below); have HOF3 := hid (of_any 0 A w7 (by omega)); clear hd7 hk7 HFU HF6 HB6)
    | (go_at_call 8; refine HOF3.out.mono ?_; rintro e w8 ⟨a8, c8, rfl, hown8, hb8⟩; have HO8 := hid hown8; have HB8 := hid hb8; have HOF4 := hid (of_any 2 C w8 (by omega)); clear hown8 hb8 HOF3)
    | (go_at_call 8; refine HOF4.out.mono ?_; rintro e w9 ⟨a9, c9, rfl, hown9, hb9⟩; obtain ⟨wM, hwM⟩ : ∃ wM, w9.alloc (.cells #[.int .i64 0, .int .u64 A, .slice a8 480 c8, .int .i64 2, .int .u64 C, .slice a9 480 c9] 33) = wM := ⟨_, rfl⟩; have hbM : Below w9.heap.size w9 wM := (by rw [← hwM]; exact (Below.refl _ _).alloc (Nat.le_refl _) _); have hpgM : Pgs wM (.slice (some ⟨w9.heap.size, 0, none⟩) 2 2) [pgOf 0 A, pgOf 2 C] := (by rw [← hwM]; exact pgs_two (own_mono (own_below HO8.out hb9) (Nat.zero_le _)) (own_mono hown9 (Nat.zero_le _))); have hb7M : Below w7.heap.size w7 wM := (HB8.out.trans (hb9.mono HB8.out.size)).trans (hbM.mono (Nat.le_trans HB8.out.size hb9.size)); have HBM := hid (HB7.out.trans (hb7M.mono HB7.out.size)); have HWS := hid (pwrite_any (HD7.out.below hb7M) (HF7.out.below hb7M) (tab_kd HT.out hg HBM.out) hg (by omega) (by omega) hpgM (show takes 3 [pgOf 0 A, pgOf 2 C] from takes1 hA2.2 hC2.2) (by simp) (by unfold Dk.fuse; split <;> simp [HWT1.out]) (by unfold Dk.fuse; split <;> (show D1.writes ≤ 700000000; omega))); rw [HW2.out] at HWS; clear hown9 hb9 hbM hpgM hb7M HOF4 HO8 HB8)
    | (go_at_call 7; refine HWS.out.mono ?_; rintro e wP ⟨rfl, hdP, -, hkP⟩; have HBP := hid (HBM.out.trans hkP.below); have HDP := hid hdP; clear hdP hkP HWS HBM HD7 HF7 HB7))
  go_loopw [13, 14] (fun v i wr => ∃ (j : Nat) (zs : List Int), j ≤ 62 ∧ zs.length ≤ j ∧ (∀ z ∈ zs, 0 ≤ z ∧ z ≤ 62) ∧ i = .int .i64 j ∧ NRow wr wP.heap.size v zs ∧ Below wP.heap.size wP wr) (fun _ i _ => 62 - (intOf i).toNat)
  case atStart => exact ⟨0, [], by omega, by simp, by simp, rfl, NRow.nil _ _, Below.refl _ _⟩
  case round =>
    obtain ⟨j, zs, hj, hzl, hzs, rfl, hnr, hbr⟩ := hrel
    have HNR := hid hnr
    have HZS := hid hzs
    have HBR := hid hbr
    clear hnr hzs hbr
    by_cases hlt : j < 62
    · have hj1 : (j : Int) < 62 := by omega
      have hj0 : (0 : Int) ≤ (j : Int) := by omega
      cases hq : (bits .and .i64 (keep / 2 ^ j) 1 == 1) with
      | true =>
        obtain ⟨v', wA, hrun, hn', hb'⟩ := HNR.out.snoc HBR.out.size (by omega) (j : Int)
        have HRUN := hid hrun
        have HN2 := hid hn'
        have HB2' := hid hb'
        clear hrun hn' hb'
        go_wp2_with (at_builtin; refine wpList_exec rfl (exec_append (.tmp 70) (.tmp 72) 39 rfl rfl rfl HRUN.out) ?_)
        refine ⟨⟨j + 1, zs ++ [(j : Int)], by omega, by rw [List.length_append]; simp; omega, fun z hz => ?_, by simp, HN2.out, HBR.out.trans HB2'.out⟩, by simp [intOf]; omega⟩
        rcases List.mem_append.1 hz with hz | hz
        · exact HZS.out z hz
        · rw [List.mem_singleton] at hz
          omega
      | false =>
        go_wp2
        exact ⟨⟨j + 1, zs, by omega, by omega, HZS.out, by simp, HNR.out, HBR.out⟩, by simp [intOf]; omega⟩
    · have hj62 : ¬ ((j : Int) < 62) := by omega
      have hdR := HDP.out.below HBR.out
      obtain ⟨hjok, m0, m2, hmm, ht3⟩ := HALL.out zs (hdR.ok.crash zs)
      have HBW := hid (HBP.out.trans (HBR.out.mono HBP.out.size))
      have HCR := hid (crash_any hdR (by omega) (HNR.out.ints (fun y hy => by have := HZS.out y hy; omega)) (by omega))
      have HJ := hid hjok
      have HT3 := hid ht3
      have hE := HE.out
      clear hdR hjok ht3 HALL HDP HNR HBR HZS HE HW1 HW2 HOLD HWT1 hwL hwM hl1
      rcases hmm with ⟨e0, e2, e3⟩ | ⟨e0, e2⟩
      · subst e0 e2 e3
        clear hE
        go_wp2_with (first
          | (go_at_call 10; refine HCR.out.mono ?_; rintro e wc ⟨⟨vc, rfl⟩, hdc, hkc⟩; have HBC := hid (HBW.out.trans hkc.below); have HOP := hid (opened_each hdc rfl (tab_kd HT.out hg HBC.out) hg HJ.out HT3.out (by show ([] : List (Nat × List Int)).length ≤ 700000; simp) (by show D2.writes ≤ 700000000; omega)); clear hdc hkc HCR)
          | (go_at_call 6; refine HOP.out.mono ?_; rintro e wo ⟨F2, D3, rfl, hdo, hfo, hlo, h3, hbo⟩; have HBO := hid (HBC.out.trans hbo); have HX := hid (Below.refl wo.heap.size wo); have H12 := hid (fun wx (hb : Below wo.heap.size wo wx) => is_true (no := 1) (m := 2) (hdo.below hb) (hfo.below hb) hlo (tab_kd HT.out hg (HBO.out.trans (hb.mono HBO.out.size))) (by omega) (by omega) (h3.ok 1 (by omega)) (by omega) h3.p1); have H01 := hid (fun wx (hb : Below wo.heap.size wo wx) => is_true (no := 0) (m := 1) (hdo.below hb) (hfo.below hb) hlo (tab_kd HT.out hg (HBO.out.trans (hb.mono HBO.out.size))) (by omega) (by omega) (h3.ok 0 (by omega)) (by omega) h3.p0); have H23 := hid (fun wx (hb : Below wo.heap.size wo wx) => is_true (no := 2) (m := 3) (hdo.below hb) (hfo.below hb) hlo (tab_kd HT.out hg (HBO.out.trans (hb.mono HBO.out.size))) (by omega) (by omega) (h3.ok 2 (by omega)) (by omega) h3.p2); have HAW := hid (fun wx (hb : Below wo.heap.size wo wx) => pawake_any wx (tab_kd HT.out hg (HBO.out.trans (hb.mono HBO.out.size)))); clear hdo hfo hlo h3 hbo HOP)
          | (go_at_call 11; refine (H12.out _ HX.out).mono ?_; rintro e wn ⟨rfl, hbn⟩; have HX := hid (HX.out.trans (hbn.mono HX.out.size)); clear hbn H12)
          | (go_at_call 11; refine (H01.out _ HX.out).mono ?_; rintro e wn ⟨rfl, hbn⟩; have HX := hid (HX.out.trans (hbn.mono HX.out.size)); clear hbn H01)
          | (go_at_call 11; refine (H23.out _ HX.out).mono ?_; rintro e wn ⟨rfl, hbn⟩; have HX := hid (HX.out.trans (hbn.mono HX.out.size)); clear hbn H23)
          | (go_at_call 12; refine (HAW.out _ HX.out).mono ?_; rintro e wn ⟨rfl, hbn⟩; have HX := hid (HX.out.trans (hbn.mono HX.out.size)); clear hbn))
        go_ret
        exact ⟨rfl, HBO.out.trans (HX.out.mono HBO.out.size)⟩
      · have e0' := e0.symm
        have e2' := e2.symm
        clear e0 e2
        subst e0' e2'
        rcases hE with hE | hE
        · subst hE
          go_wp2_with (first
            | (go_at_call 10; refine HCR.out.mono ?_; rintro e wc ⟨⟨vc, rfl⟩, hdc, hkc⟩; have HBC := hid (HBW.out.trans hkc.below); have HOP := hid (opened_each hdc rfl (tab_kd HT.out hg HBC.out) hg HJ.out HT3.out (by show ([] : List (Nat × List Int)).length ≤ 700000; simp) (by show D2.writes ≤ 700000000; omega)); clear hdc hkc HCR)
            | (go_at_call 6; refine HOP.out.mono ?_; rintro e wo ⟨F2, D3, rfl, hdo, hfo, hlo, h3, hbo⟩; have HBO := hid (HBC.out.trans hbo); have HX := hid (Below.refl wo.heap.size wo); have H12 := hid (fun wx (hb : Below wo.heap.size wo wx) => is_true (no := 1) (m := 2) (hdo.below hb) (hfo.below hb) hlo (tab_kd HT.out hg (HBO.out.trans (hb.mono HBO.out.size))) (by omega) (by omega) (h3.ok 1 (by omega)) (by omega) h3.p1); have H01 := hid (fun wx (hb : Below wo.heap.size wo wx) => is_false (no := 0) (k := A) (m := 1) (hdo.below hb) (hfo.below hb) hlo (tab_kd HT.out hg (HBO.out.trans (hb.mono HBO.out.size))) (by omega) (by omega) (h3.ok 0 (by omega)) (by omega) (by omega) (by omega) h3.p0); have H0A := hid (fun wx (hb : Below wo.heap.size wo wx) => is_true (no := 0) (m := A) (hdo.below hb) (hfo.below hb) hlo (tab_kd HT.out hg (HBO.out.trans (hb.mono HBO.out.size))) (by omega) (by omega) (h3.ok 0 (by omega)) (by omega) h3.p0); have H23 := hid (fun wx (hb : Below wo.heap.size wo wx) => is_false (no := 2) (k := C) (m := 3) (hdo.below hb) (hfo.below hb) hlo (tab_kd HT.out hg (HBO.out.trans (hb.mono HBO.out.size))) (by omega) (by omega) (h3.ok 2 (by omega)) (by omega) (by omega) (by omega) h3.p2); have H2C := hid (fun wx (hb : Below wo.heap.size wo wx) => is_true (no := 2) (m := C) (hdo.below hb) (hfo.below hb) hlo (tab_kd HT.out hg (HBO.out.trans (hb.mono HBO.out.size))) (by omega) (by omega) (h3.ok 2 (by omega)) (by omega) h3.p2); have H0B := hid (fun wx (hb : Below wo.heap.size wo wx) => is_true (no := 0) (m := A) (hdo.below hb) (hfo.below hb) hlo (tab_kd HT.out hg (HBO.out.trans (hb.mono HBO.out.size))) (by omega) (by omega) (h3.ok 0 (by omega)) (by omega) h3.p0); have H2D := hid (fun wx (hb : Below wo.heap.size wo wx) => is_true (no := 2) (m := C) (hdo.below hb) (hfo.below hb) hlo (tab_kd HT.out hg (HBO.out.trans (hb.mono HBO.out.size))) (by omega) (by omega) (h3.ok 2 (by omega)) (by omega) h3.p2); have HAW := hid (fun wx (hb : Below wo.heap.size wo wx) => pawake_any wx (tab_kd HT.out hg (HBO.out.trans (hb.mono HBO.out.size)))); clear hdo hfo hlo h3 hbo HOP)
            | (go_at_call 11; refine (H12.out _ HX.out).mono ?_; rintro e wn ⟨rfl, hbn⟩; have HX := hid (HX.out.trans (hbn.mono HX.out.size)); clear hbn H12)
            | (go_at_call 11; refine (H01.out _ HX.out).mono ?_; rintro e wn ⟨rfl, hbn⟩; have HX := hid (HX.out.trans (hbn.mono HX.out.size)); clear hbn H01)
            | (go_at_call 11; refine (H0A.out _ HX.out).mono ?_; rintro e wn ⟨rfl, hbn⟩; have HX := hid (HX.out.trans (hbn.mono HX.out.size)); clear hbn H0A)
            | (go_at_call 11; refine (H23.out _ HX.out).mono ?_; rintro e wn ⟨rfl, hbn⟩; have HX := hid (HX.out.trans (hbn.mono HX.out.size)); clear hbn H23)
            | (go_at_call 11; refine (H2C.out _ HX.out).mono ?_; rintro e wn ⟨rfl, hbn⟩; have HX := hid (HX.out.trans (hbn.mono HX.out.size)); clear hbn H2C)
            | (go_at_call 11; refine (H0B.out _ HX.out).mono ?_; rintro e wn ⟨rfl, hbn⟩; have HX := hid (HX.out.trans (hbn.mono HX.out.size)); clear hbn H0B)
            | (go_at_call 11; refine (H2D.out _ HX.out).mono ?_; rintro e wn ⟨rfl, hbn⟩; have HX := hid (HX.out.trans (hbn.mono HX.out.size)); clear hbn H2D)
            | (go_at_call 12; refine (HAW.out _ HX.out).mono ?_; rintro e wn ⟨rfl, hbn⟩; have HX := hid (HX.out.trans (hbn.mono HX.out.size)); clear hbn))
          go_ret
          exact ⟨rfl, HBO.out.trans (HX.out.mono HBO.out.size)⟩
        · subst hE
          go_wp2_with (first
            | (go_at_call 10; refine HCR.out.mono ?_; rintro e wc ⟨⟨vc, rfl⟩, hdc, hkc⟩; have HBC := hid (HBW.out.trans hkc.below); have HOP := hid (opened_each hdc rfl (tab_kd HT.out hg HBC.out) hg HJ.out HT3.out (by show ([] : List (Nat × List Int)).length ≤ 700000; simp) (by show D2.writes ≤ 700000000; omega)); clear hdc hkc HCR)
            | (go_at_call 6; refine HOP.out.mono ?_; rintro e wo ⟨F2, D3, rfl, hdo, hfo, hlo, h3, hbo⟩; have HBO := hid (HBC.out.trans hbo); have HX := hid (Below.refl wo.heap.size wo); have H12 := hid (fun wx (hb : Below wo.heap.size wo wx) => is_true (no := 1) (m := 2) (hdo.below hb) (hfo.below hb) hlo (tab_kd HT.out hg (HBO.out.trans (hb.mono HBO.out.size))) (by omega) (by omega) (h3.ok 1 (by omega)) (by omega) h3.p1); have H01 := hid (fun wx (hb : Below wo.heap.size wo wx) => is_false (no := 0) (k := A) (m := 1) (hdo.below hb) (hfo.below hb) hlo (tab_kd HT.out hg (HBO.out.trans (hb.mono HBO.out.size))) (by omega) (by omega) (h3.ok 0 (by omega)) (by omega) (by omega) (by omega) h3.p0); have H0A := hid (fun wx (hb : Below wo.heap.size wo wx) => is_true (no := 0) (m := A) (hdo.below hb) (hfo.below hb) hlo (tab_kd HT.out hg (HBO.out.trans (hb.mono HBO.out.size))) (by omega) (by omega) (h3.ok 0 (by omega)) (by omega) h3.p0); have H23 := hid (fun wx (hb : Below wo.heap.size wo wx) => is_false (no := 2) (k := C) (m := 3) (hdo.below hb) (hfo.below hb) hlo (tab_kd HT.out hg (HBO.out.trans (hb.mono HBO.out.size))) (by omega) (by omega) (h3.ok 2 (by omega)) (by omega) (by omega) (by omega) h3.p2); have H2C := hid (fun wx (hb : Below wo.heap.size wo wx) => is_true (no := 2) (m := C) (hdo.below hb) (hfo.below hb) hlo (tab_kd HT.out hg (HBO.out.trans (hb.mono HBO.out.size))) (by omega) (by omega) (h3.ok 2 (by omega)) (by omega) h3.p2); have HAW := hid (fun wx (hb : Below wo.heap.size wo wx) => pawake_any wx (tab_kd HT.out hg (HBO.out.trans (hb.mono HBO.out.size)))); clear hdo hfo hlo h3 hbo HOP)
            | (go_at_call 11; refine (H12.out _ HX.out).mono ?_; rintro e wn ⟨rfl, hbn⟩; have HX := hid (HX.out.trans (hbn.mono HX.out.size)); clear hbn H12)
            | (go_at_call 11; refine (H01.out _ HX.out).mono ?_; rintro e wn ⟨rfl, hbn⟩; have HX := hid (HX.out.trans (hbn.mono HX.out.size)); clear hbn H01)
            | (go_at_call 11; refine (H0A.out _ HX.out).mono ?_; rintro e wn ⟨rfl, hbn⟩; have HX := hid (HX.out.trans (hbn.mono HX.out.size)); clear hbn H0A)
            | (go_at_call 11; refine (H23.out _ HX.out).mono ?_; rintro e wn ⟨rfl, hbn⟩; have HX := hid (HX.out.trans (hbn.mono HX.out.size)); clear hbn H23)
            | (go_at_call 11; refine (H2C.out _ HX.out).mono ?_; rintro e wn ⟨rfl, hbn⟩; have HX := hid (HX.out.trans (hbn.mono HX.out.size)); clear hbn H2C)
            | (go_at_call 12; refine (HAW.out _ HX.out).mono ?_; rintro e wn ⟨rfl, hbn⟩; have HX := hid (HX.out.trans (hbn.mono HX.out.size)); clear hbn))
          go_ret
          exact ⟨rfl, HBO.out.trans (HX.out.mono HBO.out.size)⟩
end Go.Proofs.YtafopokcfkgjiaaDoor
