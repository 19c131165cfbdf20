/-
  PageBounds: the walk.
-/
import Derived.Test.YtaoeimijlilclaaDoorGAwake
namespace Go.Proofs.YtaoeimijlilclaaDoor
open Go.RowKit

theorem i64_and255 (n : Int) : bits .and .i64 n 255 = n % 256 := by
  have h31 : (BitVec.ofInt 64 255).toNat = 2 ^ 8 - 1 := by decide
  have key : (BitVec.ofInt 64 n &&& BitVec.ofInt 64 255).toNat = (n % ((2 ^ 64 : Nat) : Int)).toNat % 2 ^ 8 := by
    rw [BitVec.toNat_and, BitVec.toNat_ofInt, h31, Nat.and_two_pow_sub_one_eq_mod]
  show IntKind.i64.wrap ((BitVec.ofInt 64 n &&& BitVec.ofInt 64 255).toNat : Nat) = n % 256
  rw [key, IntKind.wrap_i64]
  omega
/-- The two Files behind both Writes. -/
theorem two_files {m m1 : Nat} (hm : m ≤ 65535) (hm1 : m1 ≤ 65535) : ∃ D1 D2 : Dk, writeP 0 1 (Dk.new 200) [pgOf 0 m] = (D1, 0) ∧ D1.left = -1 ∧ D1.wait.length ≤ 700000 ∧ D1.writes ≤ 700000000 ∧
    (D1.Ok 200 → writeP 88 2 D1 [pgOf 1 m1] = (D2, 0)) ∧ (D1.Ok 200 → D2.left ≠ 0) ∧ (D1.Ok 200 → D2.Ok 200 → FSt D2.now 0 1 (upd (fun _ => none) [pgOf 0 m]) ∧ FSt D2.now 88 2 (upd (fun _ => none) [pgOf 1 m1])) := by
  obtain ⟨D1, h1, h2, h3, h4, h5, h6, h7⟩ := wrote (new_st (n := 200) (p0 := 0) (np := 1) (by omega) (by omega)) (Dk.ok_new 200) rfl (takes_one (no := 0) (m := m) (np := 1) (by omega) hm) (by simp)
  have hw : D1.writes ≤ 200 := by have : (Dk.new 200).writes = 0 := rfl; omega
  by_cases hok : D1.Ok 200
  · have hst2 : FSt D1.now 88 2 (fun _ => none) := (new_st (n := 200) (p0 := 88) (np := 2) (by omega) (by omega)).congr hok.now_secs (by rw [hok.now_len, (Dk.ok_new 200).now_len]) (fun j a b => h7 j (.inr (by omega)))
    obtain ⟨D2, k1, k2, k3, k4, k5, k6, k7⟩ := wrote hst2 hok h2 (takes_one (no := 1) (m := m1) (np := 2) (by omega) hm1) (by simp)
    refine ⟨D1, D2, h1, h2, by rw [h3]; simp, by omega, fun _ => k1, fun _ => by omega, fun _ hok2 => ⟨(h6 hok).congr hok2.now_secs (by rw [hok2.now_len, hok.now_len]) (fun j a b => k7 j (.inl (by omega))), k6 hok2⟩⟩
  · exact ⟨D1, D1, h1, h2, by rw [h3]; simp, by omega, fun h => absurd h hok, fun h => absurd h hok, fun h => absurd h hok⟩

set_option maxRecDepth 100000 in
set_option maxHeartbeats 3200000 in
theorem bounds_fits (w : World) (at_ pages n : Int) (p0 np : Nat) (hat : at_ = p0) (hpg : pages = np) (h1 : 1 ≤ np) (h2 : np ≤ 4096) (h3 : p0 + np * 8 + 80 ≤ 200) (ht : TabOk w) :
    Calls Tryd.prog 6 #[.int .i64 at_, .int .i64 pages, .int .i64 n] w fun e w' => e = .returned (.bool true) ∧ Below w.heap.size w w' := by
  have hg := ht.lt
  have HT := hid ht
  have HNW := hid (new_any 200 w (by omega))
  have HN1 := hid (fun wx => need_any 1 wx (by omega))
  have hmx : (8 * max (1 : Int) 1 + 80) = 88 := by decide
  rw [hmx] at HN1
  obtain ⟨k, hk, hk255⟩ : ∃ k : Nat, bits .and .i64 n 255 = (k : Int) ∧ k ≤ 255 := ⟨(n % 256).toNat, by rw [i64_and255]; omega, by omega⟩
  obtain ⟨m, hm, hmb⟩ : ∃ m : Nat, (k : Int) + 1 = (m : Int) ∧ m ≤ 256 := ⟨k + 1, by omega, by omega⟩
  obtain ⟨m1, hm1, hm1b⟩ : ∃ m1 : Nat, (m : Int) + 1 = (m1 : Int) ∧ m1 ≤ 257 := ⟨m + 1, by omega, by omega⟩
  obtain ⟨D1, D2, hw1, hl1, hwl1, hwr1, hw2, hl2, hst⟩ := two_files (m := m) (m1 := m1) (by omega) (by omega)
  have HW1 := hid hw1
  have HW2 := hid hw2
  have HL2 := hid hl2
  have HST := hid hst
  have HMX := hid hmx
  clear ht hmx hw1 hw2 hl2 hst
  have i1 : 1 ≤ pages := by omega
  have i2 : pages ≤ 4096 := by omega
  have i3 : 0 ≤ at_ := by omega
  have i4 : at_ ≤ 200 := by omega
  have i5 : 8 * pages + 80 ≤ 200 - at_ := by omega
  have HNP := hid (fun wx => need_any pages wx (by omega))
  rw [show max pages 1 = pages by omega] at HNP
  have HAT := hid hat
  have HPS := hid hpg
  have HB123 := hid (And.intro h1 (And.intro h2 h3))
  clear hat hpg h1 h2 h3
  go_enter Tryd.func6, Tryd.ntmps6
  go_wp2_with (first
    | (go_at_call 7; refine HNW.out.mono ?_; rintro e w1 ⟨B, rfl, hd1, hb1⟩; have HD1 := hid hd1; have HB1 := hid hb1; have HO := hid (open_good (p0 := p0) (np := np) hd1 rfl (HT.out.below hb1 (Nat.le_refl _)) hg HB123.out.1 HB123.out.2.1 HB123.out.2.2 (new_st HB123.out.2.2 HB123.out.2.1).noted.1 (by rw [(new_st (n := 200) HB123.out.2.2 HB123.out.2.1).redo]; exact fun no hno => ((new_st HB123.out.2.2 HB123.out.2.1).fetch hno).1) (by decide) (by decide)); rw [(new_st (n := 200) HB123.out.2.2 HB123.out.2.1).redo, ← HAT.out, ← HPS.out] at HO; clear hd1 hb1 HNW)
    | (go_at_call 19; refine HO.out.mono ?_; rintro e w2 ⟨F, rfl, hFs, hd2, hf2, hk2⟩; have HBX := hid (HB1.out.trans hk2.below); have HOX := hid (opened_st (p0 := 0) (np := 1) hd2 rfl (tab_kd HT.out hg HBX.out) hg (by omega) (new_st (by omega) (by omega)) (by decide) (by decide)); clear hd2 hf2 hk2 HO hFs)
    | (go_at_call 8; refine (HNP.out _).mono ?_; rintro e w0 ⟨rfl, hw⟩; have hw' := hw.symm; clear hw; subst hw')
    | (go_at_call 9; refine HOX.out.mono ?_; rintro e w3 ⟨F1, rfl, hF1, hd3, hf3, hk3⟩; have HB3 := hid (HBX.out.trans hk3.below); have HF3 := hid hf3; have HOY := hid (opened_st (p0 := 88) (np := 2) hd3 rfl (tab_kd HT.out hg HB3.out) hg (by omega) (new_st (by omega) (by omega)) (by decide) (by decide)); clear hd3 hf3 hk3 HOX hF1)
    | (go_at_call 8; refine (HN1.out _).mono ?_; rintro e w0 ⟨rfl, hw⟩; have hw' := hw.symm; clear hw; subst hw')
    | (go_at_call 9; refine HOY.out.mono ?_; rintro e w4 ⟨F2, rfl, hF2, hd4, hf4, hk4⟩; have hlt1 := lt_of_heap HF3.out.2; have HNE := hid (show F1 ≠ F2 by omega); have HX4 := hid (HF3.out.kp hk4 HNE.out); have HY4 := hid hf4; have HD4 := hid hd4; have HB4 := hid (HB3.out.trans hk4.below); have HOF := hid (of_any 0 m w4 (by omega)); clear hd4 hf4 hk4 HOY hF2 hlt1 HF3)
    | (go_at_call 10; refine HOF.out.mono ?_; rintro e w5 ⟨a5, c5, rfl, hown5, hb5⟩; obtain ⟨wL, hwL⟩ : ∃ wL, w5.alloc (.cells #[.int .i64 0, .int .u64 m, .slice a5 480 c5] 37) = wL := ⟨_, rfl⟩; have hbL : Below w5.heap.size w5 wL := (by rw [← hwL]; exact (Below.refl _ _).alloc (Nat.le_refl _) _); have hpgL : Pgs wL (.slice (some ⟨w5.heap.size, 0, none⟩) 1 1) [pgOf 0 m] := (by rw [← hwL]; exact pgs_one (own_mono hown5 (Nat.zero_le _))); have HBL := hid (HB4.out.trans ((hb5.mono HB4.out.size).trans (hbL.mono (Nat.le_trans HB4.out.size hb5.size)))); have HYL := hid ((HY4.out.below hb5).below hbL); have HWR := hid (pwrite_any ((HD4.out.below hb5).below hbL) ((HX4.out.below hb5).below hbL) (tab_kd HT.out hg HBL.out) hg (by omega) (by omega) hpgL (takes_one (by omega) (by omega)) (by simp) (by decide) (by decide)); rw [HW1.out] at HWR; clear hown5 hb5 hbL hpgL HOF HX4 HY4 HD4)
    | (go_at_call 11; refine HWR.out.mono ?_; rintro e w6 ⟨rfl, hd6, ⟨half, hf6, hh6⟩, hk6⟩; obtain rfl := hh6 (by simp); have HB6 := hid (HBL.out.trans hk6.below); have HX6 := hid hf6; have HY6 := hid (HYL.out.kp hk6 HNE.out.symm); have HD6 := hid hd6; have HOF2 := hid (of_any 1 m1 w6 (by omega)); clear hd6 hf6 hk6 hh6 HWR HYL)
    | (go_at_call 10; refine HOF2.out.mono ?_; rintro e w7 ⟨a7, c7, rfl, hown7, hb7⟩; obtain ⟨wM, hwM⟩ : ∃ wM, w7.alloc (.cells #[.int .i64 1, .int .u64 m1, .slice a7 480 c7] 37) = wM := ⟨_, rfl⟩; have hbM : Below w7.heap.size w7 wM := (by rw [← hwM]; exact (Below.refl _ _).alloc (Nat.le_refl _) _); have hpgM : Pgs wM (.slice (some ⟨w7.heap.size, 0, none⟩) 1 1) [pgOf 1 m1] := (by rw [← hwM]; exact pgs_one (own_mono hown7 (Nat.zero_le _))); have HBM := hid (HB6.out.trans ((hb7.mono HB6.out.size).trans (hbM.mono (Nat.le_trans HB6.out.size hb7.size)))); have HXM := hid ((HX6.out.below hb7).below hbM); have HWS := hid (pwrite_any ((HD6.out.below hb7).below hbM) ((HY6.out.below hb7).below hbM) (tab_kd HT.out hg HBM.out) hg (by omega) (by omega) hpgM (takes_one (by omega) (by omega)) (by simp) hwl1 hwr1); rw [HW2.out HD6.out.ok] at HWS; clear hown7 hb7 hbM hpgM HOF2 HX6 HY6)
    | (go_at_call 11; refine HWS.out.mono ?_; rintro e w8 ⟨rfl, hd8, ⟨half, hf8, hh8⟩, hk8⟩; obtain rfl := hh8 (by simp); have HB8 := hid (HBM.out.trans hk8.below); have HX8 := hid (HXM.out.kp hk8 HNE.out); have HY8 := hid hf8; have HD8 := hid hd8; have HS8 := hid (HST.out HD6.out.ok hd8.ok); have HI1 := hid (is_st (no := 0) (m := m) hd8 HX8.out (HL2.out HD6.out.ok) (tab_kd HT.out hg HB8.out) HS8.out.1 (by omega) (by omega) rfl); clear hd8 hf8 hk8 hh8 HWS HXM)
    | (go_at_call 13; refine HI1.out.mono ?_; rintro e w9 ⟨rfl, hb9⟩; have HB9 := hid (HB8.out.trans (hb9.mono HB8.out.size)); have HD9 := hid (HD8.out.below hb9); have HY9 := hid (HY8.out.below hb9); have HI2 := hid (is_st (no := 0) (m := 0) HD9.out HY9.out (HL2.out HD6.out.ok) (tab_kd HT.out hg HB9.out) HS8.out.2 (by omega) (by omega) (told_none 0)); clear hb9 HI1 HB8 HD8 HY8)
    | (go_at_call 13; refine HI2.out.mono ?_; rintro e wa ⟨rfl, hba⟩; have HBA := hid (HB9.out.trans (hba.mono HB9.out.size)); have HI3 := hid (is_st (no := 1) (m := m1) (HD9.out.below hba) (HY9.out.below hba) (HL2.out HD6.out.ok) (tab_kd HT.out hg HBA.out) HS8.out.2 (by omega) (by omega) rfl); clear hba HI2)
    | (go_at_call 13; refine HI3.out.mono ?_; rintro e wb ⟨rfl, hbb⟩; have HBB := hid (HBA.out.trans (hbb.mono HBA.out.size)); have HAW := hid (pawake_any wb (tab_kd HT.out hg HBB.out)); clear hbb HI3)
    | (go_at_call 14; refine HAW.out.mono ?_; rintro e wc ⟨rfl, hbc⟩; have HBC := hid (HBB.out.trans (hbc.mono HBB.out.size)); clear hbc HAW))
  all_goals
    go_ret
    exact ⟨rfl, HBC.out⟩
set_option maxRecDepth 100000 in
set_option maxHeartbeats 3200000 in
theorem bounds_low (w : World) (at_ pages n : Int) (ha0 : -9223372036854775808 ≤ at_) (ha1 : at_ ≤ 9223372036854775807) (hp0 : -9223372036854775808 ≤ pages) (hp1 : pages ≤ 9223372036854775807) (hlow : pages < 1) (ht : TabOk w) :
    Calls Tryd.prog 6 #[.int .i64 at_, .int .i64 pages, .int .i64 n] w fun e w' => e = .returned (.bool true) ∧ Below w.heap.size w w' := by
  have hg := ht.lt
  have HT := hid ht
  have HNW := hid (new_any 200 w (by omega))
  have HN1 := hid (fun wx => need_any 1 wx (by omega))
  have hmx : (8 * max (1 : Int) 1 + 80) = 88 := by decide
  rw [hmx] at HN1
  obtain ⟨k, hk, hk255⟩ : ∃ k : Nat, bits .and .i64 n 255 = (k : Int) ∧ k ≤ 255 := ⟨(n % 256).toNat, by rw [i64_and255]; omega, by omega⟩
  obtain ⟨m, hm, hmb⟩ : ∃ m : Nat, (k : Int) + 1 = (m : Int) ∧ m ≤ 256 := ⟨k + 1, by omega, by omega⟩
  obtain ⟨m1, hm1, hm1b⟩ : ∃ m1 : Nat, (m : Int) + 1 = (m1 : Int) ∧ m1 ≤ 257 := ⟨m + 1, by omega, by omega⟩
  obtain ⟨D1, D2, hw1, hl1, hwl1, hwr1, hw2, hl2, hst⟩ := two_files (m := m) (m1 := m1) (by omega) (by omega)
  have HW1 := hid hw1
  have HW2 := hid hw2
  have HL2 := hid hl2
  have HST := hid hst
  have HMX := hid hmx
  clear ht hmx hw1 hw2 hl2 hst
  have hbad : ¬ (1 ≤ pages ∧ pages ≤ 4096 ∧ 0 ≤ at_ ∧ at_ ≤ ((200 : Nat) : Int) - (8 * pages + 80)) := by omega
  have HNP := hid (fun wx => need_any pages wx (by omega))
  rw [show (8 * max pages 1 + 80) = 88 by omega] at HNP
  have d1 : decide (1 ≤ pages) = false := by simp; omega
  go_enter Tryd.func6, Tryd.ntmps6
  go_wp2_with (first
    | (go_at_call 7; refine HNW.out.mono ?_; rintro e w1 ⟨B, rfl, hd1, hb1⟩; have HD1 := hid hd1; have HB1 := hid hb1; have HO := hid (open_bad hd1 ha0 ha1 hp0 hp1 hbad); clear hd1 hb1 HNW)
    | (go_at_call 19; refine HO.out.mono ?_; rintro e w2 ⟨rfl, hw⟩; have hw' := hw.symm; clear hw HO; subst hw'; have HBX := hid HB1.out; have HOX := hid (opened_st (p0 := 0) (np := 1) HD1.out rfl (tab_kd HT.out hg HBX.out) hg (by omega) (new_st (by omega) (by omega)) (by decide) (by decide)))
    | (go_at_call 8; refine (HNP.out _).mono ?_; rintro e w0 ⟨rfl, hw⟩; have hw' := hw.symm; clear hw; subst hw')
    | (go_at_call 9; refine HOX.out.mono ?_; rintro e w3 ⟨F1, rfl, hF1, hd3, hf3, hk3⟩; have HB3 := hid (HBX.out.trans hk3.below); have HF3 := hid hf3; have HOY := hid (opened_st (p0 := 88) (np := 2) hd3 rfl (tab_kd HT.out hg HB3.out) hg (by omega) (new_st (by omega) (by omega)) (by decide) (by decide)); clear hd3 hf3 hk3 HOX hF1)
    | (go_at_call 8; refine (HN1.out _).mono ?_; rintro e w0 ⟨rfl, hw⟩; have hw' := hw.symm; clear hw; subst hw')
    | (go_at_call 9; refine HOY.out.mono ?_; rintro e w4 ⟨F2, rfl, hF2, hd4, hf4, hk4⟩; have hlt1 := lt_of_heap HF3.out.2; have HNE := hid (show F1 ≠ F2 by omega); have HX4 := hid (HF3.out.kp hk4 HNE.out); have HY4 := hid hf4; have HD4 := hid hd4; have HB4 := hid (HB3.out.trans hk4.below); have HOF := hid (of_any 0 m w4 (by omega)); clear hd4 hf4 hk4 HOY hF2 hlt1 HF3)
    | (go_at_call 10; refine HOF.out.mono ?_; rintro e w5 ⟨a5, c5, rfl, hown5, hb5⟩; obtain ⟨wL, hwL⟩ : ∃ wL, w5.alloc (.cells #[.int .i64 0, .int .u64 m, .slice a5 480 c5] 37) = wL := ⟨_, rfl⟩; have hbL : Below w5.heap.size w5 wL := (by rw [← hwL]; exact (Below.refl _ _).alloc (Nat.le_refl _) _); have hpgL : Pgs wL (.slice (some ⟨w5.heap.size, 0, none⟩) 1 1) [pgOf 0 m] := (by rw [← hwL]; exact pgs_one (own_mono hown5 (Nat.zero_le _))); have HBL := hid (HB4.out.trans ((hb5.mono HB4.out.size).trans (hbL.mono (Nat.le_trans HB4.out.size hb5.size)))); have HYL := hid ((HY4.out.below hb5).below hbL); have HWR := hid (pwrite_any ((HD4.out.below hb5).below hbL) ((HX4.out.below hb5).below hbL) (tab_kd HT.out hg HBL.out) hg (by omega) (by omega) hpgL (takes_one (by omega) (by omega)) (by simp) (by decide) (by decide)); rw [HW1.out] at HWR; clear hown5 hb5 hbL hpgL HOF HX4 HY4 HD4)
    | (go_at_call 11; refine HWR.out.mono ?_; rintro e w6 ⟨rfl, hd6, ⟨half, hf6, hh6⟩, hk6⟩; obtain rfl := hh6 (by simp); have HB6 := hid (HBL.out.trans hk6.below); have HX6 := hid hf6; have HY6 := hid (HYL.out.kp hk6 HNE.out.symm); have HD6 := hid hd6; have HOF2 := hid (of_any 1 m1 w6 (by omega)); clear hd6 hf6 hk6 hh6 HWR HYL)
    | (go_at_call 10; refine HOF2.out.mono ?_; rintro e w7 ⟨a7, c7, rfl, hown7, hb7⟩; obtain ⟨wM, hwM⟩ : ∃ wM, w7.alloc (.cells #[.int .i64 1, .int .u64 m1, .slice a7 480 c7] 37) = wM := ⟨_, rfl⟩; have hbM : Below w7.heap.size w7 wM := (by rw [← hwM]; exact (Below.refl _ _).alloc (Nat.le_refl _) _); have hpgM : Pgs wM (.slice (some ⟨w7.heap.size, 0, none⟩) 1 1) [pgOf 1 m1] := (by rw [← hwM]; exact pgs_one (own_mono hown7 (Nat.zero_le _))); have HBM := hid (HB6.out.trans ((hb7.mono HB6.out.size).trans (hbM.mono (Nat.le_trans HB6.out.size hb7.size)))); have HXM := hid ((HX6.out.below hb7).below hbM); have HWS := hid (pwrite_any ((HD6.out.below hb7).below hbM) ((HY6.out.below hb7).below hbM) (tab_kd HT.out hg HBM.out) hg (by omega) (by omega) hpgM (takes_one (by omega) (by omega)) (by simp) hwl1 hwr1); rw [HW2.out HD6.out.ok] at HWS; clear hown7 hb7 hbM hpgM HOF2 HX6 HY6)
    | (go_at_call 11; refine HWS.out.mono ?_; rintro e w8 ⟨rfl, hd8, ⟨half, hf8, hh8⟩, hk8⟩; obtain rfl := hh8 (by simp); have HB8 := hid (HBM.out.trans hk8.below); have HX8 := hid (HXM.out.kp hk8 HNE.out); have HY8 := hid hf8; have HD8 := hid hd8; have HS8 := hid (HST.out HD6.out.ok hd8.ok); have HI1 := hid (is_st (no := 0) (m := m) hd8 HX8.out (HL2.out HD6.out.ok) (tab_kd HT.out hg HB8.out) HS8.out.1 (by omega) (by omega) rfl); clear hd8 hf8 hk8 hh8 HWS HXM)
    | (go_at_call 13; refine HI1.out.mono ?_; rintro e w9 ⟨rfl, hb9⟩; have HB9 := hid (HB8.out.trans (hb9.mono HB8.out.size)); have HD9 := hid (HD8.out.below hb9); have HY9 := hid (HY8.out.below hb9); have HI2 := hid (is_st (no := 0) (m := 0) HD9.out HY9.out (HL2.out HD6.out.ok) (tab_kd HT.out hg HB9.out) HS8.out.2 (by omega) (by omega) (told_none 0)); clear hb9 HI1 HB8 HD8 HY8)
    | (go_at_call 13; refine HI2.out.mono ?_; rintro e wa ⟨rfl, hba⟩; have HBA := hid (HB9.out.trans (hba.mono HB9.out.size)); have HI3 := hid (is_st (no := 1) (m := m1) (HD9.out.below hba) (HY9.out.below hba) (HL2.out HD6.out.ok) (tab_kd HT.out hg HBA.out) HS8.out.2 (by omega) (by omega) rfl); clear hba HI2)
    | (go_at_call 13; refine HI3.out.mono ?_; rintro e wb ⟨rfl, hbb⟩; have HBB := hid (HBA.out.trans (hbb.mono HBA.out.size)); have HAW := hid (pawake_any wb (tab_kd HT.out hg HBB.out)); clear hbb HI3)
    | (go_at_call 14; refine HAW.out.mono ?_; rintro e wc ⟨rfl, hbc⟩; have HBC := hid (HBB.out.trans (hbc.mono HBB.out.size)); clear hbc HAW))
  all_goals
    go_ret
    exact ⟨rfl, HBC.out⟩
set_option maxRecDepth 100000 in
set_option maxHeartbeats 3200000 in
theorem bounds_great (w : World) (at_ pages n : Int) (ha0 : -9223372036854775808 ≤ at_) (ha1 : at_ ≤ 9223372036854775807) (hp0 : -9223372036854775808 ≤ pages) (hp1 : pages ≤ 9223372036854775807) (hgr : 1099511627776 ≤ pages) (ht : TabOk w) :
    Calls Tryd.prog 6 #[.int .i64 at_, .int .i64 pages, .int .i64 n] w fun e w' => e = .returned (.bool true) ∧ Below w.heap.size w w' := by
  have hg := ht.lt
  have HT := hid ht
  have HNW := hid (new_any 200 w (by omega))
  have HN1 := hid (fun wx => need_any 1 wx (by omega))
  have hmx : (8 * max (1 : Int) 1 + 80) = 88 := by decide
  rw [hmx] at HN1
  obtain ⟨k, hk, hk255⟩ : ∃ k : Nat, bits .and .i64 n 255 = (k : Int) ∧ k ≤ 255 := ⟨(n % 256).toNat, by rw [i64_and255]; omega, by omega⟩
  obtain ⟨m, hm, hmb⟩ : ∃ m : Nat, (k : Int) + 1 = (m : Int) ∧ m ≤ 256 := ⟨k + 1, by omega, by omega⟩
  obtain ⟨m1, hm1, hm1b⟩ : ∃ m1 : Nat, (m : Int) + 1 = (m1 : Int) ∧ m1 ≤ 257 := ⟨m + 1, by omega, by omega⟩
  obtain ⟨D1, D2, hw1, hl1, hwl1, hwr1, hw2, hl2, hst⟩ := two_files (m := m) (m1 := m1) (by omega) (by omega)
  have HW1 := hid hw1
  have HW2 := hid hw2
  have HL2 := hid hl2
  have HST := hid hst
  have HMX := hid hmx
  clear ht hmx hw1 hw2 hl2 hst
  have hbad : ¬ (1 ≤ pages ∧ pages ≤ 4096 ∧ 0 ≤ at_ ∧ at_ ≤ ((200 : Nat) : Int) - (8 * pages + 80)) := by omega
  have d1 : decide (1 ≤ pages) = true := by simp; omega
  have d2 : decide (pages ≤ 4096) = false := by simp; omega
  have d3 : decide (pages < 1099511627776) = false := by simp; omega
  go_enter Tryd.func6, Tryd.ntmps6
  go_wp2_with (first
    | (go_at_call 7; refine HNW.out.mono ?_; rintro e w1 ⟨B, rfl, hd1, hb1⟩; have HD1 := hid hd1; have HB1 := hid hb1; have HO := hid (open_bad hd1 ha0 ha1 hp0 hp1 hbad); clear hd1 hb1 HNW)
    | (go_at_call 19; refine HO.out.mono ?_; rintro e w2 ⟨rfl, hw⟩; have hw' := hw.symm; clear hw HO; subst hw'; have HBX := hid HB1.out; have HOX := hid (opened_st (p0 := 0) (np := 1) HD1.out rfl (tab_kd HT.out hg HBX.out) hg (by omega) (new_st (by omega) (by omega)) (by decide) (by decide)))
    | (go_at_call 9; refine HOX.out.mono ?_; rintro e w3 ⟨F1, rfl, hF1, hd3, hf3, hk3⟩; have HB3 := hid (HBX.out.trans hk3.below); have HF3 := hid hf3; have HOY := hid (opened_st (p0 := 88) (np := 2) hd3 rfl (tab_kd HT.out hg HB3.out) hg (by omega) (new_st (by omega) (by omega)) (by decide) (by decide)); clear hd3 hf3 hk3 HOX hF1)
    | (go_at_call 8; refine (HN1.out _).mono ?_; rintro e w0 ⟨rfl, hw⟩; have hw' := hw.symm; clear hw; subst hw')
    | (go_at_call 9; refine HOY.out.mono ?_; rintro e w4 ⟨F2, rfl, hF2, hd4, hf4, hk4⟩; have hlt1 := lt_of_heap HF3.out.2; have HNE := hid (show F1 ≠ F2 by omega); have HX4 := hid (HF3.out.kp hk4 HNE.out); have HY4 := hid hf4; have HD4 := hid hd4; have HB4 := hid (HB3.out.trans hk4.below); have HOF := hid (of_any 0 m w4 (by omega)); clear hd4 hf4 hk4 HOY hF2 hlt1 HF3)
    | (go_at_call 10; refine HOF.out.mono ?_; rintro e w5 ⟨a5, c5, rfl, hown5, hb5⟩; obtain ⟨wL, hwL⟩ : ∃ wL, w5.alloc (.cells #[.int .i64 0, .int .u64 m, .slice a5 480 c5] 37) = wL := ⟨_, rfl⟩; have hbL : Below w5.heap.size w5 wL := (by rw [← hwL]; exact (Below.refl _ _).alloc (Nat.le_refl _) _); have hpgL : Pgs wL (.slice (some ⟨w5.heap.size, 0, none⟩) 1 1) [pgOf 0 m] := (by rw [← hwL]; exact pgs_one (own_mono hown5 (Nat.zero_le _))); have HBL := hid (HB4.out.trans ((hb5.mono HB4.out.size).trans (hbL.mono (Nat.le_trans HB4.out.size hb5.size)))); have HYL := hid ((HY4.out.below hb5).below hbL); have HWR := hid (pwrite_any ((HD4.out.below hb5).below hbL) ((HX4.out.below hb5).below hbL) (tab_kd HT.out hg HBL.out) hg (by omega) (by omega) hpgL (takes_one (by omega) (by omega)) (by simp) (by decide) (by decide)); rw [HW1.out] at HWR; clear hown5 hb5 hbL hpgL HOF HX4 HY4 HD4)
    | (go_at_call 11; refine HWR.out.mono ?_; rintro e w6 ⟨rfl, hd6, ⟨half, hf6, hh6⟩, hk6⟩; obtain rfl := hh6 (by simp); have HB6 := hid (HBL.out.trans hk6.below); have HX6 := hid hf6; have HY6 := hid (HYL.out.kp hk6 HNE.out.symm); have HD6 := hid hd6; have HOF2 := hid (of_any 1 m1 w6 (by omega)); clear hd6 hf6 hk6 hh6 HWR HYL)
    | (go_at_call 10; refine HOF2.out.mono ?_; rintro e w7 ⟨a7, c7, rfl, hown7, hb7⟩; obtain ⟨wM, hwM⟩ : ∃ wM, w7.alloc (.cells #[.int .i64 1, .int .u64 m1, .slice a7 480 c7] 37) = wM := ⟨_, rfl⟩; have hbM : Below w7.heap.size w7 wM := (by rw [← hwM]; exact (Below.refl _ _).alloc (Nat.le_refl _) _); have hpgM : Pgs wM (.slice (some ⟨w7.heap.size, 0, none⟩) 1 1) [pgOf 1 m1] := (by rw [← hwM]; exact pgs_one (own_mono hown7 (Nat.zero_le _))); have HBM := hid (HB6.out.trans ((hb7.mono HB6.out.size).trans (hbM.mono (Nat.le_trans HB6.out.size hb7.size)))); have HXM := hid ((HX6.out.below hb7).below hbM); have HWS := hid (pwrite_any ((HD6.out.below hb7).below hbM) ((HY6.out.below hb7).below hbM) (tab_kd HT.out hg HBM.out) hg (by omega) (by omega) hpgM (takes_one (by omega) (by omega)) (by simp) hwl1 hwr1); rw [HW2.out HD6.out.ok] at HWS; clear hown7 hb7 hbM hpgM HOF2 HX6 HY6)
    | (go_at_call 11; refine HWS.out.mono ?_; rintro e w8 ⟨rfl, hd8, ⟨half, hf8, hh8⟩, hk8⟩; obtain rfl := hh8 (by simp); have HB8 := hid (HBM.out.trans hk8.below); have HX8 := hid (HXM.out.kp hk8 HNE.out); have HY8 := hid hf8; have HD8 := hid hd8; have HS8 := hid (HST.out HD6.out.ok hd8.ok); have HI1 := hid (is_st (no := 0) (m := m) hd8 HX8.out (HL2.out HD6.out.ok) (tab_kd HT.out hg HB8.out) HS8.out.1 (by omega) (by omega) rfl); clear hd8 hf8 hk8 hh8 HWS HXM)
    | (go_at_call 13; refine HI1.out.mono ?_; rintro e w9 ⟨rfl, hb9⟩; have HB9 := hid (HB8.out.trans (hb9.mono HB8.out.size)); have HD9 := hid (HD8.out.below hb9); have HY9 := hid (HY8.out.below hb9); have HI2 := hid (is_st (no := 0) (m := 0) HD9.out HY9.out (HL2.out HD6.out.ok) (tab_kd HT.out hg HB9.out) HS8.out.2 (by omega) (by omega) (told_none 0)); clear hb9 HI1 HB8 HD8 HY8)
    | (go_at_call 13; refine HI2.out.mono ?_; rintro e wa ⟨rfl, hba⟩; have HBA := hid (HB9.out.trans (hba.mono HB9.out.size)); have HI3 := hid (is_st (no := 1) (m := m1) (HD9.out.below hba) (HY9.out.below hba) (HL2.out HD6.out.ok) (tab_kd HT.out hg HBA.out) HS8.out.2 (by omega) (by omega) rfl); clear hba HI2)
    | (go_at_call 13; refine HI3.out.mono ?_; rintro e wb ⟨rfl, hbb⟩; have HBB := hid (HBA.out.trans (hbb.mono HBA.out.size)); have HAW := hid (pawake_any wb (tab_kd HT.out hg HBB.out)); clear hbb HI3)
    | (go_at_call 14; refine HAW.out.mono ?_; rintro e wc ⟨rfl, hbc⟩; have HBC := hid (HBB.out.trans (hbc.mono HBB.out.size)); clear hbc HAW))
  all_goals
    go_ret
    exact ⟨rfl, HBC.out⟩
set_option maxRecDepth 100000 in
set_option maxHeartbeats 3200000 in
theorem bounds_mid (w : World) (at_ pages n : Int) (ha0 : -9223372036854775808 ≤ at_) (ha1 : at_ ≤ 9223372036854775807) (hp0 : -9223372036854775808 ≤ pages) (hp1 : pages ≤ 9223372036854775807) (hlo : 1 ≤ pages) (hgr : pages < 1099511627776) (hb4 : ¬ (pages ≤ 4096 ∧ 0 ≤ at_ ∧ at_ ≤ 200 - (8 * pages + 80))) (ht : TabOk w) :
    Calls Tryd.prog 6 #[.int .i64 at_, .int .i64 pages, .int .i64 n] w fun e w' => e = .returned (.bool true) ∧ Below w.heap.size w w' := by
  have hg := ht.lt
  have HT := hid ht
  have HNW := hid (new_any 200 w (by omega))
  have HN1 := hid (fun wx => need_any 1 wx (by omega))
  have hmx : (8 * max (1 : Int) 1 + 80) = 88 := by decide
  rw [hmx] at HN1
  obtain ⟨k, hk, hk255⟩ : ∃ k : Nat, bits .and .i64 n 255 = (k : Int) ∧ k ≤ 255 := ⟨(n % 256).toNat, by rw [i64_and255]; omega, by omega⟩
  obtain ⟨m, hm, hmb⟩ : ∃ m : Nat, (k : Int) + 1 = (m : Int) ∧ m ≤ 256 := ⟨k + 1, by omega, by omega⟩
  obtain ⟨m1, hm1, hm1b⟩ : ∃ m1 : Nat, (m : Int) + 1 = (m1 : Int) ∧ m1 ≤ 257 := ⟨m + 1, by omega, by omega⟩
  obtain ⟨D1, D2, hw1, hl1, hwl1, hwr1, hw2, hl2, hst⟩ := two_files (m := m) (m1 := m1) (by omega) (by omega)
  have HW1 := hid hw1
  have HW2 := hid hw2
  have HL2 := hid hl2
  have HST := hid hst
  have HMX := hid hmx
  clear ht hmx hw1 hw2 hl2 hst
  have hbad : ¬ (1 ≤ pages ∧ pages ≤ 4096 ∧ 0 ≤ at_ ∧ at_ ≤ ((200 : Nat) : Int) - (8 * pages + 80)) := by omega
  have HNP := hid (fun wx => need_any pages wx (by omega))
  rw [show max pages 1 = pages by omega] at HNP
  have d1 : decide (1 ≤ pages) = true := by simp; omega
  go_enter Tryd.func6, Tryd.ntmps6
  go_wp2_with (first
    | (go_at_call 7; refine HNW.out.mono ?_; rintro e w1 ⟨B, rfl, hd1, hb1⟩; have HD1 := hid hd1; have HB1 := hid hb1; have HO := hid (open_bad hd1 ha0 ha1 hp0 hp1 hbad); clear hd1 hb1 HNW)
    | (go_at_call 19; refine HO.out.mono ?_; rintro e w2 ⟨rfl, hw⟩; have hw' := hw.symm; clear hw HO; subst hw'; have HBX := hid HB1.out; have HOX := hid (opened_st (p0 := 0) (np := 1) HD1.out rfl (tab_kd HT.out hg HBX.out) hg (by omega) (new_st (by omega) (by omega)) (by decide) (by decide)))
    | (go_at_call 8; refine (HNP.out _).mono ?_; rintro e w0 ⟨rfl, hw⟩; have hw' := hw.symm; clear hw; subst hw')
    | (go_at_call 9; refine HOX.out.mono ?_; rintro e w3 ⟨F1, rfl, hF1, hd3, hf3, hk3⟩; have HB3 := hid (HBX.out.trans hk3.below); have HF3 := hid hf3; have HOY := hid (opened_st (p0 := 88) (np := 2) hd3 rfl (tab_kd HT.out hg HB3.out) hg (by omega) (new_st (by omega) (by omega)) (by decide) (by decide)); clear hd3 hf3 hk3 HOX hF1)
    | (go_at_call 8; refine (HN1.out _).mono ?_; rintro e w0 ⟨rfl, hw⟩; have hw' := hw.symm; clear hw; subst hw')
    | (go_at_call 9; refine HOY.out.mono ?_; rintro e w4 ⟨F2, rfl, hF2, hd4, hf4, hk4⟩; have hlt1 := lt_of_heap HF3.out.2; have HNE := hid (show F1 ≠ F2 by omega); have HX4 := hid (HF3.out.kp hk4 HNE.out); have HY4 := hid hf4; have HD4 := hid hd4; have HB4 := hid (HB3.out.trans hk4.below); have HOF := hid (of_any 0 m w4 (by omega)); clear hd4 hf4 hk4 HOY hF2 hlt1 HF3)
    | (go_at_call 10; refine HOF.out.mono ?_; rintro e w5 ⟨a5, c5, rfl, hown5, hb5⟩; obtain ⟨wL, hwL⟩ : ∃ wL, w5.alloc (.cells #[.int .i64 0, .int .u64 m, .slice a5 480 c5] 37) = wL := ⟨_, rfl⟩; have hbL : Below w5.heap.size w5 wL := (by rw [← hwL]; exact (Below.refl _ _).alloc (Nat.le_refl _) _); have hpgL : Pgs wL (.slice (some ⟨w5.heap.size, 0, none⟩) 1 1) [pgOf 0 m] := (by rw [← hwL]; exact pgs_one (own_mono hown5 (Nat.zero_le _))); have HBL := hid (HB4.out.trans ((hb5.mono HB4.out.size).trans (hbL.mono (Nat.le_trans HB4.out.size hb5.size)))); have HYL := hid ((HY4.out.below hb5).below hbL); have HWR := hid (pwrite_any ((HD4.out.below hb5).below hbL) ((HX4.out.below hb5).below hbL) (tab_kd HT.out hg HBL.out) hg (by omega) (by omega) hpgL (takes_one (by omega) (by omega)) (by simp) (by decide) (by decide)); rw [HW1.out] at HWR; clear hown5 hb5 hbL hpgL HOF HX4 HY4 HD4)
    | (go_at_call 11; refine HWR.out.mono ?_; rintro e w6 ⟨rfl, hd6, ⟨half, hf6, hh6⟩, hk6⟩; obtain rfl := hh6 (by simp); have HB6 := hid (HBL.out.trans hk6.below); have HX6 := hid hf6; have HY6 := hid (HYL.out.kp hk6 HNE.out.symm); have HD6 := hid hd6; have HOF2 := hid (of_any 1 m1 w6 (by omega)); clear hd6 hf6 hk6 hh6 HWR HYL)
    | (go_at_call 10; refine HOF2.out.mono ?_; rintro e w7 ⟨a7, c7, rfl, hown7, hb7⟩; obtain ⟨wM, hwM⟩ : ∃ wM, w7.alloc (.cells #[.int .i64 1, .int .u64 m1, .slice a7 480 c7] 37) = wM := ⟨_, rfl⟩; have hbM : Below w7.heap.size w7 wM := (by rw [← hwM]; exact (Below.refl _ _).alloc (Nat.le_refl _) _); have hpgM : Pgs wM (.slice (some ⟨w7.heap.size, 0, none⟩) 1 1) [pgOf 1 m1] := (by rw [← hwM]; exact pgs_one (own_mono hown7 (Nat.zero_le _))); have HBM := hid (HB6.out.trans ((hb7.mono HB6.out.size).trans (hbM.mono (Nat.le_trans HB6.out.size hb7.size)))); have HXM := hid ((HX6.out.below hb7).below hbM); have HWS := hid (pwrite_any ((HD6.out.below hb7).below hbM) ((HY6.out.below hb7).below hbM) (tab_kd HT.out hg HBM.out) hg (by omega) (by omega) hpgM (takes_one (by omega) (by omega)) (by simp) hwl1 hwr1); rw [HW2.out HD6.out.ok] at HWS; clear hown7 hb7 hbM hpgM HOF2 HX6 HY6)
    | (go_at_call 11; refine HWS.out.mono ?_; rintro e w8 ⟨rfl, hd8, ⟨half, hf8, hh8⟩, hk8⟩; obtain rfl := hh8 (by simp); have HB8 := hid (HBM.out.trans hk8.below); have HX8 := hid (HXM.out.kp hk8 HNE.out); have HY8 := hid hf8; have HD8 := hid hd8; have HS8 := hid (HST.out HD6.out.ok hd8.ok); have HI1 := hid (is_st (no := 0) (m := m) hd8 HX8.out (HL2.out HD6.out.ok) (tab_kd HT.out hg HB8.out) HS8.out.1 (by omega) (by omega) rfl); clear hd8 hf8 hk8 hh8 HWS HXM)
    | (go_at_call 13; refine HI1.out.mono ?_; rintro e w9 ⟨rfl, hb9⟩; have HB9 := hid (HB8.out.trans (hb9.mono HB8.out.size)); have HD9 := hid (HD8.out.below hb9); have HY9 := hid (HY8.out.below hb9); have HI2 := hid (is_st (no := 0) (m := 0) HD9.out HY9.out (HL2.out HD6.out.ok) (tab_kd HT.out hg HB9.out) HS8.out.2 (by omega) (by omega) (told_none 0)); clear hb9 HI1 HB8 HD8 HY8)
    | (go_at_call 13; refine HI2.out.mono ?_; rintro e wa ⟨rfl, hba⟩; have HBA := hid (HB9.out.trans (hba.mono HB9.out.size)); have HI3 := hid (is_st (no := 1) (m := m1) (HD9.out.below hba) (HY9.out.below hba) (HL2.out HD6.out.ok) (tab_kd HT.out hg HBA.out) HS8.out.2 (by omega) (by omega) rfl); clear hba HI2)
    | (go_at_call 13; refine HI3.out.mono ?_; rintro e wb ⟨rfl, hbb⟩; have HBB := hid (HBA.out.trans (hbb.mono HBA.out.size)); have HAW := hid (pawake_any wb (tab_kd HT.out hg HBB.out)); clear hbb HI3)
    | (go_at_call 14; refine HAW.out.mono ?_; rintro e wc ⟨rfl, hbc⟩; have HBC := hid (HBB.out.trans (hbc.mono HBB.out.size)); clear hbc HAW))
  all_goals
    go_ret
    exact ⟨rfl, HBC.out⟩
theorem pageBounds_walk (w : World) (at_ : Int) (ha0 : -9223372036854775808 ≤ at_) (ha1 : at_ ≤ 9223372036854775807) (pages : Int) (hp0 : -9223372036854775808 ≤ pages) (hp1 : pages ≤ 9223372036854775807) (n : Int) (_ : -9223372036854775808 ≤ n) (_ : n ≤ 9223372036854775807) (ht : TabOk w) :
    Calls Tryd.prog 6 #[.int .i64 at_, .int .i64 pages, .int .i64 n] w fun e w' => e = .returned (.bool true) ∧ Below w.heap.size w w' := by
  by_cases h1 : pages < 1
  · exact bounds_low w at_ pages n ha0 ha1 hp0 hp1 h1 ht
  · by_cases h2 : 1099511627776 ≤ pages
    · exact bounds_great w at_ pages n ha0 ha1 hp0 hp1 h2 ht
    · by_cases h3 : pages ≤ 4096 ∧ 0 ≤ at_ ∧ at_ ≤ 200 - (8 * pages + 80)
      · exact bounds_fits w at_ pages n at_.toNat pages.toNat (by omega) (by omega) (by omega) (by omega) (by omega) ht
      · exact bounds_mid w at_ pages n ha0 ha1 hp0 hp1 (by omega) (by omega) h3 ht
end Go.Proofs.YtaoeimijlilclaaDoor
