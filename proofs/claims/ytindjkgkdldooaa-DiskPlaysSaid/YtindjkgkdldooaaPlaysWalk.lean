/-
  DiskPlays: the walk.
-/
import Derived.Test.YtindjkgkdldooaaPlaysMem
import Derived.Deep.CutBlock
namespace Go.Proofs.Ytindjkgkdldooaa
open Go.RowKit

set_option maxRecDepth 8000 in
set_option maxHeartbeats 8000000 in
theorem diskPlays_walk (w : World) (N : Int) (_hN0 : -9223372036854775808 ≤ N) (_hN1 : N ≤ 9223372036854775807) (v : Value) (os : List OpD) (h : OpsIs w v os) :
    Calls Try.prog 4 #[.int .i64 N, v] w fun e w' => e = .returned (.bool true) ∧ Below w.heap.size w w' := by
  obtain ⟨hok, ao, cap, rfl, hcell⟩ := h
  have HOK := hid hok
  have HC := hid hcell
  clear hok hcell
  by_cases hbad : ¬ (8 ≤ N ∧ N ≤ 65536)
  · have HNB := hid (new_bad N w hbad)
    have HRB := hid (rnew_bad N w hbad)
    rcases (show ¬ (40 < N) ∨ (40 < N ∧ ¬ (N ≤ 65536)) by omega) with h1 | ⟨h1, h2⟩
    · clear hbad
      go_enter Try.func4, Try.ntmps4
      go_wp2_with (first
        | (go_at_call 7; refine HNB.out.mono ?_; rintro e w4 ⟨rfl, h4⟩; have h4' := h4.symm; clear h4; subst h4')
        | (go_at_call 18; refine HRB.out.mono ?_; rintro e w4 ⟨rfl, h4⟩; have h4' := h4.symm; clear h4; subst h4')
        | (go_at_call 17; refine (awake_any w).mono ?_; rintro e w9 ⟨rfl, hb9⟩))
      go_ret
      exact ⟨rfl, hb9⟩
    · clear hbad
      go_enter Try.func4, Try.ntmps4
      go_wp2_with (first
        | (go_at_call 7; refine HNB.out.mono ?_; rintro e w4 ⟨rfl, h4⟩; have h4' := h4.symm; clear h4; subst h4')
        | (go_at_call 18; refine HRB.out.mono ?_; rintro e w4 ⟨rfl, h4⟩; have h4' := h4.symm; clear h4; subst h4')
        | (go_at_call 17; refine (awake_any w).mono ?_; rintro e w9 ⟨rfl, hb9⟩))
      go_ret
      exact ⟨rfl, hb9⟩
  have hgood : 8 ≤ N ∧ N ≤ 65536 := by omega
  clear hbad
  go_enter Try.func4, Try.ntmps4
  go_upto_region 1 with fail
  go_cut [22] from 17 to 22 (fun c wx => ((40 < N ∧ c = .bool true) ∨ (¬ (40 < N) ∧ c = .bool false)) ∧ wx = w)
  case first =>
    by_cases h1 : 40 < N
    · have h2 : N ≤ 65536 := hgood.2
      have H1 := hid h1
      go_wp2
      go_meet
      exact ⟨.inl ⟨H1.out, rfl⟩, rfl⟩
    · have H1 := hid h1
      go_wp2
      go_meet
      exact ⟨.inr ⟨H1.out, rfl⟩, rfl⟩
  case rest =>
  obtain ⟨hcc, rfl⟩ := hcut
  go_upto_if 22 with fail
  go_cut [0] from 23 to 25 (fun u wx => ∃ n : Nat, u = .int .i64 n ∧ (8 ≤ n ∧ n ≤ 40) ∧ wx = wc)
  case first =>
    rcases hcc with ⟨h1, rfl⟩ | ⟨h1, rfl⟩
    · obtain ⟨q, hq, hq33⟩ : ∃ q : Nat, N.tmod 33 = (q : Int) ∧ q < 33 := ⟨(N % 33).toNat, by rw [Int.tmod_eq_emod_of_nonneg (by omega)]; omega, by omega⟩
      have hw8 : IntKind.i64.wrap ((q : Int) + 8) = (q : Int) + 8 := by rw [IntKind.wrap_i64]; omega
      go_wp2
      go_meet
      exact ⟨q + 8, by go_num, by omega, rfl⟩
    · obtain ⟨q, rfl⟩ : ∃ q : Nat, N = (q : Int) := ⟨N.toNat, by omega⟩
      go_wp2
      go_meet
      exact ⟨q, rfl, by omega, rfl⟩
  case rest =>
  obtain ⟨n, rfl, hn, rfl⟩ := hcut
  rename World => w
  clear hgood hcc
  have HN := hid (new_any n w (by omega))
  go_wp2_with (first
    | (go_at_call 7; refine HN.out.mono ?_; rintro e w1 ⟨B, rfl, hd1, hb1⟩; have HD1 := hid hd1; have HB1 := hid hb1; have HRN := hid (rnew_any n w1 (by omega)); clear HN hd1 hb1)
    | (go_at_call 18; refine HRN.out.mono ?_; rintro e w2 ⟨R, rfl, hr2, hb2⟩; have HP0 := hid (show Pl w B R n (Dk.new n) w2 from ⟨HD1.out.below hb2, ⟨_, hr2.mono HB1.out.size⟩, HB1.out.trans (hb2.mono HB1.out.size)⟩); clear HRN HD1 HB1 hr2 hb2))
  go_loopw [9, 10, 11, 12, 13, 14, 15, 16] (fun i _ _ _ _ _ _ _ wr => ∃ (k : Nat) (d : Dk), k ≤ os.length ∧ k ≤ 60 ∧ i = .int .i64 k ∧ Pl w B R n d wr ∧ d.wait.length ≤ k ∧ d.writes ≤ k) (fun i _ _ _ _ _ _ _ _ => 60 - (intOf i).toNat)
  case atStart => exact ⟨0, _, Nat.zero_le _, by omega, rfl, HP0.out, by simp [Dk.new], by simp [Dk.new]⟩
  case round =>
  obtain ⟨k, d, hkl, hk60, rfl, hPl, hwt, hwr⟩ := hrel
  clear HP0
  by_cases hlt : ¬ (k < os.length ∧ k < 60)
  · have HB := hid hPl.below
    clear hPl
    rcases (show ¬ ((k : Int) < (os.length : Int)) ∨ ((k : Int) < (os.length : Int) ∧ ¬ ((k : Int) < 60)) by omega) with hx1 | ⟨hx1, hx2⟩
    · clear hkl hlt
      go_wp2_with (go_at_call 17; refine (awake_any wr).mono ?_; rintro e w9 ⟨rfl, hb9⟩)
      go_ret
      exact ⟨rfl, HB.out.trans (hb9.mono HB.out.size)⟩
    · clear hkl hlt
      go_wp2_with (go_at_call 17; refine (awake_any wr).mono ?_; rintro e w9 ⟨rfl, hb9⟩)
      go_ret
      exact ⟨rfl, HB.out.trans (hb9.mono HB.out.size)⟩
  have hlt' : k < os.length ∧ k < 60 := by omega
  obtain ⟨b, off, rfl, hrg⟩ := HC.out (by omega)
  obtain ⟨o, ho⟩ : ∃ o, o = os[k] := ⟨_, rfl⟩
  have hoo := HOK.out os[k] (List.getElem_mem hlt'.1)
  have hrk := hrg k hlt'.1
  rw [← ho] at hrk hoo
  have hcs : ∀ j v, (opV o)[j]? = some v → wr.cell? ⟨b, off + k * 5 + j, none⟩ = some v := fun j v hj => by
    rw [hPl.below.cell (p := ⟨b, off + k * 5 + j, none⟩) (lt_of_cell (hrk j v hj))]; exact hrk j v hj
  have hq0 : wr.cell? ⟨b, off + k * 5, none⟩ = some (.int .i64 o.kind) := hcs 0 _ rfl
  have hq1 := hcs 1 _ rfl
  have hq2 := hcs 2 _ rfl
  have hq3 := hcs 3 _ rfl
  have hq4 := hcs 4 _ rfl
  have HP := hid (hPl.op o)
  have HOO := hid hoo
  have hltL : (k : Int) < (os.length : Int) := by omega
  have hlt60 : (k : Int) < 60 := by omega
  obtain ⟨ak, ck, hkv, _⟩ := hoo.keep.2
  rw [hkv] at hq4
  have HKV := hid hkv
  obtain ⟨kd, hkd⟩ : ∃ kd, kd = o.kind := ⟨_, rfl⟩
  rw [← hkd] at hq0
  have HKD := hid hkd
  clear hPl hrg hrk hcs ho hoo hlt hkv hkd
  go_upto_region 13 with fail
  have e5 : (opV o).toArray = #[.int .i64 kd, .int .i64 o.i, .int .i64 o.n, .bool o.short, .slice ak o.keep.length ck] := by unfold opV; rw [HKV.out, HKD.out]
  obtain ⟨W0, hW0⟩ : ∃ W0, wr.alloc (.cells #[.int .i64 kd, .int .i64 o.i, .int .i64 o.n, .bool o.short, .slice ak o.keep.length ck] 44) = W0 := ⟨_, rfl⟩
  rw [e5, hW0] at HP
  change Code.wp _ _ _ _ (wr.alloc (.cells #[.int .i64 kd, .int .i64 o.i, .int .i64 o.n, .bool o.short, .slice ak o.keep.length ck] 44))
  rw [hW0]
  obtain ⟨Bo, hBo⟩ : ∃ Bo, wr.heap.size = Bo := ⟨_, rfl⟩
  rw [hBo] at HP ⊢
  clear hW0 hBo e5 hq0 hq1 hq2 hq3 hq4
  have hcell : ∀ (W : World) (d1 d2 : Dk), Pr w B R n Bo o d1 d2 W → W.cell? ⟨Bo, 0, none⟩ = some (.int .i64 kd) ∧ W.cell? ⟨Bo, 1, none⟩ = some (.int .i64 o.i) ∧ W.cell? ⟨Bo, 2, none⟩ = some (.int .i64 o.n) ∧ W.cell? ⟨Bo, 3, none⟩ = some (.bool o.short) ∧ W.cell? ⟨Bo, 4, none⟩ = some (.slice ak o.keep.length ck) := fun _ _ _ h => by
    rw [HKD.out, ← HKV.out]; exact h.cells
  have HCL := hid hcell
  obtain ⟨c0, c1, c2, c3, c4⟩ := hcell _ _ _ HP.out
  clear hcell HKD
  by_cases k2 : kd = 2
  · subst k2
    by_cases hdead : d.left = 0
    · have HF := hid (flush_dead HP.out.disk hdead)
      have HDE := hid hdead
      clear hdead
      go_wp2_with (first
        | (go_at_call 10; refine HF.out.mono ?_; rintro e w3 ⟨rfl, hb3⟩; have HP3 := hid (HP.out.fresh hb3); obtain ⟨f3, hr3⟩ := HP3.out.ref; have HRF := hid (rflush_dead hr3 HDE.out); have HSA := hid (HP3.out.same (by omega)); clear HF hb3 hr3)
        | (go_at_call 21; refine HRF.out.mono ?_; rintro e w4 ⟨rfl, h4⟩; have h4' := h4.symm; clear h4; subst h4')
        | (go_at_call 25; refine HSA.out.mono ?_; rintro e wz ⟨rfl, hpz⟩; have HPZ := hid hpz; clear HSA hpz))
      go_roundw
      case rel => exact ⟨k + 1, _, by omega, by omega, by go_num, HPZ.out.pl, by omega, by omega⟩
      case measure => simp [intOf]; omega
    · have HF := hid (flush_any HP.out.disk hdead (by omega))
      have HDE := hid hdead
      clear hdead
      go_wp2_with (first
        | (go_at_call 10; refine HF.out.mono ?_; rintro e w3 ⟨rfl, hd3, hk3⟩; have HP3 := hid (HP.out.kd hd3 hk3); obtain ⟨f3, hr3⟩ := HP3.out.ref; have HRF := hid (rflush_any hr3 HDE.out (by omega)); clear HF hd3 hk3 hr3)
        | (go_at_call 21; refine HRF.out.mono ?_; rintro e w4 ⟨rfl, hr4, hk4⟩; have HP4 := hid (HP3.out.kr hr4 hk4); have HSA := hid (HP4.out.same (by simp [Dk.flush])); clear HRF hr4 hk4)
        | (go_at_call 25; refine HSA.out.mono ?_; rintro e wz ⟨rfl, hpz⟩; have HPZ := hid hpz; clear HSA hpz))
      go_roundw
      case rel => exact ⟨k + 1, _, by omega, by omega, by go_num, HPZ.out.pl, by simp [Dk.flush], (show d.writes ≤ ((k + 1 : Nat) : Int) by omega)⟩
      case measure => simp [intOf]; omega
  by_cases k4 : kd = 4
  · subst k4
    have HF := hid (fuse_any HP.out.disk (k := o.n) HOO.out.n.1 HOO.out.n.2)
    have hfw : (d.fuse o.n).wait = d.wait := by unfold Dk.fuse; split <;> rfl
    have hfr : (d.fuse o.n).writes = d.writes := by unfold Dk.fuse; split <;> rfl
    have HFW := hid hfw
    have HFR := hid hfr
    clear hfw hfr
    go_wp2_with (first
      | (go_at_call 23; refine HF.out.mono ?_; rintro e w3 ⟨⟨v3, rfl⟩, hd3, hk3⟩; have HP3 := hid (HP.out.kd hd3 hk3); obtain ⟨f3, hr3⟩ := HP3.out.ref; have HRF := hid (rset_any hr3 (k := o.n) HOO.out.n.1 HOO.out.n.2); obtain ⟨c0, c1, c2, c3, c4⟩ := HCL.out _ _ _ HP3.out; clear HF hd3 hk3 hr3)
      | (go_at_call 24; refine HRF.out.mono ?_; rintro e w4 ⟨⟨v4, rfl⟩, hr4, hk4⟩; have HP4 := hid (HP3.out.kr ⟨_, hr4⟩ hk4); have HSA := hid (HP4.out.same (by rw [HFW.out]; omega)); clear HRF hr4 hk4)
      | (go_at_call 25; refine HSA.out.mono ?_; rintro e wz ⟨rfl, hpz⟩; have HPZ := hid hpz; clear HSA hpz))
    go_roundw
    case rel => exact ⟨k + 1, _, by omega, by omega, by go_num, HPZ.out.pl, by rw [HFW.out]; omega, by rw [HFR.out]; omega⟩
    case measure => simp [intOf]; omega
  by_cases k3 : kd = 3
  · subst k3
    have HI : Hid (Ints w (.slice ak o.keep.length ck) o.keep) := hid (by rw [← HKV.out]; exact HOO.out.keep)
    have HKL := hid HOO.out.len
    have HF := hid (crash_any HP.out.disk (by omega) (HI.out.fresh HP.out.below) HKL.out)
    go_wp2_with (first
      | (go_at_call 16; refine HF.out.mono ?_; rintro e w3 ⟨⟨v3, rfl⟩, hd3, hk3⟩; have HP3 := hid (HP.out.kd hd3 hk3); obtain ⟨f3, hr3⟩ := HP3.out.ref; have HRF := hid (rcrash_any hr3 (by omega) HI.out HP3.out.below HKL.out); obtain ⟨c0, c1, c2, c3, c4⟩ := HCL.out _ _ _ HP3.out; clear HF hd3 hk3 hr3)
      | (go_at_call 22; refine HRF.out.mono ?_; rintro e w4 ⟨⟨v4, rfl⟩, hr4, hk4⟩; have HP4 := hid (HP3.out.kr hr4 hk4); have HSA := hid (HP4.out.same (by simp [Dk.crash])); clear HRF hr4 hk4)
      | (go_at_call 25; refine HSA.out.mono ?_; rintro e wz ⟨rfl, hpz⟩; have HPZ := hid hpz; clear HSA hpz))
    go_roundw
    case rel => exact ⟨k + 1, _, by omega, by omega, by go_num, HPZ.out.pl, by simp [Dk.crash], (show d.writes ≤ ((k + 1 : Nat) : Int) by omega)⟩
    case measure => simp [intOf]; omega
  by_cases k5 : kd = 5
  · subst k5
    have HF := hid (copy_any HP.out.disk (by omega))
    go_wp2_with (first
      | (go_at_call 11; refine HF.out.mono ?_; rintro e w3 ⟨Bc, rfl, hd3, hb3⟩; have HD3 := hid hd3; have HB3 := hid hb3; clear HF hd3 hb3)
      | (go_at_call 9; refine (sector_any 99 w3).mono ?_; rintro e w4 ⟨g4, rfl, ho4, hb4⟩; have HB4 := hid (HB3.out.trans (hb4.mono HB3.out.size)); have HWT := hid (write_tot (HD3.out.below hb4) (sec_secL 99) (has_sec ho4) (by omega) (by omega)); clear HD3 HB3 ho4 hb4)
      | (go_at_call 8; refine HWT.out.mono ?_; rintro e w5 ⟨⟨v5, rfl⟩, d5, hd5, hw5, hk5⟩; have HB5 := hid (HB4.out.trans hk5.below); have hw6 : d5.wait.length ≤ 1000 := (by omega); have HFT := hid (flush_tot hd5 (by omega)); clear HWT HB4 hd5 hk5 hw5)
      | (go_at_call 10; refine HFT.out.mono ?_; rintro e w6 ⟨⟨v6, rfl⟩, d6, hd6, hw6, hk6⟩; have HB6 := hid (HB5.out.trans hk6.below); have HCR := hid (crash_any hd6 (by omega) (ints_nil w6) (by simp)); clear HFT HB5 hd6 hk6)
      | (go_at_call 16; refine HCR.out.mono ?_; rintro e w7 ⟨⟨v7, rfl⟩, hd7, hk7⟩; have HP7 := hid (HP.out.fresh (HB6.out.trans hk7.below)); have HSA := hid (HP7.out.same (by omega)); clear HCR HB6 hd7 hk7)
      | (go_at_call 25; refine HSA.out.mono ?_; rintro e wz ⟨rfl, hpz⟩; have HPZ := hid hpz; clear HSA hpz))
    go_roundw
    case rel => exact ⟨k + 1, _, by omega, by omega, by go_num, HPZ.out.pl, by omega, by omega⟩
    case measure => simp [intOf]; omega
  by_cases k1 : kd = 1
  · subst k1
    by_cases hin : ¬ (0 ≤ o.i ∧ o.i < n)
    · have HRD := hid (read_bad HP.out.disk hin)
      obtain ⟨f3, hr3⟩ := HP.out.ref
      have HRR := hid (rread_bad hr3 hin)
      have hcv := conv_nil W0
      unfold strV at HRR
      obtain ⟨E, hE⟩ : ∃ E, E = strOfNums [] := ⟨_, rfl⟩
      rw [← hE] at HRR hcv
      have HSA := hid (HP.out.same (by omega))
      clear hE hr3 hin
      go_wp2_with (first
        | (go_at_call 15; refine HRD.out.mono ?_; rintro e w4 ⟨rfl, h4⟩; have h4' := h4.symm; clear h4; subst h4')
        | (go_at_call 20; refine HRR.out.mono ?_; rintro e w4 ⟨rfl, h4⟩; have h4' := h4.symm; clear h4; subst h4')
        | (go_at_call 25; refine HSA.out.mono ?_; rintro e wz ⟨rfl, hpz⟩; have HPZ := hid hpz; clear HSA hpz))
      go_roundw
      case rel => exact ⟨k + 1, _, by omega, by omega, by go_num, HPZ.out.pl, by omega, by omega⟩
      case measure => simp [intOf]; omega
    have hin' : 0 ≤ o.i ∧ o.i < n := by omega
    clear hin
    obtain ⟨q, hq⟩ : ∃ q : Nat, o.i = (q : Int) := ⟨o.i.toNat, by omega⟩
    have hqn : q < n := by omega
    by_cases hdead : d.left = 0
    · have HRD := hid (read_dead HP.out.disk (i := o.i) hin' hdead)
      obtain ⟨f3, hr3⟩ := HP.out.ref
      have HRR := hid (rread_dead hr3 (i := q) hqn hdead)
      rw [← hq] at HRR
      have hcv := conv_nil W0
      unfold strV at HRR
      obtain ⟨E, hE⟩ : ∃ E, E = strOfNums [] := ⟨_, rfl⟩
      rw [← hE] at HRR hcv
      have HSA := hid (HP.out.same (by omega))
      clear hE hr3 hq hin' hdead
      go_wp2_with (first
        | (go_at_call 15; refine HRD.out.mono ?_; rintro e w4 ⟨rfl, h4⟩; have h4' := h4.symm; clear h4; subst h4')
        | (go_at_call 20; refine HRR.out.mono ?_; rintro e w4 ⟨rfl, h4⟩; have h4' := h4.symm; clear h4; subst h4')
        | (go_at_call 25; refine HSA.out.mono ?_; rintro e wz ⟨rfl, hpz⟩; have HPZ := hid hpz; clear HSA hpz))
      go_roundw
      case rel => exact ⟨k + 1, _, by omega, by omega, by go_num, HPZ.out.pl, by omega, by omega⟩
      case measure => simp [intOf]; omega
    · have HRD := hid (read_any HP.out.disk (i := q) hqn hdead)
      rw [← hq] at HRD
      have HDE := hid hdead
      have HQ := hid hq
      obtain ⟨S, hS⟩ : ∃ S, S = strOfNums (d.now.getD q []) := ⟨_, rfl⟩
      have HSS := hid hS
      clear hS hq hin' hdead
      go_wp2_with (first
        | (go_at_call 15; refine HRD.out.mono ?_; rintro e w3 ⟨v3, rfl, ho3, hb3⟩; obtain ⟨g3, cap3, rfl⟩ := own_slice ho3; have HP3 := hid (HP.out.fresh hb3); obtain ⟨f3, hr3⟩ := HP3.out.ref; have HRR := hid (rread_any hr3 (i := q) hqn HDE.out (by omega)); unfold strV at HRR; rw [← HSS.out, ← HQ.out] at HRR; have hcv := (has_sec ho3).conv; rw [← HSS.out] at hcv; have HSA := hid (fun u => HP3.out.poke (by omega) ho3 HP.out.below.size u); obtain ⟨hby, hfz, _, _⟩ := byte_at ho3; obtain ⟨c0, c1, c2, c3, c4⟩ := HCL.out _ _ _ HP3.out; clear HRD ho3 hb3 hr3)
        | (go_at_call 20; refine HRR.out.mono ?_; rintro e w4 ⟨rfl, h4⟩; have h4' := h4.symm; clear h4; subst h4')
        | (go_at_call 25; refine (HSA.out _).mono ?_; rintro e wz ⟨rfl, hpz⟩; have HPZ := hid hpz; clear HSA hpz))
      go_roundw
      case rel => exact ⟨k + 1, _, by omega, by omega, by go_num, HPZ.out.pl, by omega, by omega⟩
      case measure => simp [intOf]; omega
  by_cases k0 : ¬ kd = 0
  · have n0 : (kd == 0) = false := by simpa using k0
    have n1 : (kd == 1) = false := by simpa using k1
    have n2 : (kd == 2) = false := by simpa using k2
    have n3 : (kd == 3) = false := by simpa using k3
    have n4 : (kd == 4) = false := by simpa using k4
    have n5 : (kd == 5) = false := by simpa using k5
    have HSA := hid (HP.out.same (by omega))
    clear k0 k1 k2 k3 k4 k5
    go_wp2_with (first
      | (go_at_call 25; refine HSA.out.mono ?_; rintro e wz ⟨rfl, hpz⟩; have HPZ := hid hpz; clear HSA hpz))
    go_roundw
    case rel => exact ⟨k + 1, _, by omega, by omega, by go_num, HPZ.out.pl, by omega, by omega⟩
    case measure => simp [intOf]; omega
  obtain rfl : kd = 0 := by omega
  clear k0 k1 k2 k3 k4 k5
  obtain ⟨sh, hsh⟩ : ∃ sh, sh = o.short := ⟨_, rfl⟩
  rw [← hsh] at c3 HCL
  clear hsh
  by_cases hs : sh = true
  · subst hs
    go_upto_region 18 with (go_at_call 9; refine (sector_any o.n W0).mono ?_; rintro e w3 ⟨g3, rfl, ho3, hb3⟩; have HP3 := hid ((HP.out.fresh hb3).drew); have HO3 := hid (own_below ho3 (Below.refl _ w3).drew); obtain ⟨c0, c1, c2, c3, c4⟩ := HCL.out _ _ _ (HP.out.fresh hb3); obtain ⟨b0, b1, b2, b3, b4⟩ := HCL.out _ _ _ HP3.out; clear ho3 hb3)
    have HWB := hid (write_bad HP3.out.disk (i := o.i) (ao := some ⟨g3, 0, none⟩) (len := 63) (cap := 64) (.inr (by omega)))
    have hcv := (has_cut HO3.out).conv
    obtain ⟨f3, hr3⟩ := HP3.out.ref
    have HRB := hid (rwrite_bad hr3 (i := o.i) (zs := (secL o.n).take 63) (.inr (by rw [List.length_take, (sec_secL o.n).1]; decide)) (by rw [List.length_take, (sec_secL o.n).1]; decide))
    unfold strV at HRB
    obtain ⟨E, hE⟩ : ∃ E, E = strOfNums ((secL o.n).take 63) := ⟨_, rfl⟩
    rw [← hE] at hcv HRB
    have HSA := hid (fun u => HP3.out.poke (by omega) HO3.out HP.out.below.size u)
    obtain ⟨hby, hfz, _, _⟩ := byte_at HO3.out
    clear hE hr3
    first | (go_region_held (fun w' => w'.cell? ⟨Bo, 1, none⟩ = some (.int .i64 o.i)) (exact b1) (first
      | (go_at_call 8; refine HWB.out.mono ?_; rintro e w4 ⟨rfl, h4⟩; have h4' := h4; clear h4; subst h4')
      | (go_at_call 19; refine HRB.out.mono ?_; rintro e w4 ⟨rfl, h4⟩; have h4' := h4; clear h4; subst h4'))) | fail
    all_goals
      go_wp2_with (go_at_call 25; refine (HSA.out _).mono ?_; rintro e wz ⟨rfl, hpz⟩; have HPZ := hid hpz; clear HSA hpz)
      go_roundw
      case rel => exact ⟨k + 1, _, by omega, by omega, by go_num, HPZ.out.pl, by omega, by omega⟩
      case measure => simp [intOf]; omega
  · obtain rfl : sh = false := by simpa using hs
    by_cases hin : ¬ (0 ≤ o.i ∧ o.i < n)
    · have HIN := hid hin
      clear hin
      go_upto_region 18 with (go_at_call 9; refine (sector_any o.n W0).mono ?_; rintro e w3 ⟨g3, rfl, ho3, hb3⟩; have HP3 := hid ((HP.out.fresh hb3).drew); have HO3 := hid (own_below ho3 (Below.refl _ w3).drew); obtain ⟨c0, c1, c2, c3, c4⟩ := HCL.out _ _ _ (HP.out.fresh hb3); obtain ⟨b0, b1, b2, b3, b4⟩ := HCL.out _ _ _ HP3.out; clear ho3 hb3)
      have HWB := hid (write_bad HP3.out.disk (i := o.i) (ao := some ⟨g3, 0, none⟩) (len := 64) (cap := 64) (.inl HIN.out))
      have hcv := (has_sec HO3.out).conv
      obtain ⟨f3, hr3⟩ := HP3.out.ref
      have HRB := hid (rwrite_bad hr3 (i := o.i) (zs := secL o.n) (.inl HIN.out) (by rw [(sec_secL o.n).1]; decide))
      unfold strV at HRB
      obtain ⟨E, hE⟩ : ∃ E, E = strOfNums (secL o.n) := ⟨_, rfl⟩
      rw [← hE] at hcv HRB
      have HSA := hid (fun u => HP3.out.poke (by omega) HO3.out HP.out.below.size u)
      obtain ⟨hby, hfz, _, _⟩ := byte_at HO3.out
      clear hE hr3 
      first | (go_region_held (fun w' => w'.cell? ⟨Bo, 1, none⟩ = some (.int .i64 o.i)) (exact b1) (first
        | (go_at_call 8; refine HWB.out.mono ?_; rintro e w4 ⟨rfl, h4⟩; have h4' := h4; clear h4; subst h4')
        | (go_at_call 19; refine HRB.out.mono ?_; rintro e w4 ⟨rfl, h4⟩; have h4' := h4; clear h4; subst h4'))) | fail
      all_goals
        go_wp2_with (go_at_call 25; refine (HSA.out _).mono ?_; rintro e wz ⟨rfl, hpz⟩; have HPZ := hid hpz; clear HSA hpz)
        go_roundw
        case rel => exact ⟨k + 1, _, by omega, by omega, by go_num, HPZ.out.pl, by omega, by omega⟩
        case measure => simp [intOf]; omega
    have hin' : 0 ≤ o.i ∧ o.i < n := by omega
    clear hin
    obtain ⟨q, hq⟩ : ∃ q : Nat, o.i = (q : Int) := ⟨o.i.toNat, by omega⟩
    have hqn : q < n := by omega
    have HIN := hid hin'
    have HQ := hid hq
    clear hin' hq
    by_cases hdead : d.left = 0
    · have HDE := hid hdead
      clear hdead
      go_upto_region 18 with (go_at_call 9; refine (sector_any o.n W0).mono ?_; rintro e w3 ⟨g3, rfl, ho3, hb3⟩; have HP3 := hid ((HP.out.fresh hb3).drew); have HO3 := hid (own_below ho3 (Below.refl _ w3).drew); obtain ⟨c0, c1, c2, c3, c4⟩ := HCL.out _ _ _ (HP.out.fresh hb3); obtain ⟨b0, b1, b2, b3, b4⟩ := HCL.out _ _ _ HP3.out; clear ho3 hb3)
      have HWB := hid (write_dead HP3.out.disk (i := o.i) HIN.out HDE.out (ao := some ⟨g3, 0, none⟩) (cap := 64))
      have hcv := (has_sec HO3.out).conv
      obtain ⟨f3, hr3⟩ := HP3.out.ref
      have HRB := hid (rwrite_dead hr3 (i := q) hqn (zs := secL o.n) (sec_secL o.n).1 HDE.out)
      unfold strV at HRB
      obtain ⟨E, hE⟩ : ∃ E, E = strOfNums (secL o.n) := ⟨_, rfl⟩
      rw [← hE] at hcv HRB
      rw [← HQ.out] at HRB
      have HSA := hid (fun u => HP3.out.poke (by omega) HO3.out HP.out.below.size u)
      obtain ⟨hby, hfz, _, _⟩ := byte_at HO3.out
      clear hE hr3
      first | (go_region_held (fun w' => w'.cell? ⟨Bo, 1, none⟩ = some (.int .i64 o.i)) (exact b1) (first
        | (go_at_call 8; refine HWB.out.mono ?_; rintro e w4 ⟨rfl, h4⟩; have h4' := h4; clear h4; subst h4')
        | (go_at_call 19; refine HRB.out.mono ?_; rintro e w4 ⟨rfl, h4⟩; have h4' := h4; clear h4; subst h4'))) | fail
      all_goals
        go_wp2_with (go_at_call 25; refine (HSA.out _).mono ?_; rintro e wz ⟨rfl, hpz⟩; have HPZ := hid hpz; clear HSA hpz)
        go_roundw
        case rel => exact ⟨k + 1, _, by omega, by omega, by go_num, HPZ.out.pl, by omega, by omega⟩
        case measure => simp [intOf]; omega
    · have HDE := hid hdead
      clear hdead
      go_upto_region 18 with (go_at_call 9; refine (sector_any o.n W0).mono ?_; rintro e w3 ⟨g3, rfl, ho3, hb3⟩; have HP3 := hid ((HP.out.fresh hb3).drew); have HO3 := hid (own_below ho3 (Below.refl _ w3).drew); obtain ⟨c0, c1, c2, c3, c4⟩ := HCL.out _ _ _ (HP.out.fresh hb3); obtain ⟨b0, b1, b2, b3, b4⟩ := HCL.out _ _ _ HP3.out; clear ho3 hb3)
      have HWA := hid (write_any HP3.out.disk (i := q) hqn HDE.out (sec_secL o.n) (has_sec HO3.out) (by omega) (by omega))
      rw [← HQ.out] at HWA
      have hcv := (has_sec HO3.out).conv
      obtain ⟨E, hE⟩ : ∃ E, E = strOfNums (secL o.n) := ⟨_, rfl⟩
      rw [← hE] at hcv
      have HEE := hid hE
      clear hE
      first | (go_region_held (fun w' => w'.cell? ⟨Bo, 1, none⟩ = some (.int .i64 o.i)) (first | exact b1 | exact d1 | exact e1) (first
        | (go_at_call 8; refine HWA.out.mono ?_; rintro e w4 ⟨rfl, hd4, hk4⟩; have HP4 := hid (HP3.out.kd hd4 hk4); have HO4 := hid (own_kd HO3.out hk4); have hcv4 := (has_sec HO4.out).conv; rw [← HEE.out] at hcv4; obtain ⟨d0, d1, d2, d3, d4⟩ := HCL.out _ _ _ HP4.out; obtain ⟨f4, hr4⟩ := HP4.out.ref; have HRA := hid (rwrite_any hr4 (i := q) hqn HDE.out (sec_secL o.n) (by omega) (by omega)); unfold strV at HRA; rw [← HEE.out, ← HQ.out] at HRA; clear HWA hd4 hk4 hr4)
        | (go_at_call 19; refine HRA.out.mono ?_; rintro e w5 ⟨rfl, hr5, hk5⟩; have HP5 := hid (HP4.out.kr hr5 hk5); have HO5 := hid (own_kr HO4.out hk5); obtain ⟨e0, e1, e2, e3, e4⟩ := HCL.out _ _ _ HP5.out; obtain ⟨hby, hfz, _, _⟩ := byte_at HO5.out; have HSA := hid (fun u => HP5.out.poke (by simp [Dk.write]; omega) HO5.out HP.out.below.size u); clear HRA hr5 hk5))) | fail
      all_goals
        go_wp2_with (go_at_call 25; refine (HSA.out _).mono ?_; rintro e wz ⟨rfl, hpz⟩; have HPZ := hid hpz; clear HSA hpz)
        go_roundw
        case rel => exact ⟨k + 1, _, by omega, by omega, by go_num, HPZ.out.pl, by simp [Dk.write]; omega, (show d.writes + 1 ≤ ((k + 1 : Nat) : Int) by omega)⟩
        case measure => simp [intOf]; omega
end Go.Proofs.Ytindjkgkdldooaa
