/-
  Layer 3: what terrierlaw3.awake gives: true.
-/
import Derived.Test.YtafopokcfkgjiaaDoorGIs
namespace Go.Proofs.YtafopokcfkgjiaaDoor
open Go.RowKit

theorem new_st {n p0 np : Nat} (h : p0 + np * 8 + 80 ≤ n) (hm : np ≤ 4096) : FSt (Dk.new n).now p0 np (fun _ => none) := FSt.fresh h hm
/-- What a Write of one page leaves. -/
theorem wrote {d : Dk} {p0 np n : Nat} {c : Nat → Option Pg} (h : FSt d.now p0 np c) (hok : d.Ok n) (hl : d.left = -1) {ps : List Pg} (ht : takes np ps) (hne : ps ≠ []) :
    ∃ d1, writeP p0 np d ps = (d1, 0) ∧ d1.left = -1 ∧ d1.wait = [] ∧ d1.last = d1.now ∧ d1.writes ≤ d.writes + 200 ∧ (d1.Ok n → FSt d1.now p0 np (upd c ps)) ∧ (∀ j, j < p0 ∨ p0 + np * 8 + 80 ≤ j → d1.now.getD j [] = d.now.getD j []) := by
  obtain ⟨e, h1, h2, h3, h4, h5, h6⟩ := h.write hok hl ht hne
  exact ⟨_, Prod.ext rfl e, h1, h2, h3, h4, h5, h6⟩

set_option maxRecDepth 8000 in
set_option maxHeartbeats 1600000 in
theorem pawake_any (w : World) (ht : TabOk w) :
    Calls Tryd.prog 12 #[] w fun e w' => e = .returned (.bool true) ∧ Below w.heap.size w w' := by
  have hg := ht.lt
  have HT := hid ht
  have HN2 := hid (fun wx => need_any 2 wx (by omega))
  have hmx : (8 * max (2 : Int) 1 + 80) = 96 := by decide
  rw [hmx] at HN2
  have HNW := hid (new_any 96 w (by omega))
  obtain ⟨d1, hw1, hl1, hwt1, hls1, hwr1, hst1, _⟩ := wrote (new_st (n := 96) (p0 := 0) (np := 2) (by omega) (by omega)) (Dk.ok_new 96) rfl (takes_one (no := 1) (m := 5) (np := 2) (by omega) (by omega)) (by simp)
  have HW1 := hid hw1
  have HST1 := hid hst1
  have hl1' : d1.left ≠ 0 := by omega
  clear ht hmx hw1 hst1 hwt1 hls1 hwr1 hl1
  obtain ⟨S, hS⟩ : ∃ S, S = strOfNums (dataL 5) := ⟨_, rfl⟩
  have HS := hid hS
  clear hS
  go_enter Tryd.func12, Tryd.ntmps12
  go_wp2_with (first
    | (go_at_call 5; refine (HN2.out _).mono ?_; rintro e w0 ⟨rfl, hw⟩; have hw' := hw.symm; clear hw; subst hw')
    | (go_at_call 4; refine HNW.out.mono ?_; rintro e w1 ⟨B, rfl, hd1, hb1⟩; have HO := hid (open_good (p0 := 0) (np := 2) hd1 rfl (HT.out.below hb1 (Nat.le_refl _)) hg (by omega) (by omega) (by omega) (new_st (by omega) (by omega)).noted.1 (by rw [(new_st (n := 96) (p0 := 0) (np := 2) (by omega) (by omega)).redo]; exact fun no hno => ((new_st (by omega) (by omega)).fetch hno).1) (by decide) (by decide)); rw [(new_st (n := 96) (p0 := 0) (np := 2) (by omega) (by omega)).redo] at HO; have HB1 := hid hb1; clear hd1 hb1 HNW)
    | (go_at_call 13; refine HO.out.mono ?_; rintro e w2 ⟨F, rfl, hFs, hd2, hf2, hk2⟩; have HD2 := hid hd2; have HF2 := hid hf2; have HB2 := hid (HB1.out.trans hk2.below); have HOF := hid (of_any 1 5 w2 (by omega)); clear hd2 hf2 hk2 HO hFs)
    | (go_at_call 8; refine HOF.out.mono ?_; rintro e w3 ⟨a3, c3, rfl, hown3, hb3⟩; obtain ⟨wL, hwL⟩ : ∃ wL, w3.alloc (.cells #[.int .i64 1, .int .u64 5, .slice a3 480 c3] 33) = wL := ⟨_, rfl⟩; have hbL : Below w3.heap.size w3 wL := (by rw [← hwL]; exact (Below.refl _ _).alloc (Nat.le_refl _) _); have hpgL : Pgs wL (.slice (some ⟨w3.heap.size, 0, none⟩) 1 1) [pgOf 1 5] := (by rw [← hwL]; exact pgs_one (own_mono hown3 (Nat.zero_le _))); have HBL := hid (HB2.out.trans ((hb3.mono HB2.out.size).trans (hbL.mono (Nat.le_trans HB2.out.size hb3.size)))); have HWR := hid (pwrite_any ((HD2.out.below hb3).below hbL) ((HF2.out.below hb3).below hbL) (tab_kd HT.out hg HBL.out) hg (by omega) (by omega) hpgL (takes_one (by omega) (by omega)) (by simp) (by decide) (by decide)); rw [HW1.out] at HWR; clear hown3 hb3 hbL hpgL HOF)
    | (go_at_call 7; refine HWR.out.mono ?_; rintro e w4 ⟨rfl, hd4, ⟨half, hf4, hh4⟩, hk4⟩; obtain rfl := hh4 (by simp); have HB4 := hid (HBL.out.trans hk4.below); have hst4 := HST1.out hd4.ok; have HRD := hid (pread_any hd4 hf4 hl1' (tab_kd HT.out hg HB4.out) (by omega) (no := 1) (by omega) (hst4.fetch (by omega)).1); rw [(hst4.fetch (no := 1) (by omega)).2, show told (upd (fun _ => none) [pgOf 1 5]) 1 = pgOf 1 5 from rfl, show (pgOf 1 5).no = 1 from rfl, show (pgOf 1 5).lsn = 5 from rfl, show (pgOf 1 5).data = dataL 5 from rfl] at HRD; clear hd4 hf4 hk4 hh4 HWR hst4)
    | (go_at_call 25; refine HRD.out.mono ?_; rintro e w5 ⟨s5, rfl, hown5, hb5⟩; obtain ⟨a5, c5, rfl, _⟩ := own_any hown5; have HO5 := hid hown5; have HB5 := hid (HB4.out.trans (hb5.mono HB4.out.size)); clear hown5 hb5 HRD))
  obtain ⟨wB, hwB⟩ : ∃ wB, w5.alloc (.cells #[.int .i64 1, .int .u64 5, .slice a5 480 c5] 33) = wB := ⟨_, rfl⟩
  have hbB : Below w5.heap.size w5 wB := by rw [← hwB]; exact (Below.refl _ _).alloc (Nat.le_refl _) _
  have hbox : wB.heap[w5.heap.size]? = some (.cells #[.int .i64 1, .int .u64 5, .slice a5 480 c5] 33 (0, 0)) := by rw [← hwB]; exact heap_new w5 _
  rw [hwB]
  have HC := hid (fun wx (hb : Below wB.heap.size wB wx) => And.intro (cell_of_row wx w5.heap.size 1 _ _ _ ((hb.block _ (lt_of_heap hbox)).trans hbox)) (And.intro (cell_of_row wx w5.heap.size 2 _ _ _ ((hb.block _ (lt_of_heap hbox)).trans hbox)) (HS.out ▸ Bs.conv' (own_below (own_below HO5.out hbB) hb) (dataL_by 5))))
  have HDA := hid (data_any 5 wB.drew (by omega))
  have HBB := hid (HB5.out.trans (hbB.mono HB5.out.size))
  clear hwB hbB hbox
  go_region_held (fun w' => w'.cell? ⟨w5.heap.size, 1, none⟩ = some (.int .u64 5) ∧ w'.cell? ⟨w5.heap.size, 2, none⟩ = some (.slice a5 480 c5) ∧ (convert 31 9 (.slice a5 480 c5)).run Tryd.prog w' = .ok (.string S) w') (first | exact HC.out _ (Below.refl _ wB).drew | exact HC.out _ HBC.out) (first
    | (go_at_call 22; refine HDA.out.mono ?_; rintro e w6 ⟨g6, rfl, hown6, hb6⟩; have HBC := hid ((Below.refl _ wB).drew.trans hb6); have hcv6 := HS.out ▸ Bs.conv' hown6 (dataL_by 5); have HB6 := hid (HBB.out.trans (HBC.out.mono HBB.out.size)); clear hown6 hb6)
    | (go_at_call 5; refine (HN2.out _).mono ?_; rintro e w0 ⟨rfl, hw⟩; have hw' := hw.symm; clear hw; subst hw'))
  all_goals
    go_wp2
    go_ret
    exact ⟨rfl, HB6.out⟩
end Go.Proofs.YtafopokcfkgjiaaDoor
