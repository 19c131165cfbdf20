/-
  Layer 5: what terrierlaw5.awake gives: true.
-/
import Derived.Test.YtkbnjniglngjgaaGreatDoorPoAwake
namespace Go.Proofs.YtkbnjniglngjgaaGreatDoor
open Go.RowKit

theorem conv_data {w : World} {base : Nat} {v : Value} {m : Nat} (h : w.ownsRow base 5 1 v 480 (secV (dataL m))) : (convert 38 9 v).run Tryz.prog w = .ok (.string (strOfNums (dataL m))) w := (bs_own h (dataL_by m) (by rw [dataL_len]; omega)).conv
set_option maxRecDepth 8000 in
set_option maxHeartbeats 3200000 in
theorem poawake_any (w : World) (ht : TabOk w) :
    Calls Tryz.prog 9 #[] w fun e w' => e = .returned (.bool true) ∧ Below w.heap.size w w' := by
  have hg := ht.lt
  have HM : Hid (Calls Tryz.prog 4 #[.int .i64 2] w fun e w' => ∃ O F L P g B, e = .returned (.pointer (some ⟨O, 0, none⟩)) ∧ OwI w' O F L P ∧ PW w' w.heap.size P F L g 1 B 224 0 8 144 80 (Dk.new 224).flush Lg.fresh Fr.none ∧ w.heap.size ≤ g ∧ Below w.heap.size w w') := made_any w ht 1 (by omega)
  have hsame := conv_same
  have hmx : Tryz.prog.follows .mixedOrders = true := by kernel_rfl
  obtain ⟨S, hS⟩ : ∃ S, S = strOfNums (dataL 9) := ⟨_, rfl⟩
  have HS := hid hS
  clear ht hS
  go_enter Tryz.func9, Tryz.ntmps9
  go_upto_region 5 with (first
    | (go_at_call 4; refine HM.out.mono ?_; rintro e w1 ⟨O, F, L, P, g, B, rfl, hO1, hp1, hg1, hb1⟩; obtain ⟨c1, c2, c3⟩ := hO1.cells; have HA := hid (awake_append hO1 hp1 hg); have HB1 := hid hb1; have HG := hid hg1; clear HM hO1 hp1 hg1 hb1)
    | (go_at_call 21; refine HA.out.mono ?_; rintro e w2 ⟨rfl, hO2, hp2, hb2⟩; have HO2 := hid hO2; have HP2 := hid hp2; have HB2 := hid (HB1.out.trans hb2); clear HA hO2 hp2 hb2 c1 c2 c3))
  have HC2 := hid (fun wx (hb : Below w2.heap.size w2 wx) => (HO2.out.below hb).cells.2.2)
  have S1 := HC2.out _ (Below.refl _ w2).drew
  have HDA := hid (data_any 9 w2.drew (by omega))
  go_cut [4] from 21 to 28 (fun v wx => v = .int .i64 0 ∧ OwI wx O F L P ∧ (∃ s' s2, wx.ownsRow 0 5 1 s' 480 (secV (dataL 9)) ∧ (∃ x y z, s2 = .slice x y z) ∧ PW wx w.heap.size P F L g 1 B 224 0 8 144 80 (Dk.new 224).flush g1 ⟨true, true, 3, 1, s', 3, 0, s2⟩) ∧ Below w.heap.size w wx)
  case first =>
    go_region_held (fun w' => w'.cell? ⟨O, 3, none⟩ = some (.pointer (some ⟨P, 0, none⟩))) (first | exact S1 | exact S3 | exact S4) (first
      | (go_at_call 22; refine HDA.out.mono ?_; rintro e w3 ⟨q3, rfl, hown3, hb3⟩; have hb3' : Below w2.heap.size w2 w3 := (Below.refl _ w2).drew.trans hb3; have S3 := HC2.out _ hb3'; have HPU := hid (awake_put (HO2.out.below hb3') (HP2.out.below hb3') HG.out (own_mono hown3 (Nat.zero_le _))); have HB3 := hid (HB2.out.trans (hb3'.mono HB2.out.size)); clear hown3 hb3 hb3' HDA)
      | (go_at_call 6; refine HPU.out.mono ?_; rintro e w4 ⟨rfl, hO4, hx4, hb4⟩; have S4 := hO4.cells.2.2; have HX4 := hid (And.intro hO4 (And.intro hx4 (HB3.out.trans hb4))); clear hO4 hx4 hb4 HPU))
    all_goals
      go_wp2
      go_meet
      exact ⟨rfl, HX4.out⟩
  case rest =>
    obtain ⟨rfl, hO4, ⟨s4, t4, ho4, ht4, hp4⟩, hb4⟩ := hcut
    have HE := hid (awake_evict hO4 hp4 HG.out hg ho4 ht4)
    obtain ⟨c1, c2, c3⟩ := hO4.cells
    have HB4 := hid hb4
    clear hO4 ho4 ht4 hp4 hb4 S1 HC2 HDA HO2 HP2 HB2 HB1
    go_upto_region 8 with (first
      | (go_at_call 8; refine HE.out.mono ?_; rintro e w5 ⟨rfl, hO5, hp5, hb5, hok⟩; obtain ⟨k1, k2, k3⟩ := hO5.cells; have HGE := hid (awake_get hO5 hp5 HG.out hok); have HB5 := hid (HB4.out.trans hb5); clear HE hO5 hp5 hb5 hok c1 c2 c3)
      | (go_at_call 7; refine HGE.out.mono ?_; rintro e w6 ⟨s6, t6, rfl, ho6, hs6, hO6, hp6, hb6⟩; obtain ⟨a6, c6, rfl, _⟩ := own_any ho6; have HO6 := hid hO6; have HP6 := hid hp6; have HT6 := hid ho6; have HS6 := hid hs6; have HB6 := hid (HB5.out.trans hb6); clear HGE ho6 hs6 hO6 hp6 hb6 k1 k2 k3))
    obtain ⟨wB, hwB⟩ : ∃ wB, w6.alloc (.cells #[.int .i64 3, .int .u64 1, .slice a6 480 c6] 40) = wB := ⟨_, rfl⟩
    have hbB : Below w6.heap.size w6 wB := by rw [← hwB]; exact (Below.refl _ _).alloc (Nat.le_refl _) _
    have hbox : wB.heap[w6.heap.size]? = some (.cells #[.int .i64 3, .int .u64 1, .slice a6 480 c6] 40 (0, 0)) := by rw [← hwB]; exact heap_new w6 _
    rw [hwB]
    have HC := hid (fun wx (hb : Below wB.heap.size wB wx) => And.intro (box_cells ((hb.block _ (lt_of_heap hbox)).trans hbox)).1 (And.intro (box_cells ((hb.block _ (lt_of_heap hbox)).trans hbox)).2.1 (And.intro (box_cells ((hb.block _ (lt_of_heap hbox)).trans hbox)).2.2.1 (And.intro ((HO6.out.below hbB).below hb).cells.2.2 (HS.out ▸ conv_data (own_bl (own_bl HT6.out hbB) hb))))))
    have HDA := hid (data_any 9 wB.drew (by omega))
    have HBB := hid (HB6.out.trans (hbB.mono HB6.out.size))
    have HDI := hid (fun wx (hb : Below wB.heap.size wB wx) => dirty_none ((HP6.out.below hbB).below hb) rfl rfl (bs_own (own_bl (own_bl HS6.out hbB) hb) (dataL_by 9) (by rw [dataL_len]; omega)) (bs_own (own_bl (own_bl HS6.out hbB) hb) (dataL_by 9) (by rw [dataL_len]; omega)))
    have S1 := HC.out _ (Below.refl _ wB).drew
    clear hwB hbB hbox
    go_region_held (fun w' => w'.cell? ⟨w6.heap.size, 0, none⟩ = some (.int .i64 3) ∧ w'.cell? ⟨w6.heap.size, 1, none⟩ = some (.int .u64 1) ∧ w'.cell? ⟨w6.heap.size, 2, none⟩ = some (.slice a6 480 c6) ∧ w'.cell? ⟨O, 3, none⟩ = some (.pointer (some ⟨P, 0, none⟩)) ∧ (convert 38 9 (.slice a6 480 c6)).run Tryz.prog w' = .ok (.string S) w') (first | exact S1 | exact S7 | exact S8) (first
      | (go_at_call 22; refine HDA.out.mono ?_; rintro e w7 ⟨q7, rfl, hown7, hb7⟩; have HB7 := hid (show Below wB.heap.size wB w7 from (Below.refl _ wB).drew.trans hb7); have S7 := HC.out _ HB7.out; have hcv7 := HS.out ▸ conv_data hown7; have HD7 := hid (HDI.out w7 HB7.out); clear hown7 hb7 HDA)
      | (go_at_call 23; refine HD7.out.mono ?_; rintro e w8 ⟨rfl, q8, hw8⟩; have HB8 : Hid (Below wB.heap.size wB w8) := (by rw [hw8]; exact below_drewN HB7.out q8); have S8 := HC.out _ HB8.out; clear hw8 HD7))
    all_goals
      go_wp2
      go_ret
      exact ⟨rfl, HBB.out.trans (HB8.out.mono HBB.out.size)⟩
end Go.Proofs.YtkbnjniglngjgaaGreatDoor
