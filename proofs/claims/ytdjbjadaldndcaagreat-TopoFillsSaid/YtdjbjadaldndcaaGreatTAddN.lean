/-
  Layer 17: topo's AddNode to a plan without edges, behind all others.
-/
import Derived.Deep.CutRange
import Derived.Test.YtdjbjadaldndcaaGreatTAddW
import Derived.Test.YtdjbjadaldndcaaGreatMB
namespace Go.Proofs.YtdjbjadaldndcaaGreat
open Go.RowKit Go.Shelf Go.Sort Go.Maps

theorem nr_box {W : World} {b : Nat} {n : NR} (h : W.heap[b]? = some (nrO n)) : (W.cell? ⟨b, 0, none⟩ = some (.int .i64 n.id) ∧ W.cell? ⟨b, 1, none⟩ = some (.int .i64 n.x) ∧ W.cell? ⟨b, 2, none⟩ = some (.int .i64 n.y) ∧ W.cell? ⟨b, 3, none⟩ = some (.int .i64 n.fc)) ∧ ∀ j, W.frozen? ⟨b, j, none⟩ = false := by
  refine ⟨⟨?_, ?_, ?_, ?_⟩, fun j => ?_⟩ <;> simp [World.cell?, World.frozen?, h]

set_option maxRecDepth 100000 in
set_option maxHeartbeats 6400000 in
theorem addNode_bare {w : World} {nb noff nl nc ec : Nat} {no : Option Addr} {ns : List NR} (hd : NdE w nb noff nl no ns) (h0 : nl = 0 → no = none) (hi : ∀ x ∈ ns, -1000000 ≤ x.id ∧ x.id ≤ 1000000) (hr : RiseN ns) {qx qy : Int} (hq : okP qx qy = true) (ht : ns.any (atN qx qy) = false) (hl : nl < 200) (hu : ∀ y ∈ ns, y.id ≤ unL (ns.map (·.id))) :
    Calls Tryz.prog 15 #[plV (.slice no nl nc) (.slice none 0 ec), pv qx qy] w fun e w' => (∃ v, e = .returned (.tuple #[plV v (.slice none 0 0), .int .i64 (unL (ns.map (·.id))), .int .i64 0]) ∧ NdRow w' w.heap.size v (ns ++ [⟨unL (ns.map (·.id)), qx, qy, 0⟩])) ∧ Below w.heap.size w w' := by
  obtain ⟨wP, hwP⟩ : ∃ wP, w.alloc (.cells #[.slice no nl nc, .slice none 0 ec] 25) = wP := ⟨_, rfl⟩
  have hbP : Below w.heap.size w wP := by rw [← hwP]; exact (Below.refl _ w).alloc (Nat.le_refl _) _
  have hhP : wP.heap[w.heap.size]? = some (.cells #[.slice no nl nc, .slice none 0 ec] 25 (0, 0)) := by rw [← hwP]; exact World.alloc_heap_new w _
  obtain ⟨wQ, hwQ⟩ : ∃ wQ, wP.alloc (.cells #[.int .i64 qx, .int .i64 qy] 27) = wQ := ⟨_, rfl⟩
  have hbQ : Below wP.heap.size wP wQ := by rw [← hwQ]; exact (Below.refl _ wP).alloc (Nat.le_refl _) _
  have hhQ : wQ.heap[wP.heap.size]? = some (.cells #[.int .i64 qx, .int .i64 qy] 27 (0, 0)) := by rw [← hwQ]; exact World.alloc_heap_new wP _
  obtain ⟨wR, hwR⟩ : ∃ wR, wQ.alloc (.cells #[.slice none 0 0, .slice none 0 0] 25) = wR := ⟨_, rfl⟩
  have hbR : Below wQ.heap.size wQ wR := by rw [← hwR]; exact (Below.refl _ wQ).alloc (Nat.le_refl _) _
  have hhR : wR.heap[wQ.heap.size]? = some (.cells #[.slice none 0 0, .slice none 0 0] 25 (0, 0)) := by rw [← hwR]; exact World.alloc_heap_new wQ _
  have l1 : w.heap.size < wP.heap.size := lt_of_heap hhP
  have l2 : wP.heap.size < wQ.heap.size := lt_of_heap hhQ
  have l3 : wQ.heap.size < wR.heap.size := lt_of_heap hhR
  have hhQ' := (hbR.block _ l2).trans hhQ
  have hhP' := (hbR.block _ (by omega)).trans ((hbQ.block _ l1).trans hhP)
  have BX : ∀ W, Below wR.heap.size wR W → W.heap[w.heap.size]? = some (.cells #[.slice no nl nc, .slice none 0 ec] 25 (0, 0)) ∧ W.heap[wP.heap.size]? = some (.cells #[.int .i64 qx, .int .i64 qy] 27 (0, 0)) ∧ W.heap[wQ.heap.size]? = some (.cells #[.slice none 0 0, .slice none 0 0] 25 (0, 0)) := fun W hW => ⟨(hW.block _ (by omega)).trans hhP', (hW.block _ (by omega)).trans hhQ', (hW.block _ (by omega)).trans hhR⟩
  have HS := hid (show ∀ W, Below wR.heap.size wR W → W.cell? ⟨w.heap.size, 0, none⟩ = some (.slice no nl nc) ∧ W.cell? ⟨w.heap.size, 1, none⟩ = some (.slice none 0 ec) ∧ W.cell? ⟨wP.heap.size, 0, none⟩ = some (.int .i64 qx) ∧ W.cell? ⟨wP.heap.size, 1, none⟩ = some (.int .i64 qy) from fun W hW => by
    obtain ⟨b1, b2, _⟩ := BX W hW
    exact ⟨(box2_cell b1).1, (box2_cell b1).2.1, by simp [World.cell?, b2], by simp [World.cell?, b2]⟩)
  obtain ⟨c0, c1, _, _⟩ := box2_cell hhP'
  have q0 : wR.cell? ⟨wP.heap.size, 0, none⟩ = some (.int .i64 qx) := by simp [World.cell?, hhQ']
  have q1 : wR.cell? ⟨wP.heap.size, 1, none⟩ = some (.int .i64 qy) := by simp [World.cell?, hhQ']
  have hbw : Below w.heap.size w wR := hbP.trans ((hbQ.mono hbP.size).trans (hbR.mono (Nat.le_trans hbP.size hbQ.size)))
  have HB := hid (And.intro hbw BX)
  have HOK := hid (fun W => ok_any qx qy W)
  rw [hq] at HOK
  have HFA := hid (fun W (hW : Below wR.heap.size wR W) => topoFaceAt_bare (ec := ec) (nc := nc) (hd.below (hbw.trans (hW.mono hbw.size))) h0 hi hr qx qy)
  rw [ht] at HFA
  have HNI := hid (fun W (hW : Below wR.heap.size wR W) => (nodeIDs_any (nc := nc) (hd.below (hbw.trans (hW.mono hbw.size))) (.slice none 0 ec)).mono (R' := fun e w' => (∃ v, e = .returned v ∧ NRow w' W.heap.size v (ns.map (·.id))) ∧ Below wR.heap.size wR w' ∧ Below W.heap.size W w') fun e w' h => ⟨h.1, hW.trans (h.2.mono hW.size), h.2⟩)
  have HUN := hid (fun W v (hW : Below wR.heap.size wR W) (hv : Nums W v (ns.map (·.id))) => (unused_any hv (by rw [List.length_map, hd.len]; omega)).mono (R' := fun e w' => e = .returned (.int .i64 (unL (ns.map (·.id)))) ∧ Below wR.heap.size wR w' ∧ Below W.heap.size W w') fun e w' h => ⟨h.1, hW.trans (h.2.mono hW.size), h.2⟩)
  have HOF := hid (fun W (hW : Below wR.heap.size wR W) => ofBare_any (ec := ec) (nc := nc) (hd.below (hbw.trans (hW.mono hbw.size))) h0)
  have hlen := hd.len
  obtain ⟨I, hI⟩ : ∃ I, unL (ns.map (·.id)) = I := ⟨_, rfl⟩
  rw [hI] at HUN hu ⊢
  have HU := hid hu
  have hl200 : ¬ (200 : Int) ≤ (nl : Int) := by omega
  generalize ns.map (·.id) = IDS at HNI HUN
  clear hd hi hr hbP hhP hbQ hhQ hbR hhR hhQ' hhP' BX hbw hq ht hu hI
  go_enter Tryz.func15, Tryz.ntmps15
  go_wp2_with (first
    | (go_at_call 33; refine (HOK.out _).mono ?_; rintro e w1 ⟨rfl, hb1⟩; have H1 := hid hb1; have d0 := cell_below c0 hb1 (lt_of_cell c0); have d1 := cell_below c1 hb1 (lt_of_cell c1); have p0 := cell_below q0 hb1 (lt_of_cell q0); have p1 := cell_below q1 hb1 (lt_of_cell q1); clear HOK hb1 c0 c1 q0 q1)
    | (go_at_call 34; refine (HFA.out _ H1.out).mono ?_; rintro e w2 ⟨rfl, hb2⟩; have H2 := hid (H1.out.trans (hb2.mono H1.out.size)); have e0 := cell_below d0 hb2 (lt_of_cell d0); have e1 := cell_below d1 hb2 (lt_of_cell d1); have r0 := cell_below p0 hb2 (lt_of_cell p0); have r1 := cell_below p1 hb2 (lt_of_cell p1); clear HFA hb2 d0 d1 p0 p1))
  go_cut [9] from 28 to 33 (fun s9 wx => ∃ bn, s9 = .pointer (some ⟨bn, 0, none⟩) ∧ Hid (wx.heap[bn]? = some (nrO ⟨I, qx, qy, 0⟩) ∧ wR.heap.size ≤ bn ∧ Below wR.heap.size wR wx))
  case first =>
    go_region_held (fun w' => w'.cell? ⟨w.heap.size, 0, none⟩ = some (.slice no nl nc) ∧ w'.cell? ⟨w.heap.size, 1, none⟩ = some (.slice none 0 ec) ∧ w'.cell? ⟨wP.heap.size, 0, none⟩ = some (.int .i64 qx) ∧ w'.cell? ⟨wP.heap.size, 1, none⟩ = some (.int .i64 qy)) (first | exact ⟨e0, e1, r0, r1⟩ | exact HS.out _ H2.out.drew | exact HS.out _ (H2.out.drew.alloc H2.out.size _) | exact HS.out _ H3.out.2 | exact HS.out _ (H3.out.2.alloc H3.out.2.size _) | exact HS.out _ H4.out | exact HS.out _ (H4.out.alloc H4.out.size _) | exact HS.out _ ((((H4.out.setCell HL.out _).setCell HL.out _).setCell HL.out _).setCell HL.out _) | exact HS.out _ (((((H4.out.alloc H4.out.size _).setCell H4.out.size _).setCell H4.out.size _).setCell H4.out.size _).setCell H4.out.size _)) (first
      | (go_at_call 35; refine (HNI.out w2.drew H2.out.drew).mono ?_; rintro e w3 ⟨⟨v, rfl, hv⟩, hb3, hc3⟩; obtain ⟨vo, vc, hve⟩ := hv.form; subst hve; have H3 := hid (And.intro hv.nums hb3); obtain ⟨f0, f1, _, _⟩ := box2_cell (HB.out.2 _ hb3).1; clear hv hb3 hc3)
      | (go_at_call 35; refine (HNI.out (w2.drew.alloc (nrO ⟨0, 0, 0, 0⟩)) (H2.out.drew.alloc H2.out.size _)).mono ?_; rintro e w3 ⟨⟨v, rfl, hv⟩, hb3, hc3⟩; obtain ⟨vo, vc, hve⟩ := hv.form; subst hve; have H3 := hid (And.intro hv.nums hb3); have hZ := hid ((hc3.block w2.heap.size (by simp)).trans (World.alloc_heap_new w2.drew _)); clear hv hb3 hc3)
      | (go_at_call 13; refine (HUN.out w3 _ H3.out.2 H3.out.1).mono ?_; rintro e w4 ⟨rfl, hb4, hc4⟩; have H4 := hid hb4; (first | (have hY := (hc4.block w2.heap.size (lt_of_heap hZ.out)).trans hZ.out; obtain ⟨⟨z0, z1, z2, z3⟩, zf⟩ := nr_box hY; have HY := hid hY; have HL := hid H2.out.size; clear hY) | skip); clear hb4 hc4)
      | (go_at_call 13; refine (HUN.out (w3.alloc (nrO ⟨0, 0, 0, 0⟩)) _ (H3.out.2.alloc H3.out.2.size _) (H3.out.1.below ((Below.refl _ w3).alloc (Nat.le_refl _) _))).mono ?_; rintro e w4 ⟨rfl, hb4, hc4⟩; have H4 := hid hb4; have hY := (hc4.block w3.heap.size (by simp)).trans (World.alloc_heap_new w3 _); obtain ⟨⟨z0, z1, z2, z3⟩, zf⟩ := nr_box hY; have HY := hid hY; have HL := hid H3.out.2.size; clear hY hb4 hc4))
    all_goals (go_wp2; go_meet)
    · exact ⟨_, rfl, hid ⟨World.alloc_heap_new _ _, H4.out.size, H4.out.alloc H4.out.size _⟩⟩
    · exact ⟨_, rfl, hid ⟨set1 (set1 (set1 (set1 HY.out _) _) _) _, HL.out, (((H4.out.setCell HL.out _).setCell HL.out _).setCell HL.out _).setCell HL.out _⟩⟩
    · exact ⟨_, rfl, hid ⟨set1 (set1 (set1 (set1 HY.out _) _) _) _, HL.out, (((H4.out.setCell HL.out _).setCell HL.out _).setCell HL.out _).setCell HL.out _⟩⟩
  case rest =>
    obtain ⟨bn, rfl, hN⟩ := hcut
    have hbc := hN.out.2.2
    have hbnl : bn < wc.heap.size := lt_of_heap hN.out.1
    obtain ⟨b1, b2, b3⟩ := HB.out.2 wc hbc
    have SS : ∀ W : World, W.heap[w.heap.size]? = some (.cells #[.slice no nl nc, .slice none 0 ec] 25 (0, 0)) → W.heap[bn]? = some (nrO ⟨I, qx, qy, 0⟩) → W.cell? ⟨w.heap.size, 0, none⟩ = some (.slice no nl nc) ∧ W.cell? ⟨w.heap.size, 1, none⟩ = some (.slice none 0 ec) ∧ W.cell? ⟨bn, 0, none⟩ = some (.int .i64 I) ∧ W.cell? ⟨bn, 1, none⟩ = some (.int .i64 qx) ∧ W.cell? ⟨bn, 2, none⟩ = some (.int .i64 qy) ∧ W.cell? ⟨bn, 3, none⟩ = some (.int .i64 0) := fun W h1 h2 => ⟨(box2_cell h1).1, (box2_cell h1).2.1, (nr_box h2).1⟩
    have hwl : w.heap.size < wc.heap.size := Nat.lt_of_lt_of_le (Nat.lt_trans l1 (Nat.lt_trans l2 l3)) hbc.size
    have hQl : wQ.heap.size < wc.heap.size := Nat.lt_of_lt_of_le l3 hbc.size
    have hge := hN.out.2.1
    have HS1 := hid (fun (W : World) (hW : Below wc.heap.size wc W) => SS W ((hW.block _ hwl).trans b1) ((hW.block _ hbnl).trans hN.out.1))
    have HS2 := hid (fun (W : World) (x y : Value) (hW : Below wc.heap.size wc W) => SS ((W.setCell ⟨wQ.heap.size, 0, none⟩ x).setCell ⟨wQ.heap.size, 1, none⟩ y) ((Below.heap_setCell _ _ _ _ (show w.heap.size ≠ wQ.heap.size by omega)).trans ((Below.heap_setCell _ _ _ _ (show w.heap.size ≠ wQ.heap.size by omega)).trans ((hW.block _ hwl).trans b1))) ((Below.heap_setCell _ _ _ _ (show bn ≠ wQ.heap.size by omega)).trans ((Below.heap_setCell _ _ _ _ (show bn ≠ wQ.heap.size by omega)).trans ((hW.block _ hbnl).trans hN.out.1))))
    obtain ⟨s0, s1, s2, s3, s4, s5⟩ := SS wc b1 hN.out.1
    have HO := hid (HOF.out wc.drew hbc.drew)
    have HBC := hid (And.intro hbc (And.intro b3 hQl))
    have hL : (ns ++ [(⟨I, qx, qy, 0⟩ : NR)]).length = nl + 1 := by rw [List.length_append, hlen]; rfl
    clear SS hN b1 b2 b3 hbc HOF
    go_wp2
    go_region_held (fun w' => w'.cell? ⟨w.heap.size, 0, none⟩ = some (.slice no nl nc) ∧ w'.cell? ⟨w.heap.size, 1, none⟩ = some (.slice none 0 ec) ∧ w'.cell? ⟨bn, 0, none⟩ = some (.int .i64 I) ∧ w'.cell? ⟨bn, 1, none⟩ = some (.int .i64 qx) ∧ w'.cell? ⟨bn, 2, none⟩ = some (.int .i64 qy) ∧ w'.cell? ⟨bn, 3, none⟩ = some (.int .i64 0)) (first | with_reducible exact HS2.out _ _ _ H6.out.2 | with_reducible exact HS1.out _ H6.out.2 | with_reducible exact HS1.out _ H5.out.2 | exact ⟨s0, s1, s2, s3, s4, s5⟩) (first
      | (go_at_call 37; refine HO.out.mono ?_; rintro e w5 ⟨⟨v, rfl, hv⟩, hb5⟩; obtain ⟨vo, vc, hve, hvc, hvg⟩ := hv.form; rw [hlen] at hve; subst hve; have H5 := hid (And.intro hv (show Below wc.heap.size wc w5 from (Below.refl _ wc).drew.trans hb5)); clear hv hb5 hvc hvg HO)
      | (go_at_call 36; refine (withNode_any H5.out.1 hlen H5.out.2.size (by omega) ⟨I, qx, qy, 0⟩ HU.out).mono ?_; rintro e w6 ⟨⟨v, rfl, hv⟩, hb6⟩; obtain ⟨uo, uc, hve, huc, hug⟩ := hv.form; rw [hL] at hve; subst hve; have H6 := hid (And.intro hv (show Below wc.heap.size wc w6 from H5.out.2.trans hb6)); have hh6 := ((H5.out.2.trans hb6).block _ HBC.out.2.2).trans HBC.out.2.1; obtain ⟨t0, t1, t2, t3⟩ := box2_cell hh6; have HT := hid hh6; clear hv hb6 huc hug hh6))
    go_wp2
    obtain ⟨hv6, hb6⟩ := H6.out
    have hqw : w.heap.size ≤ wQ.heap.size := by omega
    have hwc : w.heap.size ≤ wc.drew.heap.size := Nat.le_of_lt hwl
    obtain ⟨U, hU⟩ : ∃ U, (w6.setCell ⟨wQ.heap.size, 0, none⟩ (.slice uo (nl + 1) uc)).setCell ⟨wQ.heap.size, 1, none⟩ (.slice none 0 0) = U := ⟨_, rfl⟩
    have hUU : U.heap[wQ.heap.size]? = some (.cells #[.slice uo (nl + 1) uc, .slice none 0 0] 25 (0, 0)) := by rw [← hU]; exact set1 (set1 HT.out _) _
    have hO : ∀ k, k ≠ wQ.heap.size → U.heap[k]? = w6.heap[k]? := fun k hk => by rw [← hU]; exact (Below.heap_setCell _ _ _ k hk).trans (Below.heap_setCell _ _ _ k hk)
    have hbU : Below w.heap.size w U := by rw [← hU]; exact ((HB.out.1.trans ((HBC.out.1.trans (hb6.mono HBC.out.1.size)).mono HB.out.1.size)).setCell hqw _).setCell hqw _
    have hrU : NdRow U w.heap.size (.slice uo (nl + 1) uc) (ns ++ [⟨I, qx, qy, 0⟩]) := (hv6.toBase hwc).same fun g hg => hO g (by have q1 : wc.heap.size ≤ g := (hv6.lt hg).2; omega)
    obtain ⟨u0, u1, _, _⟩ := box2_cell hUU
    rw [hU]
    clear hU hUU hO hv6 hb6
    (try simp only [Exit.inBlock, Exit.then])
    refine bodyPost_ret (v := .tuple #[plV (.slice uo (nl + 1) uc) (.slice none 0 0), .int .i64 I, .int .i64 0]) (by simp [results, Tryz.results15, go_sem, u0, u1]) rfl ?_
    exact ⟨⟨_, rfl, hrU⟩, hbU⟩
end Go.Proofs.YtdjbjadaldndcaaGreat
