/-
  Layer 17: topo's AddNode, behind all others.
-/
import Derived.Deep.CutRange
import Derived.Test.YtkdnkmheidbfdaaGreatN4
import Derived.Test.YtkdnkmheidbfdaaGreatN6
import Derived.Test.YtkdnkmheidbfdaaGreatN8
import Derived.Test.YtkdnkmheidbfdaaGreatN9
namespace Go.Proofs.YtkdnkmheidbfdaaGreat
open Go.RowKit Go.Shelf Go.Sort Go.Maps

set_option maxRecDepth 100000 in
set_option maxHeartbeats 6400000 in
theorem addNode_e {w : World} {b off n cap : Nat} {ao : Option Addr} {xs : List ER} {ls : List (List Pp)} (h : PlE w b off n ao xs ls) {nb noff nl nc : Nat} {no : Option Addr} {ns : List NR} (hd : NdE w nb noff nl no ns) (h0 : nl = 0 → no = none) (hi : ∀ x ∈ ns, -1000000 ≤ x.id ∧ x.id ≤ 1000000) (hr : RiseN ns) (hP : ∀ r ∈ ringsL xs ls, (ringPtsF xs ls r).length ≤ 4096) {M : Nat} (hM : ((bordersL xs ls).filter BP.out).length = M) (hM19 : M ≤ 19) (hn1 : 1 ≤ n) {qx qy F : Int} (hq : okP qx qy = true) (ht : takenF ns n ls (qx, qy) = false) (hF : FaceIs xs ls (qx, qy) M F) (hl : nl < 200) (hu : ∀ y ∈ ns, y.id ≤ unL (ns.map (·.id))) :
    Calls Tryz.prog 6 #[plV (.slice no nl nc) (.slice ao n cap), pv qx qy] w fun e w' => (∃ v u ys, e = .returned (.tuple #[plV v u, .int .i64 (unL (ns.map (·.id))), .int .i64 0]) ∧ PlO w' w.heap.size v u (ns ++ [⟨unL (ns.map (·.id)), qx, qy, F⟩]) ys ls ∧ ys.map bareF = xs.map bareF) ∧ Below w.heap.size w w' := by
  obtain ⟨wP, hwP⟩ : ∃ wP, w.alloc (.cells #[.slice no nl nc, .slice ao n cap] 32) = wP := ⟨_, rfl⟩
  have hbP : Below w.heap.size w wP := by rw [← hwP]; exact (Below.refl _ w).alloc (Nat.le_refl _) _
  have hhP : wP.heap[w.heap.size]? = some (.cells #[.slice no nl nc, .slice ao n cap] 32 (0, 0)) := by rw [← hwP]; exact World.alloc_heap_new w _
  obtain ⟨wQ, hwQ⟩ : ∃ wQ, wP.alloc (.cells #[.int .i64 qx, .int .i64 qy] 23) = wQ := ⟨_, rfl⟩
  have hbQ : Below wP.heap.size wP wQ := by rw [← hwQ]; exact (Below.refl _ wP).alloc (Nat.le_refl _) _
  have hhQ : wQ.heap[wP.heap.size]? = some (.cells #[.int .i64 qx, .int .i64 qy] 23 (0, 0)) := by rw [← hwQ]; exact World.alloc_heap_new wP _
  obtain ⟨wR, hwR⟩ : ∃ wR, wQ.alloc (.cells #[.slice none 0 0, .slice none 0 0] 32) = wR := ⟨_, rfl⟩
  have hbR : Below wQ.heap.size wQ wR := by rw [← hwR]; exact (Below.refl _ wQ).alloc (Nat.le_refl _) _
  have hhR : wR.heap[wQ.heap.size]? = some (.cells #[.slice none 0 0, .slice none 0 0] 32 (0, 0)) := by rw [← hwR]; exact World.alloc_heap_new wQ _
  have l1 : w.heap.size < wP.heap.size := lt_of_heap hhP
  have l2 : wP.heap.size < wQ.heap.size := lt_of_heap hhQ
  have l3 : wQ.heap.size < wR.heap.size := lt_of_heap hhR
  have hhQ' := (hbR.block _ l2).trans hhQ
  have hhP' := (hbR.block _ (by omega)).trans ((hbQ.block _ l1).trans hhP)
  have BX : ∀ W, Below wR.heap.size wR W → W.heap[w.heap.size]? = some (.cells #[.slice no nl nc, .slice ao n cap] 32 (0, 0)) ∧ W.heap[wP.heap.size]? = some (.cells #[.int .i64 qx, .int .i64 qy] 23 (0, 0)) ∧ W.heap[wQ.heap.size]? = some (.cells #[.slice none 0 0, .slice none 0 0] 32 (0, 0)) := fun W hW => ⟨(hW.block _ (by omega)).trans hhP', (hW.block _ (by omega)).trans hhQ', (hW.block _ (by omega)).trans hhR⟩
  have HS := hid (show ∀ W, Below wR.heap.size wR W → W.cell? ⟨w.heap.size, 0, none⟩ = some (.slice no nl nc) ∧ W.cell? ⟨w.heap.size, 1, none⟩ = some (.slice ao n cap) ∧ W.cell? ⟨wP.heap.size, 0, none⟩ = some (.int .i64 qx) ∧ W.cell? ⟨wP.heap.size, 1, none⟩ = some (.int .i64 qy) from fun W hW => by
    obtain ⟨b1, b2, _⟩ := BX W hW
    exact ⟨(box2_cell b1).1, (box2_cell b1).2.1, by simp [World.cell?, b2], by simp [World.cell?, b2]⟩)
  obtain ⟨c0, c1, _, _⟩ := box2_cell hhP'
  have q0 : wR.cell? ⟨wP.heap.size, 0, none⟩ = some (.int .i64 qx) := by simp [World.cell?, hhQ']
  have q1 : wR.cell? ⟨wP.heap.size, 1, none⟩ = some (.int .i64 qy) := by simp [World.cell?, hhQ']
  have hbw : Below w.heap.size w wR := hbP.trans ((hbQ.mono hbP.size).trans (hbR.mono (Nat.le_trans hbP.size hbQ.size)))
  have HB := hid (And.intro hbw BX)
  have HOK := hid (fun W => ok_any qx qy W)
  rw [hq] at HOK
  have HFA := hid (fun W (hW : Below wR.heap.size wR W) => topoFaceAt_e (cap := cap) (nc := nc) (h.below (hbw.trans (hW.mono hbw.size))) (hd.below (hbw.trans (hW.mono hbw.size))) h0 hi hr hP hM hM19 qx qy (fun _ => hF))
  rw [ht] at HFA
  simp only [Bool.false_eq_true, if_false] at HFA
  have HNI := hid (fun W (hW : Below wR.heap.size wR W) => (nodeIDs_any (nc := nc) (hd.below (hbw.trans (hW.mono hbw.size))) (.slice ao n cap)).mono (R' := fun e w' => (∃ v, e = .returned v ∧ NRow w' W.heap.size v (ns.map (·.id))) ∧ Below wR.heap.size wR w' ∧ Below W.heap.size W w') fun e w' h => ⟨h.1, hW.trans (h.2.mono hW.size), h.2⟩)
  have HUN := hid (fun W v (hW : Below wR.heap.size wR W) (hv : Nums W v (ns.map (·.id))) => (unused_any hv (by rw [List.length_map, hd.len]; omega)).mono (R' := fun e w' => e = .returned (.int .i64 (unL (ns.map (·.id)))) ∧ Below wR.heap.size wR w' ∧ Below W.heap.size W w') fun e w' h => ⟨h.1, hW.trans (h.2.mono hW.size), h.2⟩)
  have HOF := hid (fun W (hW : Below wR.heap.size wR W) => ofE_any (cap := cap) (nc := nc) (h.below (hbw.trans (hW.mono hbw.size))) (hd.below (hbw.trans (hW.mono hbw.size))) h0 hn1)
  have hxl := h.len
  have hlen := hd.len
  obtain ⟨I, hI⟩ : ∃ I, unL (ns.map (·.id)) = I := ⟨_, rfl⟩
  rw [hI] at HUN hu ⊢
  have HU := hid hu
  have hl200 : ¬ (200 : Int) ≤ (nl : Int) := by omega
  generalize ns.map (·.id) = IDS at HNI HUN
  clear h hF hP hM hd hi hr hbP hhP hbQ hhQ hbR hhR hhQ' hhP' BX hbw hq ht hu hI
  go_enter Tryz.func6, Tryz.ntmps6
  go_wp2_with (first
    | (go_at_call 11; refine (HOK.out _).mono ?_; rintro e w1 ⟨rfl, hb1⟩; have H1 := hid hb1; have d0 := cell_below c0 hb1 (lt_of_cell c0); have d1 := cell_below c1 hb1 (lt_of_cell c1); have p0 := cell_below q0 hb1 (lt_of_cell q0); have p1 := cell_below q1 hb1 (lt_of_cell q1); clear HOK hb1 c0 c1 q0 q1)
    | (go_at_call 12; refine (HFA.out _ H1.out).mono ?_; rintro e w2 ⟨rfl, hb2⟩; have H2 := hid (H1.out.trans (hb2.mono H1.out.size)); have e0 := cell_below d0 hb2 (lt_of_cell d0); have e1 := cell_below d1 hb2 (lt_of_cell d1); have r0 := cell_below p0 hb2 (lt_of_cell p0); have r1 := cell_below p1 hb2 (lt_of_cell p1); clear HFA hb2 d0 d1 p0 p1))
  go_cut [9] from 28 to 33 (fun s9 wx => ∃ bn, s9 = .pointer (some ⟨bn, 0, none⟩) ∧ Hid (wx.heap[bn]? = some (nrO ⟨I, qx, qy, F⟩) ∧ wR.heap.size ≤ bn ∧ Below wR.heap.size wR wx))
  case first =>
    go_region_held (fun w' => w'.cell? ⟨w.heap.size, 0, none⟩ = some (.slice no nl nc) ∧ w'.cell? ⟨w.heap.size, 1, none⟩ = some (.slice ao n cap) ∧ w'.cell? ⟨wP.heap.size, 0, none⟩ = some (.int .i64 qx) ∧ w'.cell? ⟨wP.heap.size, 1, none⟩ = some (.int .i64 qy)) (first | exact ⟨e0, e1, r0, r1⟩ | exact HS.out _ H2.out.drew | exact HS.out _ (H2.out.drew.alloc H2.out.size _) | exact HS.out _ H3.out.2 | exact HS.out _ (H3.out.2.alloc H3.out.2.size _) | exact HS.out _ H4.out | exact HS.out _ (H4.out.alloc H4.out.size _) | exact HS.out _ ((((H4.out.setCell HL.out _).setCell HL.out _).setCell HL.out _).setCell HL.out _) | exact HS.out _ (((((H4.out.alloc H4.out.size _).setCell H4.out.size _).setCell H4.out.size _).setCell H4.out.size _).setCell H4.out.size _)) (first
      | (go_at_call 14; refine (HNI.out w2.drew H2.out.drew).mono ?_; rintro e w3 ⟨⟨v, rfl, hv⟩, hb3, hc3⟩; obtain ⟨vo, vc, hve⟩ := hv.form; subst hve; have H3 := hid (And.intro hv.nums hb3); obtain ⟨f0, f1, _, _⟩ := box2_cell (HB.out.2 _ hb3).1; clear hv hb3 hc3)
      | (go_at_call 14; refine (HNI.out (w2.drew.alloc (nrO ⟨0, 0, 0, 0⟩)) (H2.out.drew.alloc H2.out.size _)).mono ?_; rintro e w3 ⟨⟨v, rfl, hv⟩, hb3, hc3⟩; obtain ⟨vo, vc, hve⟩ := hv.form; subst hve; have H3 := hid (And.intro hv.nums hb3); have hZ := hid ((hc3.block w2.heap.size (by simp)).trans (World.alloc_heap_new w2.drew _)); clear hv hb3 hc3)
      | (go_at_call 13; refine (HUN.out w3 _ H3.out.2 H3.out.1).mono ?_; rintro e w4 ⟨rfl, hb4, hc4⟩; have H4 := hid hb4; (first | (have hY := (hc4.block w2.heap.size (lt_of_heap hZ.out)).trans hZ.out; obtain ⟨⟨z0, z1, z2, z3⟩, zf⟩ := nr_box hY; have HY := hid hY; have HL := hid H2.out.size; clear hY) | skip); clear hb4 hc4)
      | (go_at_call 13; refine (HUN.out (w3.alloc (nrO ⟨0, 0, 0, 0⟩)) _ (H3.out.2.alloc H3.out.2.size _) (H3.out.1.below ((Below.refl _ w3).alloc (Nat.le_refl _) _))).mono ?_; rintro e w4 ⟨rfl, hb4, hc4⟩; have H4 := hid hb4; have hY := (hc4.block w3.heap.size (by simp)).trans (World.alloc_heap_new w3 _); obtain ⟨⟨z0, z1, z2, z3⟩, zf⟩ := nr_box hY; have HY := hid hY; have HL := hid H3.out.2.size; clear hY hb4 hc4))
    all_goals (go_wp2; go_meet)
    · exact ⟨_, rfl, hid ⟨World.alloc_heap_new _ _, H4.out.size, H4.out.alloc H4.out.size _⟩⟩
    · exact ⟨_, rfl, hid ⟨set1 (set1 (set1 (set1 HY.out _) _) _) _, HL.out, (((H4.out.setCell HL.out _).setCell HL.out _).setCell HL.out _).setCell HL.out _⟩⟩
    · exact ⟨_, rfl, hid ⟨set1 (set1 (set1 (set1 HY.out _) _) _) _, HL.out, (((H4.out.setCell HL.out _).setCell HL.out _).setCell HL.out _).setCell HL.out _⟩⟩
  case rest =>
    obtain ⟨bn, rfl, hN⟩ := hcut
    have hbc := hN.out.2.2
    have hbnl : bn < wc.heap.size := lt_of_heap hN.out.1
    obtain ⟨b1, b2, b3⟩ := HB.out.2 wc hbc
    have SS : ∀ W : World, W.heap[w.heap.size]? = some (.cells #[.slice no nl nc, .slice ao n cap] 32 (0, 0)) → W.heap[bn]? = some (nrO ⟨I, qx, qy, F⟩) → W.cell? ⟨w.heap.size, 0, none⟩ = some (.slice no nl nc) ∧ W.cell? ⟨w.heap.size, 1, none⟩ = some (.slice ao n cap) ∧ W.cell? ⟨bn, 0, none⟩ = some (.int .i64 I) ∧ W.cell? ⟨bn, 1, none⟩ = some (.int .i64 qx) ∧ W.cell? ⟨bn, 2, none⟩ = some (.int .i64 qy) ∧ W.cell? ⟨bn, 3, none⟩ = some (.int .i64 F) := fun W h1 h2 => ⟨(box2_cell h1).1, (box2_cell h1).2.1, (nr_box h2).1⟩
    have hwl : w.heap.size < wc.heap.size := Nat.lt_of_lt_of_le (Nat.lt_trans l1 (Nat.lt_trans l2 l3)) hbc.size
    have hQl : wQ.heap.size < wc.heap.size := Nat.lt_of_lt_of_le l3 hbc.size
    have hge := hN.out.2.1
    have HS1 := hid (fun (W : World) (hW : Below wc.heap.size wc W) => SS W ((hW.block _ hwl).trans b1) ((hW.block _ hbnl).trans hN.out.1))
    have HS2 := hid (fun (W : World) (x y : Value) (hW : Below wc.heap.size wc W) => SS ((W.setCell ⟨wQ.heap.size, 0, none⟩ x).setCell ⟨wQ.heap.size, 1, none⟩ y) ((Below.heap_setCell _ _ _ _ (show w.heap.size ≠ wQ.heap.size by omega)).trans ((Below.heap_setCell _ _ _ _ (show w.heap.size ≠ wQ.heap.size by omega)).trans ((hW.block _ hwl).trans b1))) ((Below.heap_setCell _ _ _ _ (show bn ≠ wQ.heap.size by omega)).trans ((Below.heap_setCell _ _ _ _ (show bn ≠ wQ.heap.size by omega)).trans ((hW.block _ hbnl).trans hN.out.1))))
    obtain ⟨s0, s1, s2, s3, s4, s5⟩ := SS wc b1 hN.out.1
    have HO := hid (HOF.out wc.drew hbc.drew)
    have HBC := hid (And.intro hbc (And.intro b3 hQl))
    have hL : (ns ++ [(⟨I, qx, qy, F⟩ : NR)]).length = nl + 1 := by rw [List.length_append, hlen]; rfl
    clear SS hN b1 b2 b3 hbc HOF
    go_wp2
    go_region_held (fun w' => w'.cell? ⟨w.heap.size, 0, none⟩ = some (.slice no nl nc) ∧ w'.cell? ⟨w.heap.size, 1, none⟩ = some (.slice ao n cap) ∧ w'.cell? ⟨bn, 0, none⟩ = some (.int .i64 I) ∧ w'.cell? ⟨bn, 1, none⟩ = some (.int .i64 qx) ∧ w'.cell? ⟨bn, 2, none⟩ = some (.int .i64 qy) ∧ w'.cell? ⟨bn, 3, none⟩ = some (.int .i64 F)) (first | with_reducible exact HS2.out _ _ _ H6.out.2 | with_reducible exact HS1.out _ H6.out.2 | with_reducible exact HS1.out _ H5.out.2.1 | exact ⟨s0, s1, s2, s3, s4, s5⟩) (first
      | (go_at_call 16; refine HO.out.mono ?_; rintro e w5 ⟨⟨v, u, ys, rfl, hpo, hys⟩, hb5⟩; obtain ⟨vo, vc, hve, _, _⟩ := hpo.nodes.form; rw [hlen] at hve; subst hve; obtain ⟨eo, ec, hue, _, _⟩ := hpo.edges.form; rw [(show ys.length = n from by rw [← hxl]; simpa using congrArg List.length hys)] at hue; subst hue; have H5 := hid (And.intro hpo (And.intro (show Below wc.heap.size wc w5 from (Below.refl _ wc).drew.trans hb5) hys)); clear hpo hys hb5 HO)
      | (go_at_call 15; refine (withNode_e H5.out.1.nodes hlen H5.out.2.1.size (by omega) ⟨I, qx, qy, F⟩ HU.out).mono ?_; rintro e w6 ⟨⟨v, rfl, hv, hk6⟩, hb6⟩; obtain ⟨uo, uc, hve, huc, hug⟩ := hv.form; rw [hL] at hve; subst hve; have H6 := hid (And.intro (H5.out.1.nodeStep hk6 hv) (show Below wc.heap.size wc w6 from H5.out.2.1.trans hb6)); have hh6 := ((H5.out.2.1.trans hb6).block _ HBC.out.2.2).trans HBC.out.2.1; obtain ⟨t0, t1, t2, t3⟩ := box2_cell hh6; have HT := hid hh6; clear hv hk6 hb6 huc hug hh6))
    go_wp2
    obtain ⟨hv6, hb6⟩ := H6.out
    have hqw : w.heap.size ≤ wQ.heap.size := by omega
    have hwc : w.heap.size ≤ wc.drew.heap.size := Nat.le_of_lt hwl
    obtain ⟨U, hU⟩ : ∃ U, (w6.setCell ⟨wQ.heap.size, 0, none⟩ (.slice uo (nl + 1) uc)).setCell ⟨wQ.heap.size, 1, none⟩ (.slice eo n ec) = U := ⟨_, rfl⟩
    have hUU : U.heap[wQ.heap.size]? = some (.cells #[.slice uo (nl + 1) uc, .slice eo n ec] 32 (0, 0)) := by rw [← hU]; exact set1 (set1 HT.out _) _
    have hO : ∀ k, k ≠ wQ.heap.size → U.heap[k]? = w6.heap[k]? := fun k hk => by rw [← hU]; exact (Below.heap_setCell _ _ _ k hk).trans (Below.heap_setCell _ _ _ k hk)
    have hbU : Below w.heap.size w U := by rw [← hU]; exact ((HB.out.1.trans ((HBC.out.1.trans (hb6.mono HBC.out.1.size)).mono HB.out.1.size)).setCell hqw _).setCell hqw _
    have hrU : PlO U w.heap.size (.slice uo (nl + 1) uc) (.slice eo n ec) (ns ++ [⟨I, qx, qy, F⟩]) ys ls := (hv6.toBase hwc).same fun k c t f hc ht => hO k fun e => by
      subst e
      rw [HT.out] at hc
      injection hc with hc
      injection hc with _ e2 _
      exact ht e2.symm
    have hys := H5.out.2.2
    obtain ⟨u0, u1, _, _⟩ := box2_cell hUU
    rw [hU]
    clear hU hUU hO hv6 hb6
    (try simp only [Exit.inBlock, Exit.then])
    refine bodyPost_ret (v := .tuple #[plV (.slice uo (nl + 1) uc) (.slice eo n ec), .int .i64 I, .int .i64 0]) (by simp [results, Tryz.results6, go_sem, u0, u1]) rfl ?_
    first | exact ⟨⟨_, _, rfl, ys, hrU, hys⟩, hbU⟩ | exact ⟨⟨_, _, ys, rfl, hrU, hys⟩, hbU⟩

set_option maxRecDepth 100000 in
set_option maxHeartbeats 6400000 in
theorem addNode_taken {w : World} {b off n cap : Nat} {ao : Option Addr} {xs : List ER} {ls : List (List Pp)} (h : PlE w b off n ao xs ls) {nb noff nl nc : Nat} {no : Option Addr} {ns : List NR} (hd : NdE w nb noff nl no ns) (h0 : nl = 0 → no = none) (hi : ∀ x ∈ ns, -1000000 ≤ x.id ∧ x.id ≤ 1000000) (hr : RiseN ns) (hP : ∀ r ∈ ringsL xs ls, (ringPtsF xs ls r).length ≤ 4096) {M : Nat} (hM : ((bordersL xs ls).filter BP.out).length = M) (hM19 : M ≤ 19) {qx qy : Int} (hq : okP qx qy = true) (ht : takenF ns n ls (qx, qy) = true) :
    Calls Tryz.prog 6 #[plV (.slice no nl nc) (.slice ao n cap), pv qx qy] w fun e w' => e = .returned (.tuple #[plV (.slice none 0 0) (.slice none 0 0), .int .i64 0, .int .i64 26]) ∧ Below w.heap.size w w' := by
  obtain ⟨wP, hwP⟩ : ∃ wP, w.alloc (.cells #[.slice no nl nc, .slice ao n cap] 32) = wP := ⟨_, rfl⟩
  have hbP : Below w.heap.size w wP := by rw [← hwP]; exact (Below.refl _ w).alloc (Nat.le_refl _) _
  have hhP : wP.heap[w.heap.size]? = some (.cells #[.slice no nl nc, .slice ao n cap] 32 (0, 0)) := by rw [← hwP]; exact World.alloc_heap_new w _
  obtain ⟨wQ, hwQ⟩ : ∃ wQ, wP.alloc (.cells #[.int .i64 qx, .int .i64 qy] 23) = wQ := ⟨_, rfl⟩
  have hbQ : Below wP.heap.size wP wQ := by rw [← hwQ]; exact (Below.refl _ wP).alloc (Nat.le_refl _) _
  have hhQ : wQ.heap[wP.heap.size]? = some (.cells #[.int .i64 qx, .int .i64 qy] 23 (0, 0)) := by rw [← hwQ]; exact World.alloc_heap_new wP _
  obtain ⟨wR, hwR⟩ : ∃ wR, wQ.alloc (.cells #[.slice none 0 0, .slice none 0 0] 32) = wR := ⟨_, rfl⟩
  have hbR : Below wQ.heap.size wQ wR := by rw [← hwR]; exact (Below.refl _ wQ).alloc (Nat.le_refl _) _
  have hhR : wR.heap[wQ.heap.size]? = some (.cells #[.slice none 0 0, .slice none 0 0] 32 (0, 0)) := by rw [← hwR]; exact World.alloc_heap_new wQ _
  have l1 : w.heap.size < wP.heap.size := lt_of_heap hhP
  have l2 : wP.heap.size < wQ.heap.size := lt_of_heap hhQ
  have l3 : wQ.heap.size < wR.heap.size := lt_of_heap hhR
  have hhQ' := (hbR.block _ l2).trans hhQ
  have hhP' := (hbR.block _ (by omega)).trans ((hbQ.block _ l1).trans hhP)
  obtain ⟨c0, c1, _, _⟩ := box2_cell hhP'
  have q0 : wR.cell? ⟨wP.heap.size, 0, none⟩ = some (.int .i64 qx) := by simp [World.cell?, hhQ']
  have q1 : wR.cell? ⟨wP.heap.size, 1, none⟩ = some (.int .i64 qy) := by simp [World.cell?, hhQ']
  have hbw : Below w.heap.size w wR := hbP.trans ((hbQ.mono hbP.size).trans (hbR.mono (Nat.le_trans hbP.size hbQ.size)))
  have HB := hid (And.intro hbw hhR)
  have HOK := hid (fun W => ok_any qx qy W)
  rw [hq] at HOK
  have HFA := hid (fun W (hW : Below wR.heap.size wR W) => topoFaceAt_e (F := 0) (cap := cap) (nc := nc) (h.below (hbw.trans (hW.mono hbw.size))) (hd.below (hbw.trans (hW.mono hbw.size))) h0 hi hr hP hM hM19 qx qy (fun e => by rw [ht] at e; cases e))
  rw [ht] at HFA
  clear h hP hM hd hi hr hbP hhP hbQ hhQ hbR hhR hhQ' hhP' hbw hq ht
  go_enter Tryz.func6, Tryz.ntmps6
  go_wp2_with (first
    | (go_at_call 11; refine (HOK.out _).mono ?_; rintro e w1 ⟨rfl, hb1⟩; have H1 := hid hb1; have d0 := cell_below c0 hb1 (lt_of_cell c0); have d1 := cell_below c1 hb1 (lt_of_cell c1); have p0 := cell_below q0 hb1 (lt_of_cell q0); have p1 := cell_below q1 hb1 (lt_of_cell q1); clear HOK hb1 c0 c1 q0 q1)
    | (go_at_call 12; refine (HFA.out _ H1.out).mono ?_; rintro e w2 ⟨rfl, hb2⟩; have hb12 := H1.out.trans (hb2.mono H1.out.size); have hz := (hb12.block _ l3).trans HB.out.2; obtain ⟨z0, z1, z2, z3⟩ := box2_cell hz; have H2 := hid (And.intro hb12 hz); clear HFA hb2 hb12 hz d0 d1 p0 p1))
  obtain ⟨hb2, hz⟩ := H2.out
  have hqw : w.heap.size ≤ wQ.heap.size := by omega
  obtain ⟨U, hU⟩ : ∃ U, (w2.setCell ⟨wQ.heap.size, 0, none⟩ (.slice none 0 0)).setCell ⟨wQ.heap.size, 1, none⟩ (.slice none 0 0) = U := ⟨_, rfl⟩
  have hUU : U.heap[wQ.heap.size]? = some (.cells #[.slice none 0 0, .slice none 0 0] 32 (0, 0)) := by rw [← hU]; exact set1 (set1 hz _) _
  have hbU : Below w.heap.size w U := by rw [← hU]; exact ((HB.out.1.trans (hb2.mono HB.out.1.size)).setCell hqw _).setCell hqw _
  obtain ⟨u0, u1, _, _⟩ := box2_cell hUU
  rw [hU]
  clear hU hUU hb2 hz
  (try simp only [Exit.inBlock, Exit.then])
  refine bodyPost_ret (v := .tuple #[plV (.slice none 0 0) (.slice none 0 0), .int .i64 0, .int .i64 26]) (by simp [results, Tryz.results6, go_sem, u0, u1]) rfl ?_
  exact ⟨rfl, hbU⟩
end Go.Proofs.YtkdnkmheidbfdaaGreat

namespace Go.Proofs.YtkdnkmheidbfdaaGreat
open Go.RowKit Go.Shelf Go.Sort Go.Maps

set_option maxRecDepth 100000 in
set_option maxHeartbeats 3200000 in
theorem remNode_e {w : World} {b off n cap : Nat} {ao : Option Addr} {xs : List ER} {ls : List (List Pp)} (h : PlE w b off n ao xs ls) (hn1 : 1 ≤ n) {nb noff nl nc j : Nat} {no : Option Addr} {ns : List NR} (hd : NdE w nb noff nl no ns) (h0 : nl = 0 → no = none) {z : Int} {y : NR} (hj : ns[j]? = some y) (hz : idxE z ns 0 = (j : Int)) (hno : ∀ x ∈ xs, x.st ≠ z ∧ x.en ≠ z) :
    Calls Tryz.prog 18 #[plV (.slice no nl nc) (.slice ao n cap), .int .i64 z] w fun e w' => (∃ v u ys, e = .returned (.tuple #[plV v u, .int .i64 0]) ∧ PlO w' w.heap.size v u (ns.eraseIdx j) ys ls ∧ ys.map bareF = xs.map bareF) ∧ Below w.heap.size w w' := by
  obtain ⟨wP, hwP⟩ : ∃ wP, w.alloc (.cells #[.slice no nl nc, .slice ao n cap] 32) = wP := ⟨_, rfl⟩
  have hbP : Below w.heap.size w wP := by rw [← hwP]; exact (Below.refl _ w).alloc (Nat.le_refl _) _
  have hhP : wP.heap[w.heap.size]? = some (.cells #[.slice no nl nc, .slice ao n cap] 32 (0, 0)) := by rw [← hwP]; exact World.alloc_heap_new w _
  obtain ⟨wR, hwR⟩ : ∃ wR, wP.alloc (.cells #[.slice none 0 0, .slice none 0 0] 32) = wR := ⟨_, rfl⟩
  have hbR : Below wP.heap.size wP wR := by rw [← hwR]; exact (Below.refl _ wP).alloc (Nat.le_refl _) _
  have hhR : wR.heap[wP.heap.size]? = some (.cells #[.slice none 0 0, .slice none 0 0] 32 (0, 0)) := by rw [← hwR]; exact World.alloc_heap_new wP _
  have l1 : w.heap.size < wP.heap.size := lt_of_heap hhP
  have l3 : wP.heap.size < wR.heap.size := lt_of_heap hhR
  have hhP' := (hbR.block _ l1).trans hhP
  have hbw : Below w.heap.size w wR := hbP.trans (hbR.mono hbP.size)
  have BX : ∀ W, Below wR.heap.size wR W → (W.cell? ⟨w.heap.size, 0, none⟩ = some (.slice no nl nc) ∧ W.cell? ⟨w.heap.size, 1, none⟩ = some (.slice ao n cap)) ∧ W.heap[wP.heap.size]? = some (.cells #[.slice none 0 0, .slice none 0 0] 32 (0, 0)) := fun W hW => ⟨⟨(box2_cell ((hW.block _ (by omega)).trans hhP')).1, (box2_cell ((hW.block _ (by omega)).trans hhP')).2.1⟩, (hW.block _ l3).trans hhR⟩
  obtain ⟨⟨c0, c1⟩, _⟩ := BX wR (Below.refl _ _)
  have hlen := hd.len
  have hjn : j < nl := by rw [← hlen]; exact (List.getElem?_eq_some_iff.1 hj).1
  have hfew := hd.few
  have HN := hid (fun W (hW : Below wR.heap.size wR W) => isNode_found (nc := nc) (hd.below (hbw.trans (hW.mono hbw.size))) (.slice ao n cap) hj hz)
  have HI := hid (fun W (hW : Below wR.heap.size wR W) => isolated_e (nc := nc) (cap := cap) (h.below (hbw.trans (hW.mono hbw.size))) (hd.below (hbw.trans (hW.mono hbw.size))) hj hz hno)
  have HO := hid (fun W (hW : Below wR.heap.size wR W) => ofE_any (nc := nc) (cap := cap) (h.below (hbw.trans (hW.mono hbw.size))) (hd.below (hbw.trans (hW.mono hbw.size))) h0 hn1)
  have hxl := h.len
  have HB := hid (And.intro hbw BX)
  have HZ := hid hz
  clear h hno hd hbP hhP hbR hhR hhP' hbw BX hj hz
  go_enter Tryz.func18, Tryz.ntmps18
  go_wp2_with (first
    | (go_at_call 40; refine (HN.out _ (Below.refl _ _)).mono ?_; rintro e w1 ⟨rfl, hb1⟩; have H1 := hid hb1; obtain ⟨⟨d0, d1⟩, _⟩ := HB.out.2 _ hb1; clear HN hb1 c0 c1)
    | (go_at_call 17; refine (HI.out _ H1.out).mono ?_; rintro e w2 ⟨rfl, hb2⟩; have H2 := hid (H1.out.trans (hb2.mono H1.out.size)); obtain ⟨⟨e0, e1⟩, _⟩ := HB.out.2 _ H2.out; clear HI hb2 d0 d1)
    | (go_at_call 16; refine (HO.out _ H2.out).mono ?_; rintro e w3 ⟨⟨v, u, ys, rfl, hpo, hys⟩, hb3⟩; obtain ⟨vo, vc, hve, _, _⟩ := hpo.nodes.form; rw [hlen] at hve; subst hve; obtain ⟨eo, ec, hue, _, _⟩ := hpo.edges.form; rw [(show ys.length = n from by rw [← hxl]; simpa using congrArg List.length hys)] at hue; subst hue; have H3 := hid (And.intro hpo (And.intro hb3 (H2.out.trans (hb3.mono H2.out.size)))); have HYS := hid hys; clear HO hpo hys hb3)
    | (go_at_call 24; refine (withoutNode_e H3.out.1.nodes hlen H3.out.2.1.size hfew HZ.out hjn).mono ?_; rintro e w4 ⟨⟨rfl, hv, hk4⟩, hb4⟩; have H4 := hid (And.intro (H3.out.1.nodeStep hk4 hv) (H3.out.2.2.trans (hb4.mono H2.out.size))); obtain ⟨x0, x1, x2, x3⟩ := box2_cell (HB.out.2 _ H4.out.2).2; clear hv hk4 hb4))
  obtain ⟨hv4, hb4⟩ := H4.out
  have hqw : w.heap.size ≤ wP.heap.size := by omega
  obtain ⟨U, hU⟩ : ∃ U, (w4.setCell ⟨wP.heap.size, 0, none⟩ (.slice vo (nl - 1) vc)).setCell ⟨wP.heap.size, 1, none⟩ (.slice eo n ec) = U := ⟨_, rfl⟩
  have hUU : U.heap[wP.heap.size]? = some (.cells #[.slice vo (nl - 1) vc, .slice eo n ec] 32 (0, 0)) := by rw [← hU]; exact set1 (set1 (HB.out.2 _ hb4).2 _) _
  have hO : ∀ k, k ≠ wP.heap.size → U.heap[k]? = w4.heap[k]? := fun k hk => by rw [← hU]; exact (Below.heap_setCell _ _ _ k hk).trans (Below.heap_setCell _ _ _ k hk)
  have hbU : Below w.heap.size w U := by rw [← hU]; exact ((HB.out.1.trans (hb4.mono HB.out.1.size)).setCell hqw _).setCell hqw _
  have hs2 := H2.out.size
  have hZR := (HB.out.2 _ hb4).2
  have hrU : PlO U w.heap.size (.slice vo (nl - 1) vc) (.slice eo n ec) (ns.eraseIdx j) ys ls := (hv4.toBase (by omega)).same fun k c t f hc ht => hO k fun e => by
    subst e
    rw [hZR] at hc
    injection hc with hc
    injection hc with _ e2 _
    exact ht e2.symm
  obtain ⟨u0, u1, _, _⟩ := box2_cell hUU
  rw [hU]
  clear hU hUU hO hv4 hb4
  (try simp only [Exit.inBlock, Exit.then])
  refine bodyPost_ret (v := .tuple #[plV (.slice vo (nl - 1) vc) (.slice eo n ec), .int .i64 0]) (by simp [results, Tryz.results18, go_sem, u0, u1]) rfl ?_
  first | exact ⟨⟨_, _, rfl, ys, hrU, HYS.out⟩, hbU⟩ | exact ⟨⟨_, _, ys, rfl, hrU, HYS.out⟩, hbU⟩
end Go.Proofs.YtkdnkmheidbfdaaGreat
