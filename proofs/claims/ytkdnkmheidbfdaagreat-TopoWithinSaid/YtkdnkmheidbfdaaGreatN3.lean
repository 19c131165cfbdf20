/-
  Layer 17: topo's Isolated of a plan without edges; the law's awake.
-/
import Derived.Test.YtkdnkmheidbfdaaGreatN4
namespace Go.Proofs.YtkdnkmheidbfdaaGreat
open Go.RowKit Go.Shelf Go.Sort Go.Maps

/-- The first node of an ID. -/
def idxE (z : Int) : List NR → Nat → Int
  | [], _ => -1
  | y :: l, k => if y.id = z then (k : Int) else idxE z l (k + 1)
theorem idxE_at {z : Int} {ns : List NR} {k : Nat} {y : NR} (h : ns[k]? = some y) : idxE z (ns.drop k) k = if y.id = z then (k : Int) else idxE z (ns.drop (k + 1)) (k + 1) := by
  obtain ⟨hk, e⟩ := List.getElem?_eq_some_iff.1 h
  rw [List.drop_eq_getElem_cons hk, e]
  rfl

set_option maxRecDepth 100000 in
set_option maxHeartbeats 1600000 in
theorem node1_any (y : NR) {z : Int} {gz : Nat} {w : World} (hz : w.cell? ⟨gz, 0, none⟩ = some (.int .i64 z)) :
    Calls Tryz.prog 44 #[nrV y, .pointer (some ⟨gz, 0, none⟩)] w fun e w' => e = .returned (.bool (y.id == z)) ∧ Below w.heap.size w w' := by
  obtain ⟨wA, hwA⟩ : ∃ wA, w.alloc (nrO y) = wA := ⟨_, rfl⟩
  have hbA : Below w.heap.size w wA := by rw [← hwA]; exact (Below.refl _ w).alloc (Nat.le_refl _) _
  obtain ⟨a0, a1, a2, a3⟩ := nr_cells (show wA.heap[w.heap.size]? = some (nrO y) by rw [← hwA]; exact World.alloc_heap_new w _)
  have b0 := cell_below hz hbA (lt_of_cell hz)
  have HB := hid hbA
  clear hbA hz
  go_enter Tryz.func44, Tryz.ntmps44
  go_wp2
  go_ret
  exact ⟨rfl, HB.out⟩

set_option maxRecDepth 100000 in
set_option maxHeartbeats 1600000 in
theorem indexNE_any {w : World} {b off n cap : Nat} {ao : Option Addr} {ns : List NR} (h : NdE w b off n ao ns) {z : Int} {gz : Nat} (hz : w.cell? ⟨gz, 0, none⟩ = some (.int .i64 z)) :
    Calls Tryz.prog 43 #[.slice ao n cap, .func (.func 44) #[] #[.pointer (some ⟨gz, 0, none⟩)]] w fun e w' => e = .returned (.int .i64 (idxE z ns 0)) ∧ Below w.heap.size w w' := by
  have HE := hid h
  have HI := hid hz
  have hfew := h.few
  clear h hz
  go_enter Tryz.func43, Tryz.ntmps43
  go_wp2
  go_loopw [5, 8] (fun _ iv wr => ∃ k : Nat, k ≤ n ∧ iv = .int .i64 (k : Int) ∧ idxE z ns 0 = idxE z (ns.drop k) k ∧ Below w.heap.size w wr) (fun _ iv _ => n - (intOf iv).toNat)
  case atStart => exact ⟨0, Nat.zero_le _, rfl, by rw [List.drop_zero], Below.refl _ _⟩
  case round =>
    obtain ⟨k, hk, rfl, hix, hbr⟩ := hrel
    have HBR := hid hbr
    by_cases hlt : k < n
    · have hltI : (k : Int) < (n : Int) := by omega
      obtain ⟨y, hy⟩ : ∃ y, ns[k]? = some y := ⟨ns[k]'(by have := HE.out.len; omega), by rw [List.getElem?_eq_getElem]⟩
      obtain rfl := HE.out.at' (by omega)
      have hy0 := HE.out.cells k y hy
      obtain ⟨a0, a1, a2, a3⟩ := hy0.below hbr (lt_of_cell hy0.1)
      rw [idxE_at hy] at hix
      have HC := hid (node1_any y (cell_below HI.out hbr (lt_of_cell HI.out)))
      clear hy hy0 hbr
      by_cases ha : y.id = z
      · rw [if_pos ha] at hix
        rw [show (y.id == z) = true from by rw [beq_iff_eq]; exact ha] at HC
        have HX := hid hix
        clear hix ha
        go_wp2_with (go_at_call 44; refine HC.out.mono ?_; rintro e w1 ⟨rfl, hb1⟩; have HB1 := hid (HBR.out.trans (hb1.mono HBR.out.size)); clear hb1 HC)
        go_ret
        rw [HX.out]; exact ⟨rfl, HB1.out⟩
      · rw [if_neg ha] at hix
        rw [show (y.id == z) = false from by rw [beq_eq_false_iff_ne]; exact ha] at HC
        have HX := hid hix
        clear hix ha
        go_wp2_with (go_at_call 44; refine HC.out.mono ?_; rintro e w1 ⟨rfl, hb1⟩; have HB1 := hid (HBR.out.trans (hb1.mono HBR.out.size)); clear hb1 HC)
        go_roundw
        case rel => exact ⟨k + 1, by omega, by go_num, HX.out, HB1.out⟩
        case measure => simp [intOf]; omega
    · have hltI : ¬ (k : Int) < (n : Int) := by omega
      have HX := hid (show idxE z ns 0 = -1 by rw [hix, List.drop_of_length_le (by have := HE.out.len; omega)]; rfl)
      clear hix hbr
      go_wp2
      go_ret
      rw [HX.out]; exact ⟨rfl, HBR.out⟩

set_option maxRecDepth 100000 in
set_option maxHeartbeats 1600000 in
theorem planNode_found {w : World} {nb noff nl nc : Nat} {no : Option Addr} {ns : List NR} (hd : NdE w nb noff nl no ns) (ev : Value) {z : Int} {j : Nat} {y : NR} (hj : ns[j]? = some y) (hz : idxE z ns 0 = (j : Int)) :
    Calls Tryz.prog 19 #[plV (.slice no nl nc) ev, .int .i64 z] w fun e w' => e = .returned (.tuple #[nrV y, .bool true]) ∧ Below w.heap.size w w' := by
  obtain ⟨wP, hwP⟩ : ∃ wP, w.alloc (.cells #[.slice no nl nc, ev] 32) = wP := ⟨_, rfl⟩
  have hbP : Below w.heap.size w wP := by rw [← hwP]; exact (Below.refl _ w).alloc (Nat.le_refl _) _
  have hhP : wP.heap[w.heap.size]? = some (.cells #[.slice no nl nc, ev] 32 (0, 0)) := by rw [← hwP]; exact World.alloc_heap_new w _
  obtain ⟨wQ, hwQ⟩ : ∃ wQ, wP.alloc (.cells #[.int .i64 z] 3) = wQ := ⟨_, rfl⟩
  have hbQ : Below wP.heap.size wP wQ := by rw [← hwQ]; exact (Below.refl _ wP).alloc (Nat.le_refl _) _
  have hhQ : wQ.heap[wP.heap.size]? = some (.cells #[.int .i64 z] 3 (0, 0)) := by rw [← hwQ]; exact World.alloc_heap_new wP _
  obtain ⟨wR, hwR⟩ : ∃ wR, wQ.alloc (nrO ⟨0, 0, 0, 0⟩) = wR := ⟨_, rfl⟩
  have hbR : Below wQ.heap.size wQ wR := by rw [← hwR]; exact (Below.refl _ wQ).alloc (Nat.le_refl _) _
  have hhR : wR.heap[wQ.heap.size]? = some (nrO ⟨0, 0, 0, 0⟩) := by rw [← hwR]; exact World.alloc_heap_new wQ _
  have l1 : w.heap.size < wP.heap.size := lt_of_heap hhP
  have l2 : wP.heap.size < wQ.heap.size := lt_of_heap hhQ
  have hhQ' := (hbR.block _ l2).trans hhQ
  have hhP' := (hbR.block _ (by omega)).trans ((hbQ.block _ l1).trans hhP)
  have hbw : Below w.heap.size w wR := hbP.trans ((hbQ.mono hbP.size).trans (hbR.mono (Nat.le_trans hbP.size hbQ.size)))
  obtain ⟨c0, c1, _, _⟩ := box2_cell hhP'
  have q0 : wR.cell? ⟨wP.heap.size, 0, none⟩ = some (.int .i64 z) := by simp [World.cell?, hhQ']
  have HX := hid (indexNE_any (cap := nc) (hd.below hbw) q0)
  rw [hz] at HX
  have hjl : j < nl := by rw [← hd.len]; exact (List.getElem?_eq_some_iff.1 hj).1
  obtain rfl := hd.at' (by omega)
  have hcy := (hd.below hbw).cells j y hj
  have HB := hid (And.intro hbw (And.intro hhP' (And.intro hhR hcy)))
  have hjI : ¬ ((j : Int) < 0) := by omega
  have hjn : (j : Int) < (nl : Int) := by omega
  clear hbP hhP hbQ hhQ hbR hhR hhQ' hhP' hbw hcy hd hj hz
  go_enter Tryz.func19, Tryz.ntmps19
  go_wp2_with (go_at_call 43; refine HX.out.mono ?_; rintro e w1 ⟨rfl, hb1⟩; have d0 := cell_below c0 hb1 (lt_of_cell c0); obtain ⟨y0, y1, y2, y3⟩ := HB.out.2.2.2.below hb1 (lt_of_cell HB.out.2.2.2.1); have hR1 := (hb1.block _ (lt_of_heap HB.out.2.2.1)).trans HB.out.2.2.1; obtain ⟨⟨z0, z1, z2, z3⟩, zf⟩ := nr_box hR1; have H1 := hid (And.intro (HB.out.1.trans (hb1.mono HB.out.1.size)) hR1); clear HX hb1 hR1)
  obtain ⟨h1, hR1⟩ := H1.out
  obtain ⟨U, hU⟩ : ∃ U, (((w1.setCell ⟨wQ.heap.size, 0, none⟩ (.int .i64 y.id)).setCell ⟨wQ.heap.size, 1, none⟩ (.int .i64 y.x)).setCell ⟨wQ.heap.size, 2, none⟩ (.int .i64 y.y)).setCell ⟨wQ.heap.size, 3, none⟩ (.int .i64 y.fc) = U := ⟨_, rfl⟩
  have hUU : U.heap[wQ.heap.size]? = some (nrO y) := by rw [← hU]; exact set1 (set1 (set1 (set1 hR1 _) _) _) _
  have hqw : w.heap.size ≤ wQ.heap.size := by omega
  have hbU : Below w.heap.size w U := by rw [← hU]; exact (((h1.setCell hqw _).setCell hqw _).setCell hqw _).setCell hqw _
  obtain ⟨⟨u0, u1, u2, u3⟩, _⟩ := nr_box hUU
  rw [hU]
  clear hU hUU h1 hR1
  (try simp only [Exit.inBlock, Exit.then])
  refine bodyPost_ret (v := .tuple #[nrV y, .bool true]) (by simp [results, Tryz.results19, go_sem, u0, u1, u2, u3]) rfl ?_
  exact ⟨rfl, hbU⟩

set_option maxRecDepth 100000 in
set_option maxHeartbeats 1600000 in
theorem isNode_found {w : World} {nb noff nl nc : Nat} {no : Option Addr} {ns : List NR} (hd : NdE w nb noff nl no ns) (ev : Value) {z : Int} {j : Nat} {y : NR} (hj : ns[j]? = some y) (hz : idxE z ns 0 = (j : Int)) :
    Calls Tryz.prog 40 #[plV (.slice no nl nc) ev, .int .i64 z] w fun e w' => e = .returned (.bool true) ∧ Below w.heap.size w w' := by
  obtain ⟨wP, hwP⟩ : ∃ wP, w.alloc (.cells #[.slice no nl nc, ev] 32) = wP := ⟨_, rfl⟩
  have hbP : Below w.heap.size w wP := by rw [← hwP]; exact (Below.refl _ w).alloc (Nat.le_refl _) _
  have hhP : wP.heap[w.heap.size]? = some (.cells #[.slice no nl nc, ev] 32 (0, 0)) := by rw [← hwP]; exact World.alloc_heap_new w _
  obtain ⟨c0, c1, _, _⟩ := box2_cell hhP
  have HN := hid (planNode_found (nc := nc) (hd.below hbP) ev hj hz)
  have HB := hid hbP
  clear hd hbP hhP
  go_enter Tryz.func40, Tryz.ntmps40
  go_wp2_with (go_at_call 19; refine HN.out.mono ?_; rintro e w1 ⟨rfl, hb1⟩; have H1 := hid (HB.out.trans (hb1.mono HB.out.size)); clear HN hb1)
  go_ret
  exact ⟨rfl, by first | exact H1.out | exact H1.out.alloc H1.out.size _⟩
end Go.Proofs.YtkdnkmheidbfdaaGreat

namespace Go.Proofs.YtkdnkmheidbfdaaGreat
open Go.RowKit Go.Shelf Go.Sort Go.Maps

set_option maxRecDepth 100000 in
set_option maxHeartbeats 1600000 in
theorem indexEdge_nil (ec : Nat) (f : Value) (w : World) :
    Calls Tryz.prog 71 #[.slice none 0 ec, f] w fun e w' => e = .returned (.int .i64 (-1)) ∧ w' = w := by
  go_enter Tryz.func71, Tryz.ntmps71
  go_wp2
  go_loopw [5, 8] (fun _ iv wr => iv = .int .i64 0 ∧ wr = w) (fun _ _ _ => 0)
  case atStart => exact ⟨rfl, rfl⟩
  case round =>
    obtain ⟨rfl, rfl⟩ := hrel
    go_wp2
    go_ret
    exact ⟨rfl, rfl⟩
set_option maxRecDepth 100000 in
set_option maxHeartbeats 1600000 in
theorem containsEdge_nil (ec : Nat) (f : Value) (w : World) :
    Calls Tryz.prog 41 #[.slice none 0 ec, f] w fun e w' => e = .returned (.bool false) ∧ w' = w := by
  have HI := hid (indexEdge_nil ec f w)
  go_enter Tryz.func41, Tryz.ntmps41
  go_wp2_with (go_at_call 71; refine HI.out.mono ?_; rintro e w1 ⟨rfl, hw⟩; rw [hw]; clear hw w1)
  go_ret
  exact ⟨rfl, rfl⟩

set_option maxRecDepth 100000 in
set_option maxHeartbeats 1600000 in
theorem isolated_bare {w : World} {nb noff nl nc ec : Nat} {no : Option Addr} {ns : List NR} (hd : NdE w nb noff nl no ns) {z : Int} {j : Nat} {y : NR} (hj : ns[j]? = some y) (hz : idxE z ns 0 = (j : Int)) :
    Calls Tryz.prog 17 #[plV (.slice no nl nc) (.slice none 0 ec), .int .i64 z] w fun e w' => e = .returned (.bool true) ∧ Below w.heap.size w w' := by
  obtain ⟨wP, hwP⟩ : ∃ wP, w.alloc (.cells #[.slice no nl nc, .slice none 0 ec] 32) = wP := ⟨_, rfl⟩
  have hbP : Below w.heap.size w wP := by rw [← hwP]; exact (Below.refl _ w).alloc (Nat.le_refl _) _
  have hhP : wP.heap[w.heap.size]? = some (.cells #[.slice no nl nc, .slice none 0 ec] 32 (0, 0)) := by rw [← hwP]; exact World.alloc_heap_new w _
  obtain ⟨wQ, hwQ⟩ : ∃ wQ, wP.alloc (.cells #[.int .i64 z] 3) = wQ := ⟨_, rfl⟩
  have hbQ : Below wP.heap.size wP wQ := by rw [← hwQ]; exact (Below.refl _ wP).alloc (Nat.le_refl _) _
  have hhQ : wQ.heap[wP.heap.size]? = some (.cells #[.int .i64 z] 3 (0, 0)) := by rw [← hwQ]; exact World.alloc_heap_new wP _
  have hhP' := (hbQ.block _ (lt_of_heap hhP)).trans hhP
  have hbw : Below w.heap.size w wQ := hbP.trans (hbQ.mono hbP.size)
  obtain ⟨c0, c1, _, _⟩ := box2_cell hhP'
  have q0 : wQ.cell? ⟨wP.heap.size, 0, none⟩ = some (.int .i64 z) := by simp [World.cell?, hhQ]
  have HN := hid (isNode_found (nc := nc) (hd.below hbw) (.slice none 0 ec) hj hz)
  have HC := hid (fun f W => containsEdge_nil ec f W)
  have HB := hid hbw
  clear hd hbP hhP hbQ hhQ hhP' hbw
  go_enter Tryz.func17, Tryz.ntmps17
  go_wp2_with (first
    | (go_at_call 40; refine HN.out.mono ?_; rintro e w1 ⟨rfl, hb1⟩; have d0 := cell_below c0 hb1 (lt_of_cell c0); have d1 := cell_below c1 hb1 (lt_of_cell c1); have H1 := hid (HB.out.trans (hb1.mono HB.out.size)); clear HN hb1)
    | (go_at_call 41; refine (HC.out _ _).mono ?_; rintro e w2 ⟨rfl, hw⟩; rw [hw]; clear hw w2))
  go_ret
  exact ⟨rfl, H1.out⟩

theorem unL_none : unL [] = 1 := by
  obtain ⟨h1, _, _, h4⟩ := unL_spec []
  have : (([] : List Int).length : Int) = 0 := rfl
  omega
theorem unL_13 : unL [1, 3] = 2 := by
  obtain ⟨h1, h2, h3, h4⟩ := unL_spec [1, 3]
  have hl : (([1, 3] : List Int).length : Int) = 2 := rfl
  have a : unL [1, 3] ≠ 1 := fun e => h3 (by rw [e]; simp)
  have b : unL [1, 3] ≠ 3 := fun e => h3 (by rw [e]; simp)
  omega

set_option maxRecDepth 100000 in
set_option maxHeartbeats 3200000 in
theorem topoAwake_any (w : World) :
    Calls Tryz.prog 7 #[] w fun e w' => e = .returned (.bool true) ∧ Below w.heap.size w w' := by
  have hd0 : NdE w 0 0 0 none [] := ⟨rfl, by omega, fun k x h => by simp at h, fun h => by omega⟩
  have HA := hid (addNode_bare (nc := 0) (ec := 0) hd0 (fun _ => rfl) (fun x h => by simp at h) (fun i j x y _ h => by simp at h) (qx := 1) (qy := 1) (by decide) rfl (by omega) (fun y h => by simp at h))
  rw [show unL (([] : List NR).map (·.id)) = 1 from unL_none, List.nil_append] at HA
  clear hd0
  go_enter Tryz.func7, Tryz.ntmps7
  go_upto_region 2 with (go_at_call 6; refine HA.out.mono ?_; rintro e w1 ⟨⟨v, rfl, hv⟩, hb1⟩; obtain ⟨g, vo, vc, hve, hde⟩ := hv.nde (by simp); subst hve; obtain rfl := hde.at' (by simp); have HV := hid (And.intro hde hb1); clear HA hv hb1 hde)
  obtain ⟨hde, hb1⟩ := HV.out
  obtain ⟨W2, hW2⟩ : ∃ W2, w1.alloc (.cells #[.slice (some ⟨g, 0, none⟩) 1 vc, .slice none 0 0] 32) = W2 := ⟨_, rfl⟩
  have hb2 : Below w1.heap.size w1 W2 := by rw [← hW2]; exact (Below.refl _ w1).alloc (Nat.le_refl _) _
  have hh2 : W2.heap[w1.heap.size]? = some (.cells #[.slice (some ⟨g, 0, none⟩) 1 vc, .slice none 0 0] 32 (0, 0)) := by rw [← hW2]; exact World.alloc_heap_new w1 _
  rw [hW2]
  have hd2 := hde.below hb2
  obtain ⟨t0, t1, _, _⟩ := box2_cell hh2
  obtain ⟨y0, y1, y2, y3⟩ := hd2.cells 0 _ rfl
  simp only [Nat.zero_mul, Nat.zero_add] at y0 y1 y2 y3
  obtain ⟨W3, hW3⟩ : ∃ W3, W2.alloc (.cells #[.int .i64 1, .int .i64 3] 3) = W3 := ⟨_, rfl⟩
  have hb3 : Below W2.heap.size W2 W3 := by rw [← hW3]; exact (Below.refl _ W2).alloc (Nat.le_refl _) _
  have hh3 : W3.heap[W2.heap.size]? = some (.cells #[.int .i64 1, .int .i64 3] 3 (0, 0)) := by rw [← hW3]; exact World.alloc_heap_new W2 _
  have hnu : Nums W3 (.slice (some ⟨W2.heap.size, 0, none⟩) 2 2) [1, 3] := ⟨_, _, rfl, fun _ => ⟨_, _, rfl, fun k z hz => by
    match k, hz with
    | 0, hz => simp at hz; subst hz; simp [World.cell?, hh3]
    | 1, hz => simp at hz; subst hz; simp [World.cell?, hh3]
    | k + 2, hz => simp at hz⟩⟩
  have HU := hid (unused_any hnu (by simp))
  rw [unL_13] at HU
  have HD := hid (And.intro (hd2.below hb3) (And.intro (cell_below t0 hb3 (lt_of_cell t0)) (And.intro (cell_below t1 hb3 (lt_of_cell t1)) (show Below w.heap.size w W3 from hb1.trans ((hb2.trans (hb3.mono hb2.size)).mono hb1.size)))))
  clear hb1 hde hb2 hh2 hd2 hb3 hh3 hnu hW2 HV
  go_wp2_with (first
    | (go_at_call 13; refine HU.out.mono ?_; rintro e w4 ⟨rfl, hb4⟩; have s0 := cell_below HD.out.2.1 hb4 (lt_of_cell HD.out.2.1); have s1 := cell_below HD.out.2.2.1 hb4 (lt_of_cell HD.out.2.2.1); have HI := hid (isolated_bare (nc := vc) (ec := 0) (HD.out.1.below hb4) (z := 1) (j := 0) rfl rfl); have H4 := hid (HD.out.2.2.2.trans (hb4.mono HD.out.2.2.2.size)); clear HU hb4)
    | (go_at_call 17; refine HI.out.mono ?_; rintro e w5 ⟨rfl, hb5⟩; have H5 := hid (H4.out.trans (hb5.mono H4.out.size)); clear HI hb5))
  go_ret
  exact ⟨rfl, H5.out⟩
end Go.Proofs.YtkdnkmheidbfdaaGreat
