/-
  Layer 17: topo's MoveNode.
-/
import Derived.Test.YtkdnkmheidbfdaaGreatNB
import Derived.Test.YtkdnkmheidbfdaaGreatN6
namespace Go.Proofs.YtkdnkmheidbfdaaGreat
open Go.RowKit Go.Shelf Go.Sort Go.Maps

set_option maxRecDepth 100000 in
set_option maxHeartbeats 6400000 in
theorem moveNode_taken {w : World} {b off n cap : Nat} {ao : Option Addr} {xs : List ER} {ls : List (List Pp)} (h : PlE w b off n ao xs ls) (hn1 : 1 ≤ n) {nb noff nl nc j : Nat} {no : Option Addr} {ns : List NR} (hd : NdE w nb noff nl no ns) (h0 : nl = 0 → no = none) (h2 : 2 ≤ nl) {z : Int} {y : NR} (hj : ns[j]? = some y) (hz : idxE z ns 0 = (j : Int)) (hno : ∀ x ∈ xs, x.st ≠ z ∧ x.en ≠ z) (hi : ∀ x ∈ ns, -1000000 ≤ x.id ∧ x.id ≤ 1000000) (hr2 : RiseN (ns.eraseIdx j)) {M : Nat} (hPl : PlF xs ls M) {qx qy F : Int} (hq : okP qx qy = true) (hF : takenF (ns.eraseIdx j) n ls (qx, qy) = false → FaceIs xs ls (qx, qy) M F) (ht : takenF (ns.eraseIdx j) n ls (qx, qy) = true) :
    Calls Tryz.prog 8 #[plV (.slice no nl nc) (.slice ao n cap), .int .i64 z, pv qx qy] w fun e w' => e = .returned (.tuple #[plV (.slice none 0 0) (.slice none 0 0), .int .i64 26]) ∧ Below w.heap.size w w' := by
  obtain ⟨wP, hwP⟩ : ∃ wP, w.alloc (.cells #[.slice no nl nc, .slice ao n cap] 32) = wP := ⟨_, rfl⟩
  have hbP : Below w.heap.size w wP := by rw [← hwP]; exact (Below.refl _ w).alloc (Nat.le_refl _) _
  have hhP : wP.heap[w.heap.size]? = some (.cells #[.slice no nl nc, .slice ao n cap] 32 (0, 0)) := by rw [← hwP]; exact World.alloc_heap_new w _
  obtain ⟨wQ, hwQ⟩ : ∃ wQ, wP.alloc (.cells #[.int .i64 qx, .int .i64 qy] 23) = wQ := ⟨_, rfl⟩
  have hbQ : Below wP.heap.size wP wQ := by rw [← hwQ]; exact (Below.refl _ wP).alloc (Nat.le_refl _) _
  have hhQ : wQ.heap[wP.heap.size]? = some (.cells #[.int .i64 qx, .int .i64 qy] 23 (0, 0)) := by rw [← hwQ]; exact World.alloc_heap_new wP _
  obtain ⟨wR, hwR⟩ : ∃ wR, wQ.alloc (.cells #[.slice none 0 0, .slice none 0 0] 32) = wR := ⟨_, rfl⟩
  have hbR : Below wQ.heap.size wQ wR := by rw [← hwR]; exact (Below.refl _ wQ).alloc (Nat.le_refl _) _
  have hhR : wR.heap[wQ.heap.size]? = some (.cells #[.slice none 0 0, .slice none 0 0] 32 (0, 0)) := by rw [← hwR]; exact World.alloc_heap_new wQ _
  have l1 : w.heap.size < wP.heap.size := lt_of_heap hhP
  have l2 : wP.heap.size < wQ.heap.size := lt_of_heap hhQ
  have l3 : wQ.heap.size < wR.heap.size := lt_of_heap hhR
  have hhQ' := (hbR.block _ l2).trans hhQ
  have hhP' := (hbR.block _ (by omega)).trans ((hbQ.block _ l1).trans hhP)
  have hbw : Below w.heap.size w wR := hbP.trans ((hbQ.mono hbP.size).trans (hbR.mono (Nat.le_trans hbP.size hbQ.size)))
  have hB3 := hid (And.intro hhP' (And.intro hhQ' (And.intro hhR (And.intro hbw (And.intro l1 (And.intro l2 l3))))))
  obtain ⟨c0, c1, _, _⟩ := box2_cell hhP'
  have hlen := hd.len
  have hxl := h.len
  have hplc := h.plc
  have hjn : j < nl := by rw [← hlen]; exact (List.getElem?_eq_some_iff.1 hj).1
  have hel : (ns.eraseIdx j).length = nl - 1 := by rw [List.length_eraseIdx_of_lt (by omega), hlen]
  have hk1000 : nl - 1 ≤ 1000 := by have := hd.few; omega
  have HRM := hid (remNode_e (cap := cap) (nc := nc) (h.below hbw) hn1 (hd.below hbw) h0 hj hz hno)
  have HOK := hid (fun W => ok_any qx qy W)
  rw [hq] at HOK
  have HFA := hid (show ∀ (W : World) (B : Nat) (vo eo : Option Addr) (vc ec : Nat) (ys : List ER), PlO W B (.slice vo (nl - 1) vc) (.slice eo n ec) (ns.eraseIdx j) ys ls → ys.map bareF = xs.map bareF → Calls Tryz.prog 12 #[plV (.slice vo (nl - 1) vc) (.slice eo n ec), pv qx qy] W fun e w' => e = .returned (.tuple #[.int .i64 (if takenF (ns.eraseIdx j) n ls (qx, qy) then 0 else F), .bool !(takenF (ns.eraseIdx j) n ls (qx, qy))]) ∧ Below W.heap.size W w' from fun W B vo eo vc ec ys hpo hys => by
    have hyl : ys.length = n := by rw [← hxl]; simpa using congrArg List.length hys
    obtain ⟨b2, ao2, cap2, nb2, no2, nc2, e1, e2, hE, hN⟩ := hpo.ends (hplc.same hys) (by omega) (by rw [hel]; exact hk1000)
    injection e1 with e1a e1b e1c
    injection e2 with e2a e2b e2c
    subst e1a e1c e2a e2c
    rw [hyl] at hE
    rw [hel] at hN
    have hPF := hPl.same hys
    exact topoFaceAt_e (cap := ec) (nc := vc) hE hN (fun e => by omega) (fun x hx => hi x (List.mem_of_mem_eraseIdx hx)) hr2 hPF.pts hPF.out hPF.few qx qy (fun ht => (hF ht).same hys))
  rw [ht] at HFA
  clear h hd hF hPl hi hr2 hj hz hno ht hq hbP hhP hbQ hhQ hbR hhR hhQ' hhP' hbw hplc l1 l2 l3
  go_enter Tryz.func8, Tryz.ntmps8
  go_upto_region 2 with (go_at_call 18; refine HRM.out.mono ?_; rintro e w1 ⟨⟨v, u, ys, rfl, hpo, hys⟩, hb1⟩; obtain ⟨vo, vc, hve, _, _⟩ := hpo.nodes.form; obtain ⟨eo, ec, hue, _, _⟩ := hpo.edges.form; rw [hel] at hve; rw [(show ys.length = n from by rw [← hxl]; simpa using congrArg List.length hys)] at hue; subst hve; subst hue; have H1 := hid (And.intro hpo (And.intro hys hb1)); clear HRM hpo hys hb1)
  obtain ⟨hpo, hys, hb1⟩ := H1.out
  obtain ⟨hhP, hhQ, hhR, hbw, l1, l2, l3⟩ := hB3.out
  obtain ⟨W2, hW2⟩ : ∃ W2, w1.alloc (.cells #[.slice vo (nl - 1) vc, .slice eo n ec] 32) = W2 := ⟨_, rfl⟩
  have hb2 : Below w1.heap.size w1 W2 := by rw [← hW2]; exact (Below.refl _ w1).alloc (Nat.le_refl _) _
  have hh2 : W2.heap[w1.heap.size]? = some (.cells #[.slice vo (nl - 1) vc, .slice eo n ec] 32 (0, 0)) := by rw [← hW2]; exact World.alloc_heap_new w1 _
  rw [hW2]
  have hbW : Below wR.heap.size wR W2 := hb1.trans (hb2.mono hb1.size)
  have hlW : w1.heap.size < W2.heap.size := lt_of_heap hh2
  have hls := hbW.size
  have BX : ∀ W, Below W2.heap.size W2 W → (W.cell? ⟨w.heap.size, 0, none⟩ = some (.slice no nl nc) ∧ W.cell? ⟨w.heap.size, 1, none⟩ = some (.slice ao n cap)) ∧ (W.cell? ⟨wP.heap.size, 0, none⟩ = some (.int .i64 qx) ∧ W.cell? ⟨wP.heap.size, 1, none⟩ = some (.int .i64 qy)) ∧ W.heap[wQ.heap.size]? = some (.cells #[.slice none 0 0, .slice none 0 0] 32 (0, 0)) ∧ (W.cell? ⟨w1.heap.size, 0, none⟩ = some (.slice vo (nl - 1) vc) ∧ W.cell? ⟨w1.heap.size, 1, none⟩ = some (.slice eo n ec)) := fun W hW => by
    have q1 := (hW.block w.heap.size (by omega)).trans ((hbW.block _ (by omega)).trans hhP)
    have q2 := (hW.block wP.heap.size (by omega)).trans ((hbW.block _ (by omega)).trans hhQ)
    have q3 := (hW.block wQ.heap.size (by omega)).trans ((hbW.block _ (by omega)).trans hhR)
    have q4 := (hW.block w1.heap.size (by omega)).trans hh2
    exact ⟨⟨(box2_cell q1).1, (box2_cell q1).2.1⟩, ⟨by simp [World.cell?, q2], by simp [World.cell?, q2]⟩, q3, ⟨(box2_cell q4).1, (box2_cell q4).2.1⟩⟩
  have HPO := hid (fun W (hW : Below W2.heap.size W2 W) => hpo.below (hb2.trans (hW.mono (Nat.le_of_lt hlW))))
  have HYS := hid hys
  have HBW := hid (hbw.trans (hbW.mono hbw.size))
  have HX := hid BX
  obtain ⟨⟨d0, d1⟩, ⟨p0, p1⟩, _, ⟨s0, s1⟩⟩ := BX W2 (Below.refl _ _)
  have hwRl : w.heap.size ≤ wR.heap.size := by omega
  clear H1 hpo hys hb1 hhP hhQ hhR hbw hW2 hb2 hh2 hbW BX c0 c1
  go_wp2_with (first
    | (go_at_call 11; refine (HOK.out _).mono ?_; rintro e w3 ⟨rfl, hb3⟩; have H3 := hid hb3; clear d0 d1 p0 p1 s0 s1; obtain ⟨⟨d0, d1⟩, ⟨p0, p1⟩, _, ⟨s0, s1⟩⟩ := HX.out _ hb3; clear HOK hb3)
    | (go_at_call 12; refine (HFA.out _ _ _ _ _ _ _ (HPO.out _ H3.out) HYS.out).mono ?_; rintro e w4 ⟨rfl, hb4⟩; have H4 := hid (H3.out.trans (hb4.mono H3.out.size)); clear d0 d1 p0 p1 s0 s1; obtain ⟨⟨d0, d1⟩, ⟨p0, p1⟩, hZ0, ⟨s0, s1⟩⟩ := HX.out _ H4.out; obtain ⟨t0, t1, t2, t3⟩ := box2_cell hZ0; clear HFA hb4 hZ0))
  obtain ⟨_, _, hZ, _⟩ := HX.out _ H4.out
  have hbV0 := HBW.out.trans (H4.out.mono HBW.out.size)
  have hqw : w.heap.size ≤ wQ.heap.size := by omega
  obtain ⟨U, hU⟩ : ∃ U, (w4.setCell ⟨wQ.heap.size, 0, none⟩ (.slice none 0 0)).setCell ⟨wQ.heap.size, 1, none⟩ (.slice none 0 0) = U := ⟨_, rfl⟩
  have hUU : U.heap[wQ.heap.size]? = some (.cells #[.slice none 0 0, .slice none 0 0] 32 (0, 0)) := by rw [← hU]; exact set1 (set1 hZ _) _
  have hbU : Below w.heap.size w U := by rw [← hU]; exact (hbV0.setCell hqw _).setCell hqw _
  obtain ⟨u0, u1, _, _⟩ := box2_cell hUU
  rw [hU]
  clear hU hUU
  (try simp only [Exit.inBlock, Exit.then])
  refine bodyPost_ret (v := .tuple #[plV (.slice none 0 0) (.slice none 0 0), .int .i64 26]) (by simp [results, Tryz.results8, go_sem, u0, u1]) rfl ?_
  exact ⟨rfl, hbU⟩

set_option maxRecDepth 100000 in
set_option maxHeartbeats 6400000 in
theorem moveNode_other {w : World} {b off n cap : Nat} {ao : Option Addr} {xs : List ER} {ls : List (List Pp)} (h : PlE w b off n ao xs ls) (hn1 : 1 ≤ n) {nb noff nl nc j : Nat} {no : Option Addr} {ns : List NR} (hd : NdE w nb noff nl no ns) (h0 : nl = 0 → no = none) (h2 : 2 ≤ nl) {z : Int} {y : NR} (hj : ns[j]? = some y) (hz : idxE z ns 0 = (j : Int)) (hno : ∀ x ∈ xs, x.st ≠ z ∧ x.en ≠ z) (hi : ∀ x ∈ ns, -1000000 ≤ x.id ∧ x.id ≤ 1000000) (hr2 : RiseN (ns.eraseIdx j)) {M : Nat} (hPl : PlF xs ls M) {qx qy F : Int} (hq : okP qx qy = true) (hF : takenF (ns.eraseIdx j) n ls (qx, qy) = false → FaceIs xs ls (qx, qy) M F) (ht : takenF (ns.eraseIdx j) n ls (qx, qy) = false) (hne : y.fc ≠ F) :
    Calls Tryz.prog 8 #[plV (.slice no nl nc) (.slice ao n cap), .int .i64 z, pv qx qy] w fun e w' => e = .returned (.tuple #[plV (.slice none 0 0) (.slice none 0 0), .int .i64 24]) ∧ Below w.heap.size w w' := by
  obtain ⟨wP, hwP⟩ : ∃ wP, w.alloc (.cells #[.slice no nl nc, .slice ao n cap] 32) = wP := ⟨_, rfl⟩
  have hbP : Below w.heap.size w wP := by rw [← hwP]; exact (Below.refl _ w).alloc (Nat.le_refl _) _
  have hhP : wP.heap[w.heap.size]? = some (.cells #[.slice no nl nc, .slice ao n cap] 32 (0, 0)) := by rw [← hwP]; exact World.alloc_heap_new w _
  obtain ⟨wQ, hwQ⟩ : ∃ wQ, wP.alloc (.cells #[.int .i64 qx, .int .i64 qy] 23) = wQ := ⟨_, rfl⟩
  have hbQ : Below wP.heap.size wP wQ := by rw [← hwQ]; exact (Below.refl _ wP).alloc (Nat.le_refl _) _
  have hhQ : wQ.heap[wP.heap.size]? = some (.cells #[.int .i64 qx, .int .i64 qy] 23 (0, 0)) := by rw [← hwQ]; exact World.alloc_heap_new wP _
  obtain ⟨wR, hwR⟩ : ∃ wR, wQ.alloc (.cells #[.slice none 0 0, .slice none 0 0] 32) = wR := ⟨_, rfl⟩
  have hbR : Below wQ.heap.size wQ wR := by rw [← hwR]; exact (Below.refl _ wQ).alloc (Nat.le_refl _) _
  have hhR : wR.heap[wQ.heap.size]? = some (.cells #[.slice none 0 0, .slice none 0 0] 32 (0, 0)) := by rw [← hwR]; exact World.alloc_heap_new wQ _
  have l1 : w.heap.size < wP.heap.size := lt_of_heap hhP
  have l2 : wP.heap.size < wQ.heap.size := lt_of_heap hhQ
  have l3 : wQ.heap.size < wR.heap.size := lt_of_heap hhR
  have hhQ' := (hbR.block _ l2).trans hhQ
  have hhP' := (hbR.block _ (by omega)).trans ((hbQ.block _ l1).trans hhP)
  have hbw : Below w.heap.size w wR := hbP.trans ((hbQ.mono hbP.size).trans (hbR.mono (Nat.le_trans hbP.size hbQ.size)))
  have hB3 := hid (And.intro hhP' (And.intro hhQ' (And.intro hhR (And.intro hbw (And.intro l1 (And.intro l2 l3))))))
  obtain ⟨c0, c1, _, _⟩ := box2_cell hhP'
  have hlen := hd.len
  have hxl := h.len
  have hplc := h.plc
  have hjn : j < nl := by rw [← hlen]; exact (List.getElem?_eq_some_iff.1 hj).1
  have hel : (ns.eraseIdx j).length = nl - 1 := by rw [List.length_eraseIdx_of_lt (by omega), hlen]
  have hk1000 : nl - 1 ≤ 1000 := by have := hd.few; omega
  have HRM := hid (remNode_e (cap := cap) (nc := nc) (h.below hbw) hn1 (hd.below hbw) h0 hj hz hno)
  have HOK := hid (fun W => ok_any qx qy W)
  rw [hq] at HOK
  have HFA := hid (show ∀ (W : World) (B : Nat) (vo eo : Option Addr) (vc ec : Nat) (ys : List ER), PlO W B (.slice vo (nl - 1) vc) (.slice eo n ec) (ns.eraseIdx j) ys ls → ys.map bareF = xs.map bareF → Calls Tryz.prog 12 #[plV (.slice vo (nl - 1) vc) (.slice eo n ec), pv qx qy] W fun e w' => e = .returned (.tuple #[.int .i64 (if takenF (ns.eraseIdx j) n ls (qx, qy) then 0 else F), .bool !(takenF (ns.eraseIdx j) n ls (qx, qy))]) ∧ Below W.heap.size W w' from fun W B vo eo vc ec ys hpo hys => by
    have hyl : ys.length = n := by rw [← hxl]; simpa using congrArg List.length hys
    obtain ⟨b2, ao2, cap2, nb2, no2, nc2, e1, e2, hE, hN⟩ := hpo.ends (hplc.same hys) (by omega) (by rw [hel]; exact hk1000)
    injection e1 with e1a e1b e1c
    injection e2 with e2a e2b e2c
    subst e1a e1c e2a e2c
    rw [hyl] at hE
    rw [hel] at hN
    have hPF := hPl.same hys
    exact topoFaceAt_e (cap := ec) (nc := vc) hE hN (fun e => by omega) (fun x hx => hi x (List.mem_of_mem_eraseIdx hx)) hr2 hPF.pts hPF.out hPF.few qx qy (fun ht => (hF ht).same hys))
  have HPN := hid (fun W (hW : Below w.heap.size w W) => planNode_found (nc := nc) (hd.below hW) (.slice ao n cap) hj hz)
  rw [ht] at HFA
  simp only [Bool.false_eq_true, if_false] at HFA
  have hfF : (y.fc == F) = false := by rw [beq_eq_false_iff_ne]; exact hne
  clear h hd hF hPl hi hr2 hj hz hno ht hq hbP hhP hbQ hhQ hbR hhR hhQ' hhP' hbw hplc hne l1 l2 l3
  go_enter Tryz.func8, Tryz.ntmps8
  go_upto_region 2 with (go_at_call 18; refine HRM.out.mono ?_; rintro e w1 ⟨⟨v, u, ys, rfl, hpo, hys⟩, hb1⟩; obtain ⟨vo, vc, hve, _, _⟩ := hpo.nodes.form; obtain ⟨eo, ec, hue, _, _⟩ := hpo.edges.form; rw [hel] at hve; rw [(show ys.length = n from by rw [← hxl]; simpa using congrArg List.length hys)] at hue; subst hve; subst hue; have H1 := hid (And.intro hpo (And.intro hys hb1)); clear HRM hpo hys hb1)
  obtain ⟨hpo, hys, hb1⟩ := H1.out
  obtain ⟨hhP, hhQ, hhR, hbw, l1, l2, l3⟩ := hB3.out
  obtain ⟨W2, hW2⟩ : ∃ W2, w1.alloc (.cells #[.slice vo (nl - 1) vc, .slice eo n ec] 32) = W2 := ⟨_, rfl⟩
  have hb2 : Below w1.heap.size w1 W2 := by rw [← hW2]; exact (Below.refl _ w1).alloc (Nat.le_refl _) _
  have hh2 : W2.heap[w1.heap.size]? = some (.cells #[.slice vo (nl - 1) vc, .slice eo n ec] 32 (0, 0)) := by rw [← hW2]; exact World.alloc_heap_new w1 _
  rw [hW2]
  have hbW : Below wR.heap.size wR W2 := hb1.trans (hb2.mono hb1.size)
  have hlW : w1.heap.size < W2.heap.size := lt_of_heap hh2
  have hls := hbW.size
  have BX : ∀ W, Below W2.heap.size W2 W → (W.cell? ⟨w.heap.size, 0, none⟩ = some (.slice no nl nc) ∧ W.cell? ⟨w.heap.size, 1, none⟩ = some (.slice ao n cap)) ∧ (W.cell? ⟨wP.heap.size, 0, none⟩ = some (.int .i64 qx) ∧ W.cell? ⟨wP.heap.size, 1, none⟩ = some (.int .i64 qy)) ∧ W.heap[wQ.heap.size]? = some (.cells #[.slice none 0 0, .slice none 0 0] 32 (0, 0)) ∧ (W.cell? ⟨w1.heap.size, 0, none⟩ = some (.slice vo (nl - 1) vc) ∧ W.cell? ⟨w1.heap.size, 1, none⟩ = some (.slice eo n ec)) := fun W hW => by
    have q1 := (hW.block w.heap.size (by omega)).trans ((hbW.block _ (by omega)).trans hhP)
    have q2 := (hW.block wP.heap.size (by omega)).trans ((hbW.block _ (by omega)).trans hhQ)
    have q3 := (hW.block wQ.heap.size (by omega)).trans ((hbW.block _ (by omega)).trans hhR)
    have q4 := (hW.block w1.heap.size (by omega)).trans hh2
    exact ⟨⟨(box2_cell q1).1, (box2_cell q1).2.1⟩, ⟨by simp [World.cell?, q2], by simp [World.cell?, q2]⟩, q3, ⟨(box2_cell q4).1, (box2_cell q4).2.1⟩⟩
  have HPO := hid (fun W (hW : Below W2.heap.size W2 W) => hpo.below (hb2.trans (hW.mono (Nat.le_of_lt hlW))))
  have HYS := hid hys
  have HBW := hid (hbw.trans (hbW.mono hbw.size))
  have HX := hid BX
  obtain ⟨⟨d0, d1⟩, ⟨p0, p1⟩, _, ⟨s0, s1⟩⟩ := BX W2 (Below.refl _ _)
  have hwRl : w.heap.size ≤ wR.heap.size := by omega
  clear H1 hpo hys hb1 hhP hhQ hhR hbw hW2 hb2 hh2 hbW BX c0 c1
  go_wp2_with (first
    | (go_at_call 11; refine (HOK.out _).mono ?_; rintro e w3 ⟨rfl, hb3⟩; have H3 := hid hb3; clear d0 d1 p0 p1 s0 s1; obtain ⟨⟨d0, d1⟩, ⟨p0, p1⟩, _, ⟨s0, s1⟩⟩ := HX.out _ hb3; clear HOK hb3)
    | (go_at_call 12; refine (HFA.out _ _ _ _ _ _ _ (HPO.out _ H3.out) HYS.out).mono ?_; rintro e w4 ⟨rfl, hb4⟩; have H4 := hid (H3.out.trans (hb4.mono H3.out.size)); clear d0 d1 p0 p1 s0 s1; obtain ⟨⟨d0, d1⟩, ⟨p0, p1⟩, hZ0, ⟨s0, s1⟩⟩ := HX.out _ H4.out; obtain ⟨t0, t1, t2, t3⟩ := box2_cell hZ0; clear HFA hb4 hZ0)
    | (go_at_call 19; refine (HPN.out _ (HBW.out.trans (H4.out.mono HBW.out.size))).mono ?_; rintro e w5 ⟨rfl, hb5⟩; have H5 := hid (H4.out.trans (hb5.mono H4.out.size)); clear d0 d1 p0 p1 s0 s1 t0 t1 t2 t3; have hbA := H5.out.alloc H5.out.size (nrO y); obtain ⟨⟨d0, d1⟩, ⟨p0, p1⟩, hZ0, ⟨s0, s1⟩⟩ := HX.out _ hbA; obtain ⟨t0, t1, t2, t3⟩ := box2_cell hZ0; obtain ⟨⟨y0, y1, y2, y3⟩, yf⟩ := nr_box (World.alloc_heap_new w5 (nrO y)); have HZ := hid hZ0; have HA := hid hbA; have e1 : ¬ w5.heap.size = w1.heap.size := (by have := H5.out.size; omega); have e2 : ¬ w1.heap.size = w5.heap.size := (fun e => e1 e.symm); have e3 : ¬ w5.heap.size = wP.heap.size := (by have := H5.out.size; omega); have e4 : ¬ wP.heap.size = w5.heap.size := (fun e => e3 e.symm); have e5 : ¬ w5.heap.size = wQ.heap.size := (by have := H5.out.size; omega); have e6 : ¬ wQ.heap.size = w5.heap.size := (fun e => e5 e.symm); clear HPN hb5 hZ0 hbA))
  obtain ⟨_, _, hZ, _⟩ := HX.out _ HA.out
  have hbV0 := HBW.out.trans (HA.out.mono HBW.out.size)
  have hqw : w.heap.size ≤ wQ.heap.size := by omega
  obtain ⟨U, hU⟩ : ∃ U, ((w5.alloc (nrO y)).setCell ⟨wQ.heap.size, 0, none⟩ (.slice none 0 0)).setCell ⟨wQ.heap.size, 1, none⟩ (.slice none 0 0) = U := ⟨_, rfl⟩
  have hUU : U.heap[wQ.heap.size]? = some (.cells #[.slice none 0 0, .slice none 0 0] 32 (0, 0)) := by rw [← hU]; exact set1 (set1 hZ _) _
  have hbU : Below w.heap.size w U := by rw [← hU]; exact (hbV0.setCell hqw _).setCell hqw _
  obtain ⟨u0, u1, _, _⟩ := box2_cell hUU
  rw [hU]
  clear hU hUU
  (try simp only [Exit.inBlock, Exit.then])
  refine bodyPost_ret (v := .tuple #[plV (.slice none 0 0) (.slice none 0 0), .int .i64 24]) (by simp [results, Tryz.results8, go_sem, u0, u1]) rfl ?_
  exact ⟨rfl, hbU⟩

set_option maxRecDepth 100000 in
set_option maxHeartbeats 6400000 in
theorem moveNode_ok {w : World} {b off n cap : Nat} {ao : Option Addr} {xs : List ER} {ls : List (List Pp)} (h : PlE w b off n ao xs ls) (hn1 : 1 ≤ n) {nb noff nl nc j : Nat} {no : Option Addr} {ns : List NR} (hd : NdE w nb noff nl no ns) (h0 : nl = 0 → no = none) (h2 : 2 ≤ nl) {z : Int} {y : NR} (hj : ns[j]? = some y) (hz : idxE z ns 0 = (j : Int)) (hno : ∀ x ∈ xs, x.st ≠ z ∧ x.en ≠ z) (hi : ∀ x ∈ ns, -1000000 ≤ x.id ∧ x.id ≤ 1000000) (hr2 : RiseN (ns.eraseIdx j)) {M : Nat} (hPl : PlF xs ls M) {qx qy F : Int} (hq : okP qx qy = true) (hF : takenF (ns.eraseIdx j) n ls (qx, qy) = false → FaceIs xs ls (qx, qy) M F) (ht : takenF (ns.eraseIdx j) n ls (qx, qy) = false) (hfe : y.fc = F) (hu : ∀ x ∈ ns.eraseIdx j, x.id ≤ y.id) :
    Calls Tryz.prog 8 #[plV (.slice no nl nc) (.slice ao n cap), .int .i64 z, pv qx qy] w fun e w' => (∃ v u ys, e = .returned (.tuple #[plV v u, .int .i64 0]) ∧ PlO w' w.heap.size v u (ns.eraseIdx j ++ [⟨y.id, qx, qy, y.fc⟩]) ys ls ∧ ys.map bareF = xs.map bareF) ∧ Below w.heap.size w w' := by
  obtain ⟨wP, hwP⟩ : ∃ wP, w.alloc (.cells #[.slice no nl nc, .slice ao n cap] 32) = wP := ⟨_, rfl⟩
  have hbP : Below w.heap.size w wP := by rw [← hwP]; exact (Below.refl _ w).alloc (Nat.le_refl _) _
  have hhP : wP.heap[w.heap.size]? = some (.cells #[.slice no nl nc, .slice ao n cap] 32 (0, 0)) := by rw [← hwP]; exact World.alloc_heap_new w _
  obtain ⟨wQ, hwQ⟩ : ∃ wQ, wP.alloc (.cells #[.int .i64 qx, .int .i64 qy] 23) = wQ := ⟨_, rfl⟩
  have hbQ : Below wP.heap.size wP wQ := by rw [← hwQ]; exact (Below.refl _ wP).alloc (Nat.le_refl _) _
  have hhQ : wQ.heap[wP.heap.size]? = some (.cells #[.int .i64 qx, .int .i64 qy] 23 (0, 0)) := by rw [← hwQ]; exact World.alloc_heap_new wP _
  obtain ⟨wR, hwR⟩ : ∃ wR, wQ.alloc (.cells #[.slice none 0 0, .slice none 0 0] 32) = wR := ⟨_, rfl⟩
  have hbR : Below wQ.heap.size wQ wR := by rw [← hwR]; exact (Below.refl _ wQ).alloc (Nat.le_refl _) _
  have hhR : wR.heap[wQ.heap.size]? = some (.cells #[.slice none 0 0, .slice none 0 0] 32 (0, 0)) := by rw [← hwR]; exact World.alloc_heap_new wQ _
  have l1 : w.heap.size < wP.heap.size := lt_of_heap hhP
  have l2 : wP.heap.size < wQ.heap.size := lt_of_heap hhQ
  have l3 : wQ.heap.size < wR.heap.size := lt_of_heap hhR
  have hhQ' := (hbR.block _ l2).trans hhQ
  have hhP' := (hbR.block _ (by omega)).trans ((hbQ.block _ l1).trans hhP)
  have hbw : Below w.heap.size w wR := hbP.trans ((hbQ.mono hbP.size).trans (hbR.mono (Nat.le_trans hbP.size hbQ.size)))
  have hB3 := hid (And.intro hhP' (And.intro hhQ' (And.intro hhR (And.intro hbw (And.intro l1 (And.intro l2 l3))))))
  obtain ⟨c0, c1, _, _⟩ := box2_cell hhP'
  have hlen := hd.len
  have hxl := h.len
  have hplc := h.plc
  have hjn : j < nl := by rw [← hlen]; exact (List.getElem?_eq_some_iff.1 hj).1
  have hel : (ns.eraseIdx j).length = nl - 1 := by rw [List.length_eraseIdx_of_lt (by omega), hlen]
  have hk1000 : nl - 1 ≤ 1000 := by have := hd.few; omega
  have HRM := hid (remNode_e (cap := cap) (nc := nc) (h.below hbw) hn1 (hd.below hbw) h0 hj hz hno)
  have HOK := hid (fun W => ok_any qx qy W)
  rw [hq] at HOK
  have HFA := hid (show ∀ (W : World) (B : Nat) (vo eo : Option Addr) (vc ec : Nat) (ys : List ER), PlO W B (.slice vo (nl - 1) vc) (.slice eo n ec) (ns.eraseIdx j) ys ls → ys.map bareF = xs.map bareF → Calls Tryz.prog 12 #[plV (.slice vo (nl - 1) vc) (.slice eo n ec), pv qx qy] W fun e w' => e = .returned (.tuple #[.int .i64 (if takenF (ns.eraseIdx j) n ls (qx, qy) then 0 else F), .bool !(takenF (ns.eraseIdx j) n ls (qx, qy))]) ∧ Below W.heap.size W w' from fun W B vo eo vc ec ys hpo hys => by
    have hyl : ys.length = n := by rw [← hxl]; simpa using congrArg List.length hys
    obtain ⟨b2, ao2, cap2, nb2, no2, nc2, e1, e2, hE, hN⟩ := hpo.ends (hplc.same hys) (by omega) (by rw [hel]; exact hk1000)
    injection e1 with e1a e1b e1c
    injection e2 with e2a e2b e2c
    subst e1a e1c e2a e2c
    rw [hyl] at hE
    rw [hel] at hN
    have hPF := hPl.same hys
    exact topoFaceAt_e (cap := ec) (nc := vc) hE hN (fun e => by omega) (fun x hx => hi x (List.mem_of_mem_eraseIdx hx)) hr2 hPF.pts hPF.out hPF.few qx qy (fun ht => (hF ht).same hys))
  have HPN := hid (fun W (hW : Below w.heap.size w W) => planNode_found (nc := nc) (hd.below hW) (.slice ao n cap) hj hz)
  rw [ht] at HFA
  simp only [Bool.false_eq_true, if_false] at HFA
  have hfF : (y.fc == F) = true := by rw [beq_iff_eq]; exact hfe
  have HU := hid hu
  have hL : (ns.eraseIdx j ++ [(⟨y.id, qx, qy, y.fc⟩ : NR)]).length = nl - 1 + 1 := by rw [List.length_append, hel]; rfl
  clear h hd hF hPl hi hr2 hj hz hno ht hq hbP hhP hbQ hhQ hbR hhR hhQ' hhP' hbw hplc hfe hu l1 l2 l3
  go_enter Tryz.func8, Tryz.ntmps8
  go_upto_region 2 with (go_at_call 18; refine HRM.out.mono ?_; rintro e w1 ⟨⟨v, u, ys, rfl, hpo, hys⟩, hb1⟩; obtain ⟨vo, vc, hve, _, _⟩ := hpo.nodes.form; obtain ⟨eo, ec, hue, _, _⟩ := hpo.edges.form; rw [hel] at hve; rw [(show ys.length = n from by rw [← hxl]; simpa using congrArg List.length hys)] at hue; subst hve; subst hue; have H1 := hid (And.intro hpo (And.intro hys hb1)); clear HRM hpo hys hb1)
  obtain ⟨hpo, hys, hb1⟩ := H1.out
  obtain ⟨hhP, hhQ, hhR, hbw, l1, l2, l3⟩ := hB3.out
  obtain ⟨W2, hW2⟩ : ∃ W2, w1.alloc (.cells #[.slice vo (nl - 1) vc, .slice eo n ec] 32) = W2 := ⟨_, rfl⟩
  have hb2 : Below w1.heap.size w1 W2 := by rw [← hW2]; exact (Below.refl _ w1).alloc (Nat.le_refl _) _
  have hh2 : W2.heap[w1.heap.size]? = some (.cells #[.slice vo (nl - 1) vc, .slice eo n ec] 32 (0, 0)) := by rw [← hW2]; exact World.alloc_heap_new w1 _
  rw [hW2]
  have hbW : Below wR.heap.size wR W2 := hb1.trans (hb2.mono hb1.size)
  have hlW : w1.heap.size < W2.heap.size := lt_of_heap hh2
  have hls := hbW.size
  have BX : ∀ W, Below W2.heap.size W2 W → (W.cell? ⟨w.heap.size, 0, none⟩ = some (.slice no nl nc) ∧ W.cell? ⟨w.heap.size, 1, none⟩ = some (.slice ao n cap)) ∧ (W.cell? ⟨wP.heap.size, 0, none⟩ = some (.int .i64 qx) ∧ W.cell? ⟨wP.heap.size, 1, none⟩ = some (.int .i64 qy)) ∧ W.heap[wQ.heap.size]? = some (.cells #[.slice none 0 0, .slice none 0 0] 32 (0, 0)) ∧ (W.cell? ⟨w1.heap.size, 0, none⟩ = some (.slice vo (nl - 1) vc) ∧ W.cell? ⟨w1.heap.size, 1, none⟩ = some (.slice eo n ec)) := fun W hW => by
    have q1 := (hW.block w.heap.size (by omega)).trans ((hbW.block _ (by omega)).trans hhP)
    have q2 := (hW.block wP.heap.size (by omega)).trans ((hbW.block _ (by omega)).trans hhQ)
    have q3 := (hW.block wQ.heap.size (by omega)).trans ((hbW.block _ (by omega)).trans hhR)
    have q4 := (hW.block w1.heap.size (by omega)).trans hh2
    exact ⟨⟨(box2_cell q1).1, (box2_cell q1).2.1⟩, ⟨by simp [World.cell?, q2], by simp [World.cell?, q2]⟩, q3, ⟨(box2_cell q4).1, (box2_cell q4).2.1⟩⟩
  have HPO := hid (fun W (hW : Below W2.heap.size W2 W) => hpo.below (hb2.trans (hW.mono (Nat.le_of_lt hlW))))
  have HYS := hid hys
  have HBW := hid (hbw.trans (hbW.mono hbw.size))
  have HX := hid BX
  obtain ⟨⟨d0, d1⟩, ⟨p0, p1⟩, _, ⟨s0, s1⟩⟩ := BX W2 (Below.refl _ _)
  have hwRl : w.heap.size ≤ wR.heap.size := by omega
  clear H1 hpo hys hb1 hhP hhQ hhR hbw hW2 hb2 hh2 hbW BX c0 c1
  go_wp2_with (first
    | (go_at_call 11; refine (HOK.out _).mono ?_; rintro e w3 ⟨rfl, hb3⟩; have H3 := hid hb3; clear d0 d1 p0 p1 s0 s1; obtain ⟨⟨d0, d1⟩, ⟨p0, p1⟩, _, ⟨s0, s1⟩⟩ := HX.out _ hb3; clear HOK hb3)
    | (go_at_call 12; refine (HFA.out _ _ _ _ _ _ _ (HPO.out _ H3.out) HYS.out).mono ?_; rintro e w4 ⟨rfl, hb4⟩; have H4 := hid (H3.out.trans (hb4.mono H3.out.size)); clear d0 d1 p0 p1 s0 s1; obtain ⟨⟨d0, d1⟩, ⟨p0, p1⟩, hZ0, ⟨s0, s1⟩⟩ := HX.out _ H4.out; obtain ⟨t0, t1, t2, t3⟩ := box2_cell hZ0; clear HFA hb4 hZ0)
    | (go_at_call 19; refine (HPN.out _ (HBW.out.trans (H4.out.mono HBW.out.size))).mono ?_; rintro e w5 ⟨rfl, hb5⟩; have H5 := hid (H4.out.trans (hb5.mono H4.out.size)); clear d0 d1 p0 p1 s0 s1 t0 t1 t2 t3; have hbA := H5.out.alloc H5.out.size (nrO y); obtain ⟨⟨d0, d1⟩, ⟨p0, p1⟩, hZ0, ⟨s0, s1⟩⟩ := HX.out _ hbA; obtain ⟨t0, t1, t2, t3⟩ := box2_cell hZ0; obtain ⟨⟨y0, y1, y2, y3⟩, yf⟩ := nr_box (World.alloc_heap_new w5 (nrO y)); have HZ := hid hZ0; have HA := hid hbA; have e1 : ¬ w5.heap.size = w1.heap.size := (by have := H5.out.size; omega); have e2 : ¬ w1.heap.size = w5.heap.size := (fun e => e1 e.symm); have e3 : ¬ w5.heap.size = wP.heap.size := (by have := H5.out.size; omega); have e4 : ¬ wP.heap.size = w5.heap.size := (fun e => e3 e.symm); have e5 : ¬ w5.heap.size = wQ.heap.size := (by have := H5.out.size; omega); have e6 : ¬ wQ.heap.size = w5.heap.size := (fun e => e5 e.symm); have hbA2 := H5.out.alloc H5.out.size (nrO ⟨y.id, qx, qy, y.fc⟩); obtain ⟨⟨i0, i1⟩, ⟨j0, j1⟩, hZ2, ⟨k0, k1⟩⟩ := HX.out _ hbA2; obtain ⟨m0, m1, m2, m3⟩ := box2_cell hZ2; obtain ⟨⟨x0, x1, x2, x3⟩, xf⟩ := nr_box (World.alloc_heap_new w5 (nrO ⟨y.id, qx, qy, y.fc⟩)); have HA2 := hid hbA2; clear HPN hb5 hZ0 hbA hbA2 hZ2)
    | (go_at_call 15; generalize hV6 : World.alloc _ _ = V6; have hs5 := H5.out.size; have hbV6 : Below W2.heap.size W2 V6 := (by rw [← hV6]; exact HA2.out); have hp6 := HPO.out V6 hbV6; refine (withNode_e hp6.nodes hel (Nat.le_trans hls hbV6.size) hk1000 ⟨y.id, qx, qy, y.fc⟩ HU.out).mono ?_; rintro e w7 ⟨⟨v, rfl, hv, hk7⟩, hb7⟩; obtain ⟨uo, uc, hve, _, _⟩ := hv.form; rw [hL] at hve; subst hve; have hz7 := (hb7.block wQ.heap.size l3).trans (HX.out V6 hbV6).2.2.1; obtain ⟨z0, z1, z2, z3⟩ := box2_cell hz7; have H7 := hid (And.intro (hp6.nodeStep hk7 hv) (And.intro hz7 ((HBW.out.trans (hbV6.mono HBW.out.size)).trans (hb7.mono hwRl)))); clear HA hv hk7 hb7 hz7 hp6 hbV6 hV6))
  obtain ⟨hp7, hz7, hb7⟩ := H7.out
  have hqw : w.heap.size ≤ wQ.heap.size := by omega
  obtain ⟨U, hU⟩ : ∃ U, (w7.setCell ⟨wQ.heap.size, 0, none⟩ (.slice uo (nl - 1 + 1) uc)).setCell ⟨wQ.heap.size, 1, none⟩ (.slice eo n ec) = U := ⟨_, rfl⟩
  have hUU : U.heap[wQ.heap.size]? = some (.cells #[.slice uo (nl - 1 + 1) uc, .slice eo n ec] 32 (0, 0)) := by rw [← hU]; exact set1 (set1 hz7 _) _
  have hO : ∀ k, k ≠ wQ.heap.size → U.heap[k]? = w7.heap[k]? := fun k hk => by rw [← hU]; exact (Below.heap_setCell _ _ _ k hk).trans (Below.heap_setCell _ _ _ k hk)
  have hbU : Below w.heap.size w U := by rw [← hU]; exact (hb7.setCell hqw _).setCell hqw _
  have hrU : PlO U w.heap.size (.slice uo (nl - 1 + 1) uc) (.slice eo n ec) (ns.eraseIdx j ++ [⟨y.id, qx, qy, y.fc⟩]) ys ls := (hp7.toBase (by omega)).same fun k c t f hc ht => hO k fun e => by
    subst e
    rw [hz7] at hc
    injection hc with hc
    injection hc with _ e2 _
    exact ht e2.symm
  have hys := HYS.out
  obtain ⟨u0, u1, _, _⟩ := box2_cell hUU
  rw [hU]
  clear hU hUU hO hp7 hz7 hb7
  (try simp only [Exit.inBlock, Exit.then])
  refine bodyPost_ret (v := .tuple #[plV (.slice uo (nl - 1 + 1) uc) (.slice eo n ec), .int .i64 0]) (by simp [results, Tryz.results8, go_sem, u0, u1]) rfl ?_
  first | exact ⟨⟨_, _, rfl, ys, hrU, hys⟩, hbU⟩ | exact ⟨⟨_, _, ys, rfl, hrU, hys⟩, hbU⟩
end Go.Proofs.YtkdnkmheidbfdaaGreat
