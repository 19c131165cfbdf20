/-
  Layer 17: the face at a point of a plan without edges.
-/
import Derived.Deep.RegionWith
import Derived.Test.YtdjbjadaldndcaaGreatTBare
import Derived.Test.YtdjbjadaldndcaaGreatFRegs
import Derived.Test.YtdjbjadaldndcaaGreatFTk
namespace Go.Proofs.YtdjbjadaldndcaaGreat
open Go.RowKit Go.Shelf Go.Sort Go.Maps

theorem plE_none (w : World) : PlE w 0 0 0 none [] [] :=
  ⟨rfl, by omega, fun k => by simp [grp], fun k x h => by simp at h, fun i j x y _ h => by simp at h, fun h => by omega, fun _ => rfl, fun x h => by simp at h, fun x h => by simp at h, fun k => by simp, fun k x h => by simp at h⟩
theorem rings_none : ringsL [] [] = [] := by rfl
theorem borders_none : bordersL [] [] = [] := by unfold bordersL; rw [rings_none]; rfl
theorem outers_none : outersL [] [] = [] := by unfold outersL; rw [borders_none]; rfl
theorem taken_none (ns : List NR) (q : Pp) : takenF ns 0 [] q = ns.any (atN q.1 q.2) := by unfold takenF; simp

/-- The first region of a plan without edges, as it lies in memory. -/
theorem reg_none {w w' : World} {v : Value} {al : List NR} (h : RegIs w w' v [] [] al 1) : ∃ G iv nv, v = .slice (some ⟨G, 0, none⟩) 1 1 ∧ w'.cell? ⟨G, 0, none⟩ = some (.slice none 0 0) ∧ w'.cell? ⟨G, 1, none⟩ = some iv ∧ w'.cell? ⟨G, 2, none⟩ = some nv := by
  obtain ⟨G, wS, zs, IV, NV, rfl, hzs, hI, _⟩ := h
  obtain rfl : zs = [] := by simpa using hzs
  obtain ⟨h0, h1, h2⟩ := hI.cells.at (k := 0) (by omega)
  rw [Nat.zero_mul] at h0
  simp only [Nat.zero_mul, Nat.zero_add] at h1 h2
  exact ⟨G, _, _, rfl, h0, h1, h2⟩

set_option maxRecDepth 100000 in
set_option maxHeartbeats 1600000 in
theorem faceOf_none (pn pe iv nv : Value) (w : World) :
    Calls Tryz.prog 73 #[plV pn pe, .agg #[.slice none 0 0, iv, nv]] w fun e w' => e = .returned (.int .i64 0) ∧ Below w.heap.size w w' := by
  obtain ⟨wP, hwP⟩ : ∃ wP, w.alloc (.cells #[pn, pe] 25) = wP := ⟨_, rfl⟩
  have hbP : Below w.heap.size w wP := by rw [← hwP]; exact (Below.refl _ w).alloc (Nat.le_refl _) _
  obtain ⟨wQ, hwQ⟩ : ∃ wQ, wP.alloc (.cells #[.slice none 0 0, iv, nv] 39) = wQ := ⟨_, rfl⟩
  have hbQ : Below wP.heap.size wP wQ := by rw [← hwQ]; exact (Below.refl _ wP).alloc (Nat.le_refl _) _
  have hhQ : wQ.heap[wP.heap.size]? = some (.cells #[.slice none 0 0, iv, nv] 39 (0, 0)) := by rw [← hwQ]; exact World.alloc_heap_new wP _
  have q0 : wQ.cell? ⟨wP.heap.size, 0, none⟩ = some (.slice none 0 0) := by simp [World.cell?, hhQ]
  have HB := hid (hbP.trans (hbQ.mono hbP.size))
  clear hbP hbQ hhQ
  go_enter Tryz.func73, Tryz.ntmps73
  go_wp2
  go_ret
  exact ⟨rfl, HB.out⟩

set_option maxRecDepth 100000 in
set_option maxHeartbeats 3200000 in
theorem topoFaceAt_bare {w : World} {nb noff nl nc ec : Nat} {no : Option Addr} {ns : List NR} (hd : NdE w nb noff nl no ns) (h0 : nl = 0 → no = none) (hi : ∀ x ∈ ns, -1000000 ≤ x.id ∧ x.id ≤ 1000000) (hr : RiseN ns) (qx qy : Int) :
    Calls Tryz.prog 34 #[plV (.slice no nl nc) (.slice none 0 ec), pv qx qy] w fun e w' => e = .returned (.tuple #[.int .i64 0, .bool !(ns.any (atN qx qy))]) ∧ Below w.heap.size w w' := by
  obtain ⟨wP, hwP⟩ : ∃ wP, w.alloc (.cells #[.slice no nl nc, .slice none 0 ec] 25) = wP := ⟨_, rfl⟩
  have hbP : Below w.heap.size w wP := by rw [← hwP]; exact (Below.refl _ w).alloc (Nat.le_refl _) _
  have hhP : wP.heap[w.heap.size]? = some (.cells #[.slice no nl nc, .slice none 0 ec] 25 (0, 0)) := by rw [← hwP]; exact World.alloc_heap_new w _
  obtain ⟨wQ, hwQ⟩ : ∃ wQ, wP.alloc (.cells #[.int .i64 qx, .int .i64 qy] 27) = wQ := ⟨_, rfl⟩
  have hbQ : Below wP.heap.size wP wQ := by rw [← hwQ]; exact (Below.refl _ wP).alloc (Nat.le_refl _) _
  have hhQ : wQ.heap[wP.heap.size]? = some (.cells #[.int .i64 qx, .int .i64 qy] 27 (0, 0)) := by rw [← hwQ]; exact World.alloc_heap_new wP _
  have hh2 := (hbQ.block _ (lt_of_heap hhP)).trans hhP
  have hb : Below w.heap.size w wQ := hbP.trans (hbQ.mono hbP.size)
  have c0 : wQ.cell? ⟨w.heap.size, 0, none⟩ = some (.slice no nl nc) := by simp [World.cell?, hh2]
  have c1 : wQ.cell? ⟨w.heap.size, 1, none⟩ = some (.slice none 0 ec) := by simp [World.cell?, hh2]
  have q0 : wQ.cell? ⟨wP.heap.size, 0, none⟩ = some (.int .i64 qx) := by simp [World.cell?, hhQ]
  have q1 : wQ.cell? ⟨wP.heap.size, 1, none⟩ = some (.int .i64 qy) := by simp [World.cell?, hhQ]
  have hz : (if ns.any (atN qx qy) = true then (0 : Int) else leastP (fun _ => true) (qx, qy) []) = 0 := by split <;> rfl
  have HA := hid (fun W (hW : Below w.heap.size w W) => by
    have q := faceAt_any (cap := ec) (nc := nc) (plE_none W) (hd.below hW) (fun r hr => by rw [rings_none] at hr; simp at hr) (by rw [borders_none]; simp) qx qy
    rw [taken_none, outers_none] at q
    dsimp only at q
    rw [hz] at q
    exact q)
  have HR := hid (fun W (hW : Below w.heap.size w W) => regions_any (cap := ec) (nc := nc) (plE_none W) (hd.below hW) h0 hi hr (fun r hr => by rw [rings_none] at hr; simp at hr) (M := 0) (by rw [borders_none]; rfl) (by omega))
  rw [outers_none, borders_none] at HR
  have HF := hid (fun pn pe iv nv W => faceOf_none pn pe iv nv W)
  have HB := hid hb
  clear hz
  clear hd hi hr hbP hhP hbQ hhQ hh2 hb
  cases ht : ns.any (atN qx qy) with
  | true =>
    rw [ht] at HA
    clear ht HR
    go_enter Tryz.func34, Tryz.ntmps34
    go_wp2_with (go_at_call 9; refine (HA.out _ HB.out).mono ?_; rintro e w1 ⟨rfl, hb1⟩; have H1 := hid (HB.out.trans (hb1.mono HB.out.size)); clear hb1 HA)
    go_ret2
    exact ⟨rfl, H1.out⟩
  | false =>
    rw [ht] at HA
    clear ht
    go_enter Tryz.func34, Tryz.ntmps34
    go_wp2_with (go_at_call 9; refine (HA.out _ HB.out).mono ?_; rintro e w1 ⟨rfl, hb1⟩; have H1 := hid (HB.out.trans (hb1.mono HB.out.size)); have d0 := cell_below c0 hb1 (lt_of_cell c0); have d1 := cell_below c1 hb1 (lt_of_cell c1); clear hb1 HA c0 c1 q0 q1)
    go_region_with (first
      | (go_at_call 7; refine (HR.out _ H1.out.drew).mono ?_; rintro e w2 ⟨⟨v, rfl, hv⟩, hb2⟩; obtain ⟨G, iv, nv, rfl, g0, g1, g2⟩ := reg_none hv; have e0 := cell_below (show w1.drew.cell? ⟨w.heap.size, 0, none⟩ = _ from d0) hb2 (lt_of_cell d0); have e1 := cell_below (show w1.drew.cell? ⟨w.heap.size, 1, none⟩ = _ from d1) hb2 (lt_of_cell d1); have H2 := hid (H1.out.trans (((Below.refl _ w1).drew.trans hb2).mono H1.out.size)); clear HR hv hb2)
      | (go_at_call 73; refine (HF.out _ _ _ _ _).mono ?_; rintro e w3 ⟨rfl, hb3⟩; have H3 := hid (H2.out.trans (hb3.mono H2.out.size)); clear HF hb3))
    all_goals (go_wp2; go_ret2; exact ⟨rfl, H3.out⟩)
end Go.Proofs.YtdjbjadaldndcaaGreat
