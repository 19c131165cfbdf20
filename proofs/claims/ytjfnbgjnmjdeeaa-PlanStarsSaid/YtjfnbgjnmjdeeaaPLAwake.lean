/-
  Layer 14: awake.
-/
import Derived.Test.YtjfnbgjnmjdeeaaPLSquareW
namespace Go.Proofs.Ytjfnbgjnmjdeeaa
open Go.RowKit Go.Shelf Go.Sort

/-- The rows of a list of lists, one by one. -/
theorem rgr_at {w : World} {base : Nat} {v : Value} {rs : List (List Int)} (h : RgR w base v rs) (h1 : 1 ≤ rs.length) : ∃ g c, v = .slice (some ⟨g, 0, none⟩) rs.length c ∧ ∀ (i : Nat) (r : List Int), rs[i]? = some r → ∃ u, w.cell? ⟨g, i, none⟩ = some u ∧ NRow w base u r := by
  obtain ⟨vs, hl, ho, hn⟩ := h
  rcases ho.2 with ⟨_, h0⟩ | ⟨g, cap, cur, rfl, _⟩
  · omega
  · refine ⟨g, cap, by rw [hl], fun i r hi => ?_⟩
    have hil : i < vs.length := by rw [hl]; exact (List.getElem?_eq_some_iff.1 hi).1
    refine ⟨vs[i], ?_, hn i r _ hi (List.getElem?_eq_getElem hil)⟩
    have := ho.cellAt i (by omega)
    rw [List.getElem?_eq_getElem hil] at this
    exact this
theorem rgr_one {w : World} {base : Nat} {v : Value} {r : List Int} (h : RgR w base v [r]) : ∃ (vo : Option Addr) (vc g : Nat) (u : Value) (_ : Unit), v = .slice vo 1 vc ∧ vo = some ⟨g, 0, none⟩ ∧ w.cell? ⟨g, 0, none⟩ = some u ∧ NRow w base u r := by
  obtain ⟨g, c, rfl, h2⟩ := rgr_at h (Nat.le_refl _)
  obtain ⟨u, h3, h4⟩ := h2 0 r rfl
  exact ⟨_, c, g, u, (), rfl, rfl, h3, h4⟩
theorem sq_from {xs : List ER} (h : xs.map erK = sqC) : (if (edgeF (-1) xs).2 then (edgeF (-1) xs).1.st else (edgeF (-1) xs).1.en) = 2 := by
  obtain ⟨a, b, c, d, rfl, ha, hb, hc, hd⟩ := sq_four h
  simp only [erK, Prod.mk.injEq] at ha hb hc hd
  simp [edgeF, fstE, ha, hb, hc, hd]
/-- New numbers in a row. -/
theorem nums_new (w : World) (zs : List Int) : Nums (w.alloc (.cells (zs.map (Value.int .i64)).toArray 3)) (.slice (some ⟨w.heap.size, 0, none⟩) zs.length zs.length) zs := by
  have h : (w.alloc (.cells (zs.map (Value.int .i64)).toArray 3)).heap[w.heap.size]? = some (.cells (zs.map (Value.int .i64)).toArray 3 (0, 0)) := World.alloc_heap_new w _
  generalize w.alloc (.cells (zs.map (Value.int .i64)).toArray 3) = W at h ⊢
  refine ⟨_, _, rfl, fun _ => ⟨w.heap.size, 0, rfl, fun k z hz => ?_⟩⟩
  simp [World.cell?, h, hz]

set_option maxRecDepth 100000 in
set_option maxHeartbeats 6400000 in
theorem awake14_any (w : World) : Calls Try.prog 8 #[] w fun e w' => e = .returned (.bool true) ∧ Below w.heap.size w w' := by
  go_enter Try.func8, Try.ntmps8
  go_wp2_with (first
    | (go_at_call 14; refine (square_any _).mono ?_; rintro e w1 ⟨b, ao, cap, no, nl, nc, xs, rfl, hE, hk, hb1⟩; have HE := hid (And.intro hE (And.intro hk hb1)); clear hE hk hb1)
    | (go_at_call 7; generalize hWA : World.alloc _ _ = WA; have hWB := (show Below w1.heap.size w1 WA by rw [← hWA]; exact (Below.refl _ w1).alloc (Nat.le_refl _) _); have hhA : WA.heap[w1.heap.size]? = some (.cells #[.slice no nl nc, .slice ao 4 cap] 30 (0, 0)) := (by rw [← hWA]; exact World.alloc_heap_new w1 _); refine (rings_any (cap := cap) (HE.out.1.below hWB) no nl nc).mono ?_; rintro e w2 ⟨v, rfl, hv, hb2⟩; rw [sq_rings HE.out.2.1] at hv; obtain ⟨g, c, rfl, hcl⟩ := rgr_at hv (by decide); obtain ⟨u0, x0, n0⟩ := hcl 0 _ rfl; obtain ⟨u1, x1, n1⟩ := hcl 1 _ rfl; have hh2 := (hb2.block _ (lt_of_heap hhA)).trans hhA; have HS1 := hid (sameInts_any u0 (.slice (some ⟨w2.heap.size, 0, none⟩) 4 4) [1, 2, 3, 4] (w2.alloc (.cells #[.int .i64 1, .int .i64 2, .int .i64 3, .int .i64 4] 3)) (NRow.below n0 ((Below.refl _ w2).alloc (Nat.le_refl _) _)).nums (nums_new w2 [1, 2, 3, 4]) (by decide)); have HX := hid (And.intro x1 (And.intro n1 (And.intro hh2 (hWB.trans (hb2.mono hWB.size))))); clear hWA hWB hhA hb2 hv hcl n0 x1 n1 hh2)
    | (go_at_call 4; refine HS1.out.mono ?_; rintro e w3 ⟨rfl, hb3'⟩; have hb3 : Below w2.heap.size w2 w3 := ((Below.refl _ w2).alloc (Nat.le_refl _) _).trans (hb3'.mono (by simp)); have x1' := cell_below HX.out.1 hb3 (lt_of_cell HX.out.1); have hh3 := (hb3.block _ (lt_of_heap HX.out.2.2.1)).trans HX.out.2.2.1; have HS2 := hid (sameInts_any u1 (.slice (some ⟨w3.heap.size, 0, none⟩) 4 4) [-1, -4, -3, -2] (w3.alloc (.cells #[.int .i64 (-1), .int .i64 (-4), .int .i64 (-3), .int .i64 (-2)] 3)) (NRow.below (NRow.below HX.out.2.1 hb3) ((Below.refl _ w3).alloc (Nat.le_refl _) _)).nums (nums_new w3 [-1, -4, -3, -2]) (by decide)); have HY := hid (And.intro hh3 (HX.out.2.2.2.trans (hb3.mono HX.out.2.2.2.size))); clear HS1 HX hb3' hb3 hh3 x0)
    | (go_at_call 4; refine HS2.out.mono ?_; rintro e w4 ⟨rfl, hb4'⟩; have hb4 : Below w3.heap.size w3 w4 := ((Below.refl _ w3).alloc (Nat.le_refl _) _).trans (hb4'.mono (by simp)); have hh4 := (hb4.block _ (lt_of_heap HY.out.1)).trans HY.out.1; have p0 : w4.cell? ⟨w1.heap.size, 0, none⟩ = some (.slice no nl nc) := (by simp [World.cell?, hh4]); have p1 : w4.cell? ⟨w1.heap.size, 1, none⟩ = some (.slice ao 4 cap) := (by simp [World.cell?, hh4]); have HZ := hid (And.intro hh4 (HY.out.2.trans (hb4.mono HY.out.2.size))); clear HS2 HY hb4' hb4 hh4 x1')
    | (go_at_call 15; refine (from_any (cap := cap) (HE.out.1.below HZ.out.2).len (by decide) (HE.out.1.below HZ.out.2).cells HE.out.1.at' no nl nc (-1) (by decide) (by decide)).mono ?_; rintro e w5 ⟨rfl, hb5⟩; rw [sq_from HE.out.2.1]; have hh5 := (hb5.block _ (lt_of_heap HZ.out.1)).trans HZ.out.1; have q0 : w5.cell? ⟨w1.heap.size, 0, none⟩ = some (.slice no nl nc) := (by simp [World.cell?, hh5]); have q1 : w5.cell? ⟨w1.heap.size, 1, none⟩ = some (.slice ao 4 cap) := (by simp [World.cell?, hh5]); have HV := hid (HZ.out.2.trans (hb5.mono HZ.out.2.size)); clear HZ hb5 hh5 p0 p1)
    | (go_at_call 16; refine (degree_any (cap := cap) (HE.out.1.below HV.out) no nl nc 1 (by decide) (by decide)).mono ?_; rintro e w6 ⟨rfl, hb6⟩; rw [sq_deg HE.out.2.1]; have HW := hid (HV.out.trans (hb6.mono HV.out.size)); clear HV hb6 q0 q1))
  go_ret
  exact ⟨rfl, HE.out.2.2.trans (HW.out.mono HE.out.2.2.size)⟩
end Go.Proofs.Ytjfnbgjnmjdeeaa
