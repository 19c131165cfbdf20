/-
  Layer 17: slices.Delete of one node out of a row of the call's own.
-/
import Derived.Deep.RegionLaw
import Derived.Deep.RegionHeld3
import Derived.Laws.IdiomCopy
import Derived.Test.YtkdnkmheidbfdaaGreatN3
import Derived.Test.YtkdnkmheidbfdaaGreatMV
import Derived.Test.YtkdnkmheidbfdaaGreatN6
namespace Go.Proofs.YtkdnkmheidbfdaaGreat
open Go.RowKit Go.Shelf Go.Sort Go.Maps

theorem NdRow.parts {w : World} {base n cap : Nat} {ao : Option Addr} {xs : List NR} (h : NdRow w base (.slice ao n cap) xs) (hn : 1 ≤ xs.length) : ∃ g cur, ao = some ⟨g, 0, none⟩ ∧ base ≤ g ∧ w.heap[g]? = some (.cells cur 25 (0, 0)) ∧ xs.length = n ∧ n ≤ cap ∧ cap ≤ maxLen ∧ cur.size = cap * 4 ∧ ∀ j, j < n * 4 → w.cell? ⟨g, j, none⟩ = (ncs xs)[j]? := by
  have h' := h
  rcases h.2 with ⟨e, h0⟩ | ⟨g, cap', cur, e, h1, h2, h3, h4, h5, h6⟩
  · omega
  · injection e with e1 e2 e3
    subst e1 e2 e3
    have h'' : w.ownsRow base 25 4 (.slice (some ⟨g, 0, none⟩) xs.length cap) xs.length (ncs xs) := h'
    exact ⟨g, cur, rfl, h1, h2, rfl, h3, h4, h5, fun j hj => h''.cellAt j hj⟩
theorem ndRow_of {W : World} {base g n cap : Nat} {C : Array Value} {xs : List NR} (hC : W.heap[g]? = some (.cells C 25 (0, 0))) (hb : base ≤ g) (hs : C.size = cap * 4) (hn : xs.length = n) (h1 : n ≤ cap) (h2 : cap ≤ maxLen) (hc : ∀ j, j < n * 4 → W.cell? ⟨g, j, none⟩ = (ncs xs)[j]?) : NdRow W base (.slice (some ⟨g, 0, none⟩) n cap) xs := by
  subst hn
  refine ⟨by rw [ncs_len], .inr ⟨g, cap, C, rfl, hb, hC, h1, h2, hs, ?_⟩⟩
  refine List.ext_getElem? fun j => ?_
  by_cases hj : j < xs.length * 4
  · rw [List.getElem?_take_of_lt hj, ← hc j hj]
    simp [World.cell?, hC]
  · rw [List.getElem?_take_eq_none (by omega), List.getElem?_eq_none (by rw [ncs_len]; omega)]
theorem ncs_eraseIdx (xs : List NR) {k : Nat} (hk : k < xs.length) : ncs (xs.eraseIdx k) = (ncs xs).take (k * 4) ++ ncs (xs.drop (k + 1)) := by
  have e : xs.eraseIdx k = xs.take k ++ xs.drop (k + 1) := List.eraseIdx_eq_take_drop_succ ..
  have hx : xs = xs.take k ++ xs.drop k := (List.take_append_drop k xs).symm
  have h2 : ncs xs = ncs (xs.take k) ++ ncs (xs.drop k) := by rw [← ncs_app, List.take_append_drop]
  have hl : (ncs (xs.take k)).length = k * 4 := by rw [ncs_len, List.length_take]; congr 1; omega
  rw [e, ncs_app, h2, List.take_left' hl]

/-- A row of which one is struck out: those behind it moved up, the last place cleared. -/
theorem ndRow_struck {w : World} {base g n cap k : Nat} {cur : Array Value} {xs : List NR} (hC : w.heap[g]? = some (.cells cur 25 (0, 0))) (hb : base ≤ g) (hs : cur.size = cap * 4) (hn : xs.length = n) (h1 : n ≤ cap) (h2 : cap ≤ maxLen) (hc : ∀ j, j < n * 4 → w.cell? ⟨g, j, none⟩ = (ncs xs)[j]?) (hk : k < n) :
    ∃ C1, (w.setCells g (k * 4) (ncs (xs.drop (k + 1)))).heap[g]? = some (.cells C1 25 (0, 0)) ∧ C1.size = cap * 4 ∧ NdRow ((w.setCells g (k * 4) (ncs (xs.drop (k + 1)))).setCells g ((n - 1) * 4) (List.replicate (1 * 4) (.int .i64 0))) base (.slice (some ⟨g, 0, none⟩) (n - 1) cap) (xs.eraseIdx k) := by
  obtain ⟨C1, e1, s1⟩ := setCells_heap (ncs (xs.drop (k + 1))) (k * 4) w cur hC
  refine ⟨C1, e1, by omega, ?_⟩
  obtain ⟨C2, e2, s2⟩ := setCells_heap (List.replicate (1 * 4) (.int .i64 0)) ((n - 1) * 4) _ C1 e1
  have hdl : (ncs (xs.drop (k + 1))).length = (n - (k + 1)) * 4 := by rw [ncs_len, List.length_drop, hn]
  refine ndRow_of e2 hb (by omega) (by rw [List.length_eraseIdx_of_lt (by omega), hn]) (by omega) h2 fun j hj => ?_
  rw [World.cell?_setCells_out g _ _ _ ⟨g, j, none⟩ (fun _ _ => .inl (by show j < (n - 1) * 4; exact hj)), ncs_eraseIdx xs (by omega)]
  have htl : ((ncs xs).take (k * 4)).length = k * 4 := by rw [List.length_take, ncs_len]; omega
  by_cases hjk : j < k * 4
  · rw [World.cell?_setCells_out g _ _ _ ⟨g, j, none⟩ (fun _ _ => .inl (by show j < k * 4; exact hjk)), hc j (by omega), List.getElem?_append_left (by omega), List.getElem?_take_of_lt hjk]
  · have hin := World.cell?_setCells_in g (ncs (xs.drop (k + 1))) (k * 4) w (fun i hi => by rw [hc _ (by omega), List.getElem?_eq_getElem (by rw [ncs_len]; omega)]; rfl) (j - k * 4) (by omega)
    rw [show k * 4 + (j - k * 4) = j by omega] at hin
    rw [hin, List.getElem?_append_right (by omega), htl, List.getElem?_eq_getElem (by omega)]
end Go.Proofs.YtkdnkmheidbfdaaGreat

namespace Go.Proofs.YtkdnkmheidbfdaaGreat
open Go.RowKit Go.Shelf Go.Sort Go.Maps

set_option maxRecDepth 100000 in
set_option maxHeartbeats 3200000 in
theorem deleteOne_any {w : World} {base n cap k : Nat} {ao : Option Addr} {xs : List NR} (h : NdRow w base (.slice ao n cap) xs) (hn : xs.length = n) (_hbw : base ≤ w.heap.size) (hl : n ≤ 1000) (hk : k < n) :
    Calls Tryz.prog 77 #[.slice ao n cap, .int .i64 (k : Int), .int .i64 ((k : Int) + 1)] w fun e w' => e = .returned (.slice ao (n - 1) cap) ∧ NdRow w' base (.slice ao (n - 1) cap) (xs.eraseIdx k) ∧ Below base w w' ∧ ∃ g, ao = some ⟨g, 0, none⟩ ∧ KG g w w' := by
  obtain ⟨g, cur, rfl, hb, hC, hn', h1, h2, hs, hc⟩ := h.parts (by omega)
  obtain ⟨i0, hi, hz0, hz1, hz2⟩ := info_parts infoNd
  have hkn : (k : Int) < (n : Int) := by omega
  have hk1 : (k : Int) + 1 ≤ (n : Int) := by omega
  have hnc : (n : Int) ≤ (cap : Int) := by omega
  have hw1 : IntKind.i64.wrap ((k : Int) + 1) = (k : Int) + 1 := by rw [IntKind.wrap_i64]; omega
  have hne : ((k : Int) == (k : Int) + 1) = false := by rw [beq_eq_false_iff_ne]; omega
  have hne2 : (n : Int) ≤ 9223372036854775807 := by omega
  have hcm : cap ≤ 9223372036854775807 := by unfold maxLen at h2; omega
  clear h
  obtain ⟨m, rfl⟩ : ∃ m, n = m + 1 := ⟨n - 1, by omega⟩
  rw [Nat.add_sub_cancel]
  obtain ⟨C1, e1, s1, hrow⟩ := ndRow_struck (w := w.drew) hC hb hs hn h1 h2 hc hk
  rw [Nat.add_sub_cancel] at hrow
  have hlen := hid (show (ncs (xs.drop (k + 1))).length = (m - k) * 4 by rw [ncs_len, List.length_drop, hn, show m + 1 - (k + 1) = m - k by omega])
  have hclr := hid (fun ty => run_clearN (w.drew.setCells g (k * 4) (ncs (xs.drop (k + 1)))) ty (o := m * 4) (m := 1) (c := cap - m) e1 (by omega) (by omega))
  have HW := hid (And.intro hrow (And.intro (show Below base w ((w.drew.setCells g (k * 4) (ncs (xs.drop (k + 1)))).setCells g (m * 4) (List.replicate (1 * 4) (.int .i64 0))) from setCells_below hb _ _ _ (setCells_below hb _ _ _ (Below.refl base w).drew)) (show KG g w ((w.drew.setCells g (k * 4) (ncs (xs.drop (k + 1)))).setCells g (m * 4) (List.replicate (1 * 4) (.int .i64 0))) from ((KG.below (Below.refl _ w).drew).trans (setCells_kg _ _ _)).trans (setCells_kg _ _ _))))
  have hspare := hid (show ∀ j, j < (ncs (xs.drop (k + 1))).length → (w.drew.cell? ⟨g, 0 + k * 4 + j, none⟩).isSome = true ∧ w.drew.frozen? ⟨g, 0 + k * 4 + j, none⟩ = false from fun j hj => by
    rw [hlen.out] at hj
    refine ⟨?_, by simp [World.frozen?, show w.drew.heap[g]? = _ from hC]⟩
    rw [show w.drew.cell? ⟨g, 0 + k * 4 + j, none⟩ = _ from hc (0 + k * 4 + j) (by omega), List.getElem?_eq_getElem (by rw [ncs_len]; omega)]
    rfl)
  have hnew := hid (show ∀ j u, (ncs (xs.drop (k + 1)))[j]? = some u → w.drew.cell? ((⟨g, (k + 1) * 4, none⟩ : Addr).add j) = some u from fun j u hu => by
    have hj := (List.getElem?_eq_some_iff.1 hu).1
    rw [hlen.out] at hj
    rw [addr_add]
    show w.cell? ⟨g, (k + 1) * 4 + j, none⟩ = some u
    rw [hc _ (by omega), ← hu]
    have hx2 : ncs xs = ncs (xs.take (k + 1)) ++ ncs (xs.drop (k + 1)) := by rw [← ncs_app, List.take_append_drop]
    have hl2 : (ncs (xs.take (k + 1))).length = (k + 1) * 4 := by rw [ncs_len, List.length_take, hn, Nat.min_eq_left (by omega)]
    rw [hx2, List.getElem?_append_right (by omega), hl2, Nat.add_sub_cancel_left])
  have hmk : k + (m - k) = m := by omega
  have hmI : (m : Int) < (cap : Int) := by omega
  clear hrow e1 s1 hc hs
  by_cases hkc : k + 1 < cap
  · have hkcI : (k : Int) + 1 < (cap : Int) := by omega
    have hkcN : ¬ cap = k + 1 := by omega
    have hkcL : (k : Int) ≤ (cap : Int) := by omega
    have hk0 : (0 : Int) ≤ (k : Int) := by omega
    have hk01 : (0 : Int) ≤ (k : Int) + 1 := by omega
    have hkm : (k : Int) + 1 ≤ (m : Int) + 1 := by omega
    have hkn1 : k ≤ cap := by omega
    have hkn2 : k + 1 ≤ m + 1 := by omega
    have hkl : k ≤ m := by omega
    go_enter Tryz.func77, Tryz.ntmps77
    go_wp2
    go_region_law (refine step_append_room rfl (.tmp 22) (.tmp 25) 26 rfl 25 i0 4 Tryz.underlying26 hi hz1 g 0 k cap (by simp [Act.eval, Act.put]) ⟨g, (k + 1) * 4, none⟩ (m - k) (cap - (k + 1)) (ncs (xs.drop (k + 1))) (by simp [Act.eval, Act.put]; try omega) hlen.out hnew.out ncs_one (by omega) hspare.out ?_)
    have hmN : ¬ cap = m := by omega
    have hm0 : (0 : Int) ≤ (m : Int) := by omega
    have hm1 : m + 1 - m = 1 := by omega
    have hcl := hclr.out
    go_wp2
    go_ret
    exact ⟨rfl, HW.out.1, HW.out.2.1, g, rfl, HW.out.2.2⟩
  · obtain rfl : m = k := by omega
    obtain rfl : cap = m + 1 := by omega
    have hdr : ncs (xs.drop (m + 1)) = [] := List.eq_nil_of_length_eq_zero (by rw [hlen.out]; omega)
    have HW2 := HW.out
    have hcl := hclr.out
    rw [hdr] at HW2 hcl
    have hcl' : ∀ ty, (Builtin.clear_ #[26] ty #[.slice (some ⟨g, m * 4, none⟩) 1 (m + 1 - m)]).run Tryz.prog w.drew = .ok (.tuple #[]) (w.drew.setCells g (m * 4) (List.replicate (1 * 4) (.int .i64 0))) := hcl
    have HW3 := hid HW2
    have hm1 : m + 1 - m = 1 := by omega
    have hm0 : (0 : Int) ≤ (m : Int) := by omega
    have hm01 : (0 : Int) ≤ (m : Int) + 1 := by omega
    have hmm : (m : Int) ≤ (m : Int) + 1 := by omega
    have hmN : ¬ m + 1 = m := by omega
    rw [hm1] at hcl' hcl
    clear HW2 hnew hspare hclr HW hlen hkc
    go_enter Tryz.func77, Tryz.ntmps77
    go_wp2
    go_region_law (refine step_append_room rfl (.tmp 22) (.tmp 25) 26 rfl 25 i0 4 Tryz.underlying26 hi hz1 g 0 m (m + 1) (by simp [Act.eval, Act.put]) ⟨g, 0, none⟩ 0 0 [] (by simp [Act.eval, Act.put]) rfl (fun j u h => by simp at h) (fun u h => by simp at h) (by omega) (fun j h => by simp at h) ?_)
    go_wp2
    go_ret
    exact ⟨rfl, HW3.out.1, HW3.out.2.1, g, rfl, HW3.out.2.2⟩
end Go.Proofs.YtkdnkmheidbfdaaGreat

namespace Go.Proofs.YtkdnkmheidbfdaaGreat
open Go.RowKit Go.Shelf Go.Sort Go.Maps

set_option maxRecDepth 100000 in
set_option maxHeartbeats 1600000 in
theorem rem1_any (y : NR) {z : Int} {gf gx : Nat} {w : World} (hf : w.cell? ⟨gf, 0, none⟩ = some idV) (hx : w.cell? ⟨gx, 0, none⟩ = some (.int .i64 z)) :
    Calls Tryz.prog 76 #[nrV y, .pointer (some ⟨gf, 0, none⟩), .pointer (some ⟨gx, 0, none⟩)] w fun e w' => e = .returned (.bool (y.id == z)) ∧ Below w.heap.size w w' := by
  obtain ⟨wA, hwA⟩ : ∃ wA, w.alloc (nrO y) = wA := ⟨_, rfl⟩
  have hbA : Below w.heap.size w wA := by rw [← hwA]; exact (Below.refl _ w).alloc (Nat.le_refl _) _
  have hA := nr_cells (show wA.heap[w.heap.size]? = some (nrO y) by rw [← hwA]; exact World.alloc_heap_new w _)
  have hf' := cell_below hf hbA (lt_of_cell hf)
  have hX := cell_below hx hbA (lt_of_cell hx)
  have k0 := cell_regrown hf'
  have k1 := cell_regrown hA.1
  have k2 := cell_regrown hA.2.1
  have k3 := cell_regrown hA.2.2.1
  have k4 := cell_regrown hA.2.2.2
  have k5 := cell_regrown hX
  have cy := fun d os => nodeID_any y (grow (redrawn wA d) os)
  have HB := hid hbA
  simp only [Nat.zero_add] at k2 k3 k4
  clear hbA hA hf' hX hf hx
  go_enter Tryz.func76, Tryz.ntmps76
  go_wp2
  refine wp_region_quiet_below (by kernel_rfl) (by kernel_rfl) ?_
  go_big_quiet_step (fail)
  go_big_quiet_step (fail)
  go_big_quiet_step (exact Calls.regrown_of (cy _ _))
  go_big_quiet_step (fail)
  go_big_quiet_step (fail)
  go_big_quiet_step (fail)
  refine wpQuiet_nil ?_
  intro W hW'
  obtain ⟨⟨dq, osq⟩, hW⟩ := hW'
  have HBW := hid (HB.out.trans ((show Below wA.heap.size wA W by rw [hW]; exact below_regrown _ _ _).mono HB.out.size))
  clear hW k0 k1 k2 k3 k4 k5 cy
  go_wp2
  go_ret
  exact ⟨rfl, HBW.out⟩

set_option maxRecDepth 100000 in
set_option maxHeartbeats 1600000 in
theorem indexR_any {w : World} {b off n cap : Nat} {ao : Option Addr} {ns : List NR} (h : NdE w b off n ao ns) {z : Int} {gf gx : Nat} (hf : w.cell? ⟨gf, 0, none⟩ = some idV) (hx : w.cell? ⟨gx, 0, none⟩ = some (.int .i64 z)) :
    Calls Tryz.prog 43 #[.slice ao n cap, .func (.func 76) #[] #[.pointer (some ⟨gf, 0, none⟩), .pointer (some ⟨gx, 0, none⟩)]] w fun e w' => e = .returned (.int .i64 (idxE z ns 0)) ∧ Below w.heap.size w w' := by
  have HE := hid h
  have HI := hid (And.intro hf hx)
  have hfew := h.few
  clear h hf hx
  go_enter Tryz.func43, Tryz.ntmps43
  go_wp2
  go_loopw [5, 8] (fun _ iv wr => ∃ k : Nat, k ≤ n ∧ iv = .int .i64 (k : Int) ∧ idxE z ns 0 = idxE z (ns.drop k) k ∧ Below w.heap.size w wr) (fun _ iv _ => n - (intOf iv).toNat)
  case atStart => exact ⟨0, Nat.zero_le _, rfl, by rw [List.drop_zero], Below.refl _ _⟩
  case round =>
    obtain ⟨k, hk, rfl, hix, hbr⟩ := hrel
    have HBR := hid hbr
    by_cases hlt : k < n
    · have hltI : (k : Int) < (n : Int) := by omega
      obtain ⟨y, hy⟩ : ∃ y, ns[k]? = some y := ⟨ns[k]'(by have := HE.out.len; omega), by rw [List.getElem?_eq_getElem]⟩
      obtain rfl := HE.out.at' (by omega)
      have hy0 := HE.out.cells k y hy
      obtain ⟨a0, a1, a2, a3⟩ := hy0.below hbr (lt_of_cell hy0.1)
      rw [idxE_at hy] at hix
      have HC := hid (rem1_any y (cell_below HI.out.1 hbr (lt_of_cell HI.out.1)) (cell_below HI.out.2 hbr (lt_of_cell HI.out.2)))
      clear hy hy0 hbr
      by_cases ha : y.id = z
      · rw [if_pos ha] at hix
        rw [show (y.id == z) = true from by rw [beq_iff_eq]; exact ha] at HC
        have HX := hid hix
        clear hix ha
        go_wp2_with (go_at_call 76; refine HC.out.mono ?_; rintro e w1 ⟨rfl, hb1⟩; have HB1 := hid (HBR.out.trans (hb1.mono HBR.out.size)); clear hb1 HC)
        go_ret
        rw [HX.out]; exact ⟨rfl, HB1.out⟩
      · rw [if_neg ha] at hix
        rw [show (y.id == z) = false from by rw [beq_eq_false_iff_ne]; exact ha] at HC
        have HX := hid hix
        clear hix ha
        go_wp2_with (go_at_call 76; refine HC.out.mono ?_; rintro e w1 ⟨rfl, hb1⟩; have HB1 := hid (HBR.out.trans (hb1.mono HBR.out.size)); clear hb1 HC)
        go_roundw
        case rel => exact ⟨k + 1, by omega, by go_num, HX.out, HB1.out⟩
        case measure => simp [intOf]; omega
    · have hltI : ¬ (k : Int) < (n : Int) := by omega
      have HX := hid (show idxE z ns 0 = -1 by rw [hix, List.drop_of_length_le (by have := HE.out.len; omega)]; rfl)
      clear hix hbr
      go_wp2
      go_ret
      rw [HX.out]; exact ⟨rfl, HBR.out⟩

set_option maxRecDepth 100000 in
set_option maxHeartbeats 1600000 in
theorem removeN_any {w : World} {base n cap j : Nat} {ao : Option Addr} {xs : List NR} (h : NdRow w base (.slice ao n cap) xs) (hn : xs.length = n) (hb : base ≤ w.heap.size) (hl : n ≤ 1000) {z : Int} (hz : idxE z xs 0 = (j : Int)) (hj : j < n) :
    Calls Tryz.prog 53 #[.slice ao n cap, .int .i64 z, idV] w fun e w' => (e = .returned (.slice ao (n - 1) cap) ∧ NdRow w' base (.slice ao (n - 1) cap) (xs.eraseIdx j) ∧ ∀ k, k < w.heap.size → (Value.slice ao n cap).ownBlock ≠ some k → w'.heap[k]? = w.heap[k]?) ∧ Below base w w' := by
  obtain ⟨wA, hwA⟩ : ∃ wA, w.alloc (.cells #[.int .i64 z] 3) = wA := ⟨_, rfl⟩
  have hbA : Below w.heap.size w wA := by rw [← hwA]; exact (Below.refl _ w).alloc (Nat.le_refl _) _
  have hhA : wA.heap[w.heap.size]? = some (.cells #[.int .i64 z] 3 (0, 0)) := by rw [← hwA]; exact World.alloc_heap_new w _
  obtain ⟨wB, hwB⟩ : ∃ wB, wA.alloc (.cells #[idV] 75) = wB := ⟨_, rfl⟩
  have hbB : Below wA.heap.size wA wB := by rw [← hwB]; exact (Below.refl _ wA).alloc (Nat.le_refl _) _
  have hhB : wB.heap[wA.heap.size]? = some (.cells #[idV] 75 (0, 0)) := by rw [← hwB]; exact World.alloc_heap_new wA _
  have hb2 : Below w.heap.size w wB := hbA.trans (hbB.mono hbA.size)
  have hf : wB.cell? ⟨wA.heap.size, 0, none⟩ = some idV := by simp [World.cell?, hhB]
  have hX : wB.cell? ⟨w.heap.size, 0, none⟩ = some (.int .i64 z) := by simp [World.cell?, (hbB.block _ (lt_of_heap hhA)).trans hhA]
  have hrow := h.below hb2
  subst hn
  obtain ⟨g, ao2, cap2, he, hd⟩ := hrow.nde hl
  injection he with e1 _ e3
  subst e1 e3
  have HIX := hid (indexR_any (cap := cap) hd hf hX)
  rw [hz] at HIX
  have HDEL := hid (fun (W : World) (hW : Below wB.heap.size wB W) => deleteOne_any (hrow.below hW) rfl (Nat.le_trans hb (Nat.le_trans hb2.size hW.size)) hl hj)
  have HB := hid (And.intro hb2 hb)
  have hjI : ¬ ((j : Int) < 0) := by omega
  have hw1 : IntKind.i64.wrap ((j : Int) + 1) = (j : Int) + 1 := by rw [IntKind.wrap_i64]; omega
  clear hbA hhA hbB hhB hf hX hrow hd h hb2
  go_enter Tryz.func53, Tryz.ntmps53
  go_wp2_with (first
    | (go_at_call 43; refine HIX.out.mono ?_; rintro e w1 ⟨rfl, hb1⟩; have H1 := hid hb1; clear HIX hb1)
    | (go_at_call 77; refine (HDEL.out _ H1.out).mono ?_; rintro e w2 ⟨rfl, hv, hb2, g', hg, hk⟩; have H2 := hid (And.intro hv (And.intro (((HB.out.1.mono HB.out.2).trans (H1.out.mono (Nat.le_trans HB.out.2 HB.out.1.size))).trans hb2) (show ∀ k, k < w.heap.size → (Value.slice ao xs.length cap).ownBlock ≠ some k → w2.heap[k]? = w.heap[k]? from fun k hk0 hne => (hk.keep k (Nat.lt_of_lt_of_le hk0 (Nat.le_trans HB.out.1.size H1.out.size)) (fun e => hne (by rw [hg, e]; rfl))).trans ((H1.out.block k (Nat.lt_of_lt_of_le hk0 HB.out.1.size)).trans (HB.out.1.block k hk0))))); clear HDEL hv hb2 hk hg))
  go_ret
  exact ⟨⟨rfl, H2.out.1, H2.out.2.2⟩, H2.out.2.1⟩
end Go.Proofs.YtkdnkmheidbfdaaGreat

namespace Go.Proofs.YtkdnkmheidbfdaaGreat
open Go.RowKit Go.Shelf Go.Sort Go.Maps

set_option maxRecDepth 100000 in
set_option maxHeartbeats 3200000 in
theorem withNode_e {w : World} {eo : Option Addr} {en ec base n cap : Nat} {ao : Option Addr} {xs : List NR} (h : NdRow w base (.slice ao n cap) xs) (hn : xs.length = n) (hb : base ≤ w.heap.size) (hl : n ≤ 1000) (x : NR) (hx : ∀ y ∈ xs, y.id ≤ x.id) :
    Calls Tryz.prog 15 #[plV (.slice ao n cap) (.slice eo en ec), nrV x] w fun e w' => (∃ v, e = .returned (plV v (.slice eo en ec)) ∧ NdRow w' base v (xs ++ [x]) ∧ ∀ k, k < w.heap.size → (Value.slice ao n cap).ownBlock ≠ some k → w'.heap[k]? = w.heap[k]?) ∧ Below base w w' := by
  obtain ⟨wP, hwP⟩ : ∃ wP, w.alloc (.cells #[.slice ao n cap, .slice eo en ec] 32) = wP := ⟨_, rfl⟩
  have hbP : Below w.heap.size w wP := by rw [← hwP]; exact (Below.refl _ w).alloc (Nat.le_refl _) _
  have hhP : wP.heap[w.heap.size]? = some (.cells #[.slice ao n cap, .slice eo en ec] 32 (0, 0)) := by rw [← hwP]; exact World.alloc_heap_new w _
  obtain ⟨wQ, hwQ⟩ : ∃ wQ, wP.alloc (nrO x) = wQ := ⟨_, rfl⟩
  have hbQ : Below wP.heap.size wP wQ := by rw [← hwQ]; exact (Below.refl _ wP).alloc (Nat.le_refl _) _
  have hhQ : wQ.heap[wP.heap.size]? = some (nrO x) := by rw [← hwQ]; exact World.alloc_heap_new wP _
  obtain ⟨wR, hwR⟩ : ∃ wR, wQ.alloc (.cells #[.slice none 0 0, .slice none 0 0] 32) = wR := ⟨_, rfl⟩
  have hbR : Below wQ.heap.size wQ wR := by rw [← hwR]; exact (Below.refl _ wQ).alloc (Nat.le_refl _) _
  have hhR : wR.heap[wQ.heap.size]? = some (.cells #[.slice none 0 0, .slice none 0 0] 32 (0, 0)) := by rw [← hwR]; exact World.alloc_heap_new wQ _
  have l1 : w.heap.size < wP.heap.size := lt_of_heap hhP
  have l2 : wP.heap.size < wQ.heap.size := lt_of_heap hhQ
  have l3 : wQ.heap.size < wR.heap.size := lt_of_heap hhR
  have hhQ' := (hbR.block _ l2).trans hhQ
  have hhP' := (hbR.block _ (by omega)).trans ((hbQ.block _ l1).trans hhP)
  obtain ⟨c0, c1, c2, c3⟩ := box2_cell hhP'
  obtain ⟨q0, q1, q2, q3⟩ := nr_cells hhQ'
  simp only [Nat.zero_add] at q1 q2 q3
  have hbw : Below w.heap.size w wR := hbP.trans ((hbQ.mono hbP.size).trans (hbR.mono (Nat.le_trans hbP.size hbQ.size)))
  have HI := hid (insertN_any (h.below hbw) hn (by omega) hl x hx)
  have HB := hid (And.intro hbw (And.intro hhP' (And.intro hhR (And.intro l1 (And.intro l2 l3)))))
  have hL : (xs ++ [x]).length = n + 1 := by rw [List.length_append, hn]; rfl
  have HG := hid (show ∀ k, (Value.slice ao n cap).ownBlock = some k → k < w.heap.size from fun k hk => (h.lt hk).1)
  clear hbP hhP hbQ hhQ hbR hhR hhQ' hhP' h hx hbw
  go_enter Tryz.func15, Tryz.ntmps15
  go_wp2_with (go_at_call 36; refine HI.out.mono ?_; rintro e w1 ⟨⟨v, rfl, hv, hk1⟩, hb1⟩; obtain ⟨vo, vc, hve, hvc, hvg⟩ := hv.form; rw [hL] at hve hvc hvg; subst hve; have hne : ∀ k, w.heap.size ≤ k → (Value.slice ao n cap).ownBlock ≠ some k := (fun k hk e => by have := HG.out k e; omega); have hP1 := (hk1.keep w.heap.size (by omega) (hne _ (Nat.le_refl _))).trans HB.out.2.1; have hR1 := (hk1.keep wQ.heap.size (by omega) (hne _ (by omega))).trans HB.out.2.2.1; clear c0 c1 c2 c3 q0 q1 q2 q3; obtain ⟨c0, c1, c2, c3⟩ := box2_cell hP1; obtain ⟨r0, r1, r2, r3⟩ := box2_cell hR1; have e1 : ¬ w.heap.size = wQ.heap.size := (by omega); have e2 : ¬ wQ.heap.size = w.heap.size := (by omega); have H1 := hid (And.intro hv (And.intro hb1 (And.intro hP1 (And.intro hR1 hk1)))); clear HI hv hb1 hk1 hvc hvg hne hP1 hR1)
  obtain ⟨hv, hb1, hP1, hR1, hk1⟩ := H1.out
  obtain ⟨V, hV⟩ : ∃ V, w1.setCell ⟨w.heap.size, 0, none⟩ (.slice vo (n + 1) vc) = V := ⟨_, rfl⟩
  obtain ⟨U, hU⟩ : ∃ U, (V.setCell ⟨wQ.heap.size, 0, none⟩ (.slice vo (n + 1) vc)).setCell ⟨wQ.heap.size, 1, none⟩ (.slice eo en ec) = U := ⟨_, rfl⟩
  have hO : ∀ k, k ≠ w.heap.size → V.heap[k]? = w1.heap[k]? := fun k hk => by rw [← hV]; exact Below.heap_setCell _ _ _ k hk
  have hRU : U.heap[wQ.heap.size]? = some (.cells #[.slice vo (n + 1) vc, .slice eo en ec] 32 (0, 0)) := by rw [← hU]; exact set1 (set1 ((hO _ e2).trans hR1) _) _
  have hO2 : ∀ k, k ≠ wQ.heap.size → U.heap[k]? = V.heap[k]? := fun k hk => by rw [← hU]; exact (Below.heap_setCell _ _ _ k hk).trans (Below.heap_setCell _ _ _ k hk)
  have hbw := HB.out.1
  have hq : base ≤ wQ.heap.size := by omega
  have hbU : Below base w U := by rw [← hU, ← hV]; exact ((((hbw.mono hb).trans hb1).setCell hb _).setCell hq _).setCell hq _
  have hrU : NdRow U base (.slice vo (n + 1) vc) (xs ++ [x]) := hv.same fun g hg => (hO2 g (by rcases hk1.own g hg with q | q; have := HG.out g q; omega; omega)).trans (hO g (by rcases hk1.own g hg with q | q; have := HG.out g q; omega; omega))
  have hkU : ∀ k, k < w.heap.size → (Value.slice ao n cap).ownBlock ≠ some k → U.heap[k]? = w.heap[k]? := fun k hk hne => (hO2 k (by omega)).trans ((hO k (by omega)).trans ((hk1.keep k (Nat.lt_of_lt_of_le hk hbw.size) hne).trans (hbw.block k hk)))
  obtain ⟨u0, u1, _, _⟩ := box2_cell hRU
  rw [hV, hU]
  clear hU hV hRU hO hO2 hv hb1 hP1 hR1 hk1
  (try simp only [Exit.inBlock, Exit.then])
  refine bodyPost_ret (v := plV (.slice vo (n + 1) vc) (.slice eo en ec)) (by simp [results, Tryz.results15, go_sem, u0, u1]) rfl ?_
  exact ⟨⟨_, rfl, hrU, hkU⟩, hbU⟩

set_option maxRecDepth 100000 in
set_option maxHeartbeats 3200000 in
theorem withoutNode_e {w : World} {eo : Option Addr} {en ec base n cap j : Nat} {ao : Option Addr} {xs : List NR} (h : NdRow w base (.slice ao n cap) xs) (hn : xs.length = n) (hb : base ≤ w.heap.size) (hl : n ≤ 1000) {z : Int} (hz : idxE z xs 0 = (j : Int)) (hj : j < n) :
    Calls Tryz.prog 24 #[plV (.slice ao n cap) (.slice eo en ec), .int .i64 z] w fun e w' => (e = .returned (plV (.slice ao (n - 1) cap) (.slice eo en ec)) ∧ NdRow w' base (.slice ao (n - 1) cap) (xs.eraseIdx j) ∧ ∀ k, k < w.heap.size → (Value.slice ao n cap).ownBlock ≠ some k → w'.heap[k]? = w.heap[k]?) ∧ Below base w w' := by
  obtain ⟨wP, hwP⟩ : ∃ wP, w.alloc (.cells #[.slice ao n cap, .slice eo en ec] 32) = wP := ⟨_, rfl⟩
  have hbP : Below w.heap.size w wP := by rw [← hwP]; exact (Below.refl _ w).alloc (Nat.le_refl _) _
  have hhP : wP.heap[w.heap.size]? = some (.cells #[.slice ao n cap, .slice eo en ec] 32 (0, 0)) := by rw [← hwP]; exact World.alloc_heap_new w _
  obtain ⟨wR, hwR⟩ : ∃ wR, wP.alloc (.cells #[.slice none 0 0, .slice none 0 0] 32) = wR := ⟨_, rfl⟩
  have hbR : Below wP.heap.size wP wR := by rw [← hwR]; exact (Below.refl _ wP).alloc (Nat.le_refl _) _
  have hhR : wR.heap[wP.heap.size]? = some (.cells #[.slice none 0 0, .slice none 0 0] 32 (0, 0)) := by rw [← hwR]; exact World.alloc_heap_new wP _
  have l1 : w.heap.size < wP.heap.size := lt_of_heap hhP
  have l3 : wP.heap.size < wR.heap.size := lt_of_heap hhR
  have hhP' := (hbR.block _ l1).trans hhP
  obtain ⟨c0, c1, c2, c3⟩ := box2_cell hhP'
  have hbw : Below w.heap.size w wR := hbP.trans (hbR.mono hbP.size)
  have HI := hid (removeN_any (h.below hbw) hn (by omega) hl hz hj)
  have HB := hid (And.intro hbw (And.intro hhP' (And.intro hhR (And.intro l1 l3))))
  have HG := hid (show ∀ k, (Value.slice ao n cap).ownBlock = some k → k < w.heap.size from fun k hk => (h.lt hk).1)
  clear hbP hhP hbR hhR hhP' h hz hbw
  go_enter Tryz.func24, Tryz.ntmps24
  go_wp2_with (go_at_call 53; refine HI.out.mono ?_; rintro e w1 ⟨⟨rfl, hv, hk1⟩, hb1⟩; have hne : ∀ k, w.heap.size ≤ k → (Value.slice ao n cap).ownBlock ≠ some k := (fun k hk e => by have := HG.out k e; omega); have hP1 := (hk1 w.heap.size (by omega) (hne _ (Nat.le_refl _))).trans HB.out.2.1; have hR1 := (hk1 wP.heap.size (by omega) (hne _ (by omega))).trans HB.out.2.2.1; clear c0 c1 c2 c3; obtain ⟨c0, c1, c2, c3⟩ := box2_cell hP1; obtain ⟨r0, r1, r2, r3⟩ := box2_cell hR1; have e1 : ¬ w.heap.size = wP.heap.size := (by omega); have e2 : ¬ wP.heap.size = w.heap.size := (by omega); have H1 := hid (And.intro hv (And.intro hb1 (And.intro hP1 (And.intro hR1 hk1)))); clear HI hv hb1 hk1 hne hP1 hR1)
  obtain ⟨hv, hb1, hP1, hR1, hk1⟩ := H1.out
  obtain ⟨V, hV⟩ : ∃ V, w1.setCell ⟨w.heap.size, 0, none⟩ (.slice ao (n - 1) cap) = V := ⟨_, rfl⟩
  obtain ⟨U, hU⟩ : ∃ U, (V.setCell ⟨wP.heap.size, 0, none⟩ (.slice ao (n - 1) cap)).setCell ⟨wP.heap.size, 1, none⟩ (.slice eo en ec) = U := ⟨_, rfl⟩
  have hO : ∀ k, k ≠ w.heap.size → V.heap[k]? = w1.heap[k]? := fun k hk => by rw [← hV]; exact Below.heap_setCell _ _ _ k hk
  have hRU : U.heap[wP.heap.size]? = some (.cells #[.slice ao (n - 1) cap, .slice eo en ec] 32 (0, 0)) := by rw [← hU]; exact set1 (set1 ((hO _ e2).trans hR1) _) _
  have hO2 : ∀ k, k ≠ wP.heap.size → U.heap[k]? = V.heap[k]? := fun k hk => by rw [← hU]; exact (Below.heap_setCell _ _ _ k hk).trans (Below.heap_setCell _ _ _ k hk)
  have hbw := HB.out.1
  have hq : base ≤ wP.heap.size := by omega
  have hbU : Below base w U := by rw [← hU, ← hV]; exact ((((hbw.mono hb).trans hb1).setCell hb _).setCell hq _).setCell hq _
  have hrU : NdRow U base (.slice ao (n - 1) cap) (xs.eraseIdx j) := hv.same fun g hg => (hO2 g (by have := HG.out g (by cases ao <;> exact hg); omega)).trans (hO g (by have := HG.out g (by cases ao <;> exact hg); omega))
  have hkU : ∀ k, k < w.heap.size → (Value.slice ao n cap).ownBlock ≠ some k → U.heap[k]? = w.heap[k]? := fun k hk hne => (hO2 k (by omega)).trans ((hO k (by omega)).trans ((hk1 k (Nat.lt_of_lt_of_le hk hbw.size) hne).trans (hbw.block k hk)))
  obtain ⟨u0, u1, _, _⟩ := box2_cell hRU
  rw [hV, hU]
  clear hU hV hRU hO hO2 hv hb1 hP1 hR1 hk1
  (try simp only [Exit.inBlock, Exit.then])
  refine bodyPost_ret (v := plV (.slice ao (n - 1) cap) (.slice eo en ec)) (by simp [results, Tryz.results24, go_sem, u0, u1]) rfl ?_
  exact ⟨⟨rfl, hrU, hkU⟩, hbU⟩
end Go.Proofs.YtkdnkmheidbfdaaGreat
