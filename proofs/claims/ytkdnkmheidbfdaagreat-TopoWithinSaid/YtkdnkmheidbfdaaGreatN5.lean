/-
  Layer 17: draft's IDs of a row of nodes.
-/
import Derived.Test.YtkdnkmheidbfdaaGreatN1
import Derived.Test.YtkdnkmheidbfdaaGreatMS
import Derived.Deep.RegionWith
import Derived.Test.YtkdnkmheidbfdaaGreatM5
namespace Go.Proofs.YtkdnkmheidbfdaaGreat
open Go.RowKit Go.Shelf Go.Sort

theorem make_ints (m : Nat) (hm : m ≤ 100000) : ∃ C, ∀ w : World, (Instr.makeSlice 47 (.int .i64 (m : Int)) (.int .i64 (m : Int))).run Tryz.prog w = .ok (.slice (some ⟨w.heap.size, 0, none⟩) m m) (w.alloc (.cells C 3)) ∧ NRow (w.alloc (.cells C 3)) w.heap.size (.slice (some ⟨w.heap.size, 0, none⟩) m m) (List.replicate m 0) := by
  obtain ⟨i0, hi, hz0, hz1, hz2⟩ := info_parts infoInt
  refine ⟨madeCells #[.int .i64 0] m, fun w => ⟨?_, ?_⟩⟩
  · have := run_make (P := Tryz.prog) w 47 3 i0 _ Tryz.underlying47 hi hz0 .i64 .i64 m m (by omega) (by omega) (by rw [hz2]; omega) (by omega)
    rw [hz1, Nat.mul_one] at this
    exact this
  · have e : (madeCells #[Value.int .i64 0] m).toList = (List.replicate m (0 : Int)).map (Value.int .i64) := by rw [toList_madeCells_one, List.map_replicate]
    refine ⟨by simp, .inr ⟨w.heap.size, m, madeCells #[.int .i64 0] m, by simp, Nat.le_refl _, World.alloc_heap_new w _, by simp, by unfold maxLen; omega, by rw [size_madeCells]; omega, ?_⟩⟩
    rw [e, List.length_replicate, Nat.mul_one, List.take_of_length_le (by simp)]

set_option maxRecDepth 100000 in
set_option maxHeartbeats 1600000 in
theorem nodeID_any (x : NR) (w : World) : Calls Tryz.prog 35 #[nrV x] w fun e w' => e = .returned (.int .i64 x.id) ∧ Below w.heap.size w w' := by
  obtain ⟨wA, hwA⟩ : ∃ wA, w.alloc (nrO x) = wA := ⟨_, rfl⟩
  have hbA : Below w.heap.size w wA := by rw [← hwA]; exact (Below.refl _ w).alloc (Nat.le_refl _) _
  obtain ⟨a0, a1, a2, a3⟩ := nr_cells (show wA.heap[w.heap.size]? = some (nrO x) by rw [← hwA]; exact World.alloc_heap_new w _)
  have HB := hid hbA
  clear hbA
  go_enter Tryz.func35, Tryz.ntmps35
  go_wp2
  go_ret
  exact ⟨rfl, HB.out⟩

/-- A row of numbers under way: the first are there. -/
def wayI (zs : List Int) (k : Nat) : List Int := zs.take k ++ List.replicate (zs.length - k) 0
theorem wayI_zero (zs : List Int) : wayI zs 0 = List.replicate zs.length 0 := by unfold wayI; rw [List.take_zero, List.nil_append, Nat.sub_zero]
theorem wayI_all (zs : List Int) : wayI zs zs.length = zs := by unfold wayI; rw [List.take_length, Nat.sub_self, List.replicate_zero, List.append_nil]
theorem wayI_len (zs : List Int) {k : Nat} (hk : k ≤ zs.length) : (wayI zs k).length = zs.length := by unfold wayI; rw [List.length_append, List.length_take, List.length_replicate]; omega
theorem wayI_set (zs : List Int) {k : Nat} {z : Int} (h : zs[k]? = some z) : (wayI zs k).set k z = wayI zs (k + 1) := by
  have hk : k < zs.length := (List.getElem?_eq_some_iff.1 h).1
  have hl : (zs.take k).length = k := by rw [List.length_take]; omega
  unfold wayI
  rw [List.set_append_right (h := by omega), hl, Nat.sub_self, show zs.length - k = (zs.length - (k + 1)) + 1 by omega, List.replicate_succ, List.set_cons_zero, List.take_add_one, h, List.append_assoc]
  rfl

set_option maxRecDepth 100000 in
set_option maxHeartbeats 3200000 in
theorem idsN_any {w : World} {b off n cap : Nat} {ao : Option Addr} {ns : List NR} (h : NdE w b off n ao ns) :
    Calls Tryz.prog 34 #[.slice ao n cap, .func (.func 35) #[] #[]] w fun e w' => (∃ v, e = .returned v ∧ NRow w' w.heap.size v (ns.map (·.id))) ∧ Below w.heap.size w w' := by
  have hfew := h.few
  have hlen := h.len
  obtain ⟨C, hC⟩ := make_ints n (by omega)
  have hmk := fun wx => (hC wx).1
  obtain ⟨wA, hwA⟩ : ∃ wA, w.alloc (.cells C 3) = wA := ⟨_, rfl⟩
  have hbA : Below w.heap.size w wA := by rw [← hwA]; exact (Below.refl _ w).alloc (Nat.le_refl _) _
  have hrA := (hC w).2
  rw [hwA] at hrA
  obtain ⟨Z, hZ⟩ : ∃ Z, ns.map (·.id) = Z := ⟨_, rfl⟩
  have hZl : Z.length = n := by rw [← hZ, List.length_map, hlen]
  rw [hZ]
  have hWL : ∀ k, k ≤ n → (wayI Z k).length = n := fun k hk => by rw [wayI_len Z (by omega), hZl]
  have HE := hid h
  have HA := hid (show NRow wA w.heap.size (.slice (some ⟨w.heap.size, 0, none⟩) n n) (wayI Z 0) ∧ Below w.heap.size w wA from ⟨by rw [wayI_zero, hZl]; exact hrA, hbA⟩)
  have HID := hid (fun x W => nodeID_any x W)
  clear h hC hrA hbA
  go_enter Tryz.func34, Tryz.ntmps34
  go_wp2
  clear hmk hwA
  go_loopw [6, 7, 13] (fun _ _ iv wr => ∃ k : Nat, k ≤ n ∧ iv = .int .i64 (k : Int) ∧ NRow wr w.heap.size (.slice (some ⟨w.heap.size, 0, none⟩) n n) (wayI Z k) ∧ Below w.heap.size w wr) (fun _ _ iv _ => n - (intOf iv).toNat)
  case atStart => exact ⟨0, Nat.zero_le _, rfl, HA.out.1, HA.out.2⟩
  case round =>
    obtain ⟨k, hk, rfl, hrow, hbr⟩ := hrel
    by_cases hlt : k < n
    · have hltI : (k : Int) < (n : Int) := by omega
      obtain ⟨x, hx⟩ : ∃ x, ns[k]? = some x := ⟨ns[k]'(by omega), by rw [List.getElem?_eq_getElem]⟩
      obtain rfl := HE.out.at' (by omega)
      have hx0 := HE.out.cells k x hx
      obtain ⟨a0, a1, a2, a3⟩ := hx0.below hbr (lt_of_cell hx0.1)
      obtain ⟨V, hV⟩ : ∃ V, wr.alloc (nrO x) = V := ⟨_, rfl⟩
      have hbV : Below wr.heap.size wr V := by rw [← hV]; exact (Below.refl _ wr).alloc (Nat.le_refl _) _
      obtain ⟨e0, e1, e2, e3⟩ := nr_cells (show V.heap[wr.heap.size]? = some (nrO x) by rw [← hV]; exact World.alloc_heap_new wr _)
      have hZk : Z[k]? = some x.id := by rw [← hZ, List.getElem?_map, hx]; rfl
      have HC := hid (HID.out x V)
      have HN := hid (show ∀ w1 : World, Below V.heap.size V w1 → w1.frozen? ⟨w.heap.size, k, none⟩ = false ∧ (∃ z0, w1.cell? ⟨w.heap.size, k, none⟩ = some (.int .i64 z0)) ∧ NRow (w1.setCell ⟨w.heap.size, k, none⟩ (.int .i64 x.id)) w.heap.size (.slice (some ⟨w.heap.size, 0, none⟩) n n) (wayI Z (k + 1)) ∧ Below w.heap.size w w1 from fun w1 hb1 => by
        have r5 := (hrow.below hbV).below hb1
        have hlk : k < (wayI Z k).length := by rw [hWL k (by omega)]; omega
        refine ⟨NRow.frz r5 (hWL k (by omega)) k, ⟨_, NRow.cell r5 (hWL k (by omega)) (List.getElem?_eq_getElem hlk)⟩, ?_, hbr.trans ((hbV.trans (hb1.mono hbV.size)).mono hbr.size)⟩
        rw [← wayI_set Z hZk]
        exact NRow.put r5 (hWL k (by omega)) k x.id)
      clear hx hx0 hbr hbV hrow hZk
      go_wp2_with (go_at_call 35; refine HC.out.mono ?_; rintro e w1 ⟨rfl, hb1⟩; obtain ⟨hf, ⟨z0, hcl⟩, hq, hb2⟩ := HN.out _ hb1; have HQ := hid (And.intro hq hb2); clear hb1 HC HN hq hb2)
      go_roundw
      case rel => exact ⟨k + 1, by omega, by go_num, HQ.out.1, HQ.out.2.setCell (Nat.le_refl _) _⟩
      case measure => simp [intOf]; omega
    · have hltI : ¬ (k : Int) < (n : Int) := by omega
      obtain rfl : k = n := by omega
      have HR := hid (And.intro hrow hbr)
      clear hrow hbr
      go_wp2
      go_ret
      have hq := HR.out.1
      rw [← hZl, wayI_all, hZl] at hq
      exact ⟨⟨_, rfl, hq⟩, HR.out.2⟩
end Go.Proofs.YtkdnkmheidbfdaaGreat

namespace Go.Proofs.YtkdnkmheidbfdaaGreat
open Go.RowKit Go.Shelf Go.Sort Go.Maps

theorem plE_none (w : World) : PlE w 0 0 0 none [] [] :=
  ⟨rfl, by omega, fun k => by simp [grp], fun k x h => by simp at h, fun i j x y _ h => by simp at h, fun h => by omega, fun _ => rfl, fun x h => by simp at h, fun x h => by simp at h, fun k => by simp, fun k x h => by simp at h⟩
theorem rings_none : ringsL [] [] = [] := by rfl
theorem borders_none : bordersL [] [] = [] := by unfold bordersL; rw [rings_none]; rfl
theorem outers_none : outersL [] [] = [] := by unfold outersL; rw [borders_none]; rfl
theorem taken_none (ns : List NR) (q : Pp) : takenF ns 0 [] q = ns.any (atN q.1 q.2) := by unfold takenF; simp

/-- The first region of a plan without edges, as it lies in memory. -/
theorem reg_none {w w' : World} {v : Value} {al : List NR} (h : RegIs w w' v [] [] al 1) : ∃ G iv nv, v = .slice (some ⟨G, 0, none⟩) 1 1 ∧ w'.cell? ⟨G, 0, none⟩ = some (.slice none 0 0) ∧ w'.cell? ⟨G, 1, none⟩ = some iv ∧ w'.cell? ⟨G, 2, none⟩ = some nv := by
  obtain ⟨G, wS, zs, IV, NV, rfl, hzs, hI, _⟩ := h
  obtain rfl : zs = [] := by simpa using hzs
  obtain ⟨h0, h1, h2⟩ := hI.cells.at (k := 0) (by omega)
  rw [Nat.zero_mul] at h0
  simp only [Nat.zero_mul, Nat.zero_add] at h1 h2
  exact ⟨G, _, _, rfl, h0, h1, h2⟩

set_option maxRecDepth 100000 in
set_option maxHeartbeats 1600000 in
theorem faceOf_none (pn pe iv nv : Value) (w : World) :
    Calls Tryz.prog 30 #[plV pn pe, .agg #[.slice none 0 0, iv, nv]] w fun e w' => e = .returned (.int .i64 0) ∧ Below w.heap.size w w' := by
  obtain ⟨wP, hwP⟩ : ∃ wP, w.alloc (.cells #[pn, pe] 32) = wP := ⟨_, rfl⟩
  have hbP : Below w.heap.size w wP := by rw [← hwP]; exact (Below.refl _ w).alloc (Nat.le_refl _) _
  obtain ⟨wQ, hwQ⟩ : ∃ wQ, wP.alloc (.cells #[.slice none 0 0, iv, nv] 67) = wQ := ⟨_, rfl⟩
  have hbQ : Below wP.heap.size wP wQ := by rw [← hwQ]; exact (Below.refl _ wP).alloc (Nat.le_refl _) _
  have hhQ : wQ.heap[wP.heap.size]? = some (.cells #[.slice none 0 0, iv, nv] 67 (0, 0)) := by rw [← hwQ]; exact World.alloc_heap_new wP _
  have q0 : wQ.cell? ⟨wP.heap.size, 0, none⟩ = some (.slice none 0 0) := by simp [World.cell?, hhQ]
  have HB := hid (hbP.trans (hbQ.mono hbP.size))
  clear hbP hbQ hhQ
  go_enter Tryz.func30, Tryz.ntmps30
  go_wp2
  go_ret
  exact ⟨rfl, HB.out⟩

set_option maxRecDepth 100000 in
set_option maxHeartbeats 3200000 in
theorem topoFaceAt_bare {w : World} {nb noff nl nc ec : Nat} {no : Option Addr} {ns : List NR} (hd : NdE w nb noff nl no ns) (h0 : nl = 0 → no = none) (hi : ∀ x ∈ ns, -1000000 ≤ x.id ∧ x.id ≤ 1000000) (hr : RiseN ns) (qx qy : Int) :
    Calls Tryz.prog 12 #[plV (.slice no nl nc) (.slice none 0 ec), pv qx qy] w fun e w' => e = .returned (.tuple #[.int .i64 0, .bool !(ns.any (atN qx qy))]) ∧ Below w.heap.size w w' := by
  obtain ⟨wP, hwP⟩ : ∃ wP, w.alloc (.cells #[.slice no nl nc, .slice none 0 ec] 32) = wP := ⟨_, rfl⟩
  have hbP : Below w.heap.size w wP := by rw [← hwP]; exact (Below.refl _ w).alloc (Nat.le_refl _) _
  have hhP : wP.heap[w.heap.size]? = some (.cells #[.slice no nl nc, .slice none 0 ec] 32 (0, 0)) := by rw [← hwP]; exact World.alloc_heap_new w _
  obtain ⟨wQ, hwQ⟩ : ∃ wQ, wP.alloc (.cells #[.int .i64 qx, .int .i64 qy] 23) = wQ := ⟨_, rfl⟩
  have hbQ : Below wP.heap.size wP wQ := by rw [← hwQ]; exact (Below.refl _ wP).alloc (Nat.le_refl _) _
  have hhQ : wQ.heap[wP.heap.size]? = some (.cells #[.int .i64 qx, .int .i64 qy] 23 (0, 0)) := by rw [← hwQ]; exact World.alloc_heap_new wP _
  have hh2 := (hbQ.block _ (lt_of_heap hhP)).trans hhP
  have hb : Below w.heap.size w wQ := hbP.trans (hbQ.mono hbP.size)
  have c0 : wQ.cell? ⟨w.heap.size, 0, none⟩ = some (.slice no nl nc) := by simp [World.cell?, hh2]
  have c1 : wQ.cell? ⟨w.heap.size, 1, none⟩ = some (.slice none 0 ec) := by simp [World.cell?, hh2]
  have q0 : wQ.cell? ⟨wP.heap.size, 0, none⟩ = some (.int .i64 qx) := by simp [World.cell?, hhQ]
  have q1 : wQ.cell? ⟨wP.heap.size, 1, none⟩ = some (.int .i64 qy) := by simp [World.cell?, hhQ]
  have hz : (if ns.any (atN qx qy) = true then (0 : Int) else leastP (fun _ => true) (qx, qy) []) = 0 := by split <;> rfl
  have HA := hid (fun W (hW : Below w.heap.size w W) => by
    have q := faceAt_any (cap := ec) (nc := nc) (plE_none W) (hd.below hW) (fun r hr => by rw [rings_none] at hr; simp at hr) (by rw [borders_none]; simp) qx qy
    rw [taken_none, outers_none] at q
    dsimp only at q
    rw [hz] at q
    exact q)
  have HR := hid (fun W (hW : Below w.heap.size w W) => regions_any (cap := ec) (nc := nc) (plE_none W) (hd.below hW) h0 hi hr (fun r hr => by rw [rings_none] at hr; simp at hr) (M := 0) (by rw [borders_none]; rfl) (by omega))
  rw [outers_none, borders_none] at HR
  have HF := hid (fun pn pe iv nv W => faceOf_none pn pe iv nv W)
  have HB := hid hb
  clear hz
  clear hd hi hr hbP hhP hbQ hhQ hh2 hb
  cases ht : ns.any (atN qx qy) with
  | true =>
    rw [ht] at HA
    clear ht HR
    go_enter Tryz.func12, Tryz.ntmps12
    go_wp2_with (go_at_call 29; refine (HA.out _ HB.out).mono ?_; rintro e w1 ⟨rfl, hb1⟩; have H1 := hid (HB.out.trans (hb1.mono HB.out.size)); clear hb1 HA)
    go_ret2
    exact ⟨rfl, H1.out⟩
  | false =>
    rw [ht] at HA
    clear ht
    go_enter Tryz.func12, Tryz.ntmps12
    go_wp2_with (go_at_call 29; refine (HA.out _ HB.out).mono ?_; rintro e w1 ⟨rfl, hb1⟩; have H1 := hid (HB.out.trans (hb1.mono HB.out.size)); have d0 := cell_below c0 hb1 (lt_of_cell c0); have d1 := cell_below c1 hb1 (lt_of_cell c1); clear hb1 HA c0 c1 q0 q1)
    go_region_with (first
      | (go_at_call 31; refine (HR.out _ H1.out.drew).mono ?_; rintro e w2 ⟨⟨v, rfl, hv⟩, hb2⟩; obtain ⟨G, iv, nv, rfl, g0, g1, g2⟩ := reg_none hv; have e0 := cell_below (show w1.drew.cell? ⟨w.heap.size, 0, none⟩ = _ from d0) hb2 (lt_of_cell d0); have e1 := cell_below (show w1.drew.cell? ⟨w.heap.size, 1, none⟩ = _ from d1) hb2 (lt_of_cell d1); have H2 := hid (H1.out.trans (((Below.refl _ w1).drew.trans hb2).mono H1.out.size)); clear HR hv hb2)
      | (go_at_call 30; refine (HF.out _ _ _ _ _).mono ?_; rintro e w3 ⟨rfl, hb3⟩; have H3 := hid (H2.out.trans (hb3.mono H2.out.size)); clear HF hb3))
    all_goals (go_wp2; go_ret2; exact ⟨rfl, H3.out⟩)
end Go.Proofs.YtkdnkmheidbfdaaGreat
