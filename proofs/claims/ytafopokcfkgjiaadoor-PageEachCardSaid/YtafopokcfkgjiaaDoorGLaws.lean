/-
  Layer 3: what terrierlaw3.Data, of, is, opened give.
-/
import Derived.Test.YtafopokcfkgjiaaDoorGState
namespace Go.Proofs.YtafopokcfkgjiaaDoor
open Go.RowKit

/-- The bytes of Data(n). -/
def dataB (n k : Nat) : Int := ((n * (k % 7 + 1) : Nat) : Int) % 256
def dataL (n : Nat) : List Int := (List.range 480).map (dataB n)
def dataTo (n k : Nat) : List Value := (List.range 480).map fun i => if i < k then Value.int .u8 (dataB n i) else .int .u8 0
theorem dataL_len (n : Nat) : (dataL n).length = 480 := by simp [dataL]
theorem dataL_by (n : Nat) : By (dataL n) := fun b hb => by
  simp only [dataL, List.mem_map] at hb
  obtain ⟨i, _, rfl⟩ := hb
  unfold dataB
  omega
theorem dataTo_zero (n : Nat) : dataTo n 0 = List.replicate 480 (Value.int .u8 0) := by
  apply List.ext_getElem (by rw [dataTo, List.length_map, List.length_range, List.length_replicate])
  intro i h1 h2
  rw [List.getElem_replicate]
  simp [dataTo]
theorem dataTo_full (n : Nat) : dataTo n 480 = secV (dataL n) := by
  apply List.ext_getElem (by simp [dataTo, secV, dataL])
  intro i h1 h2
  have : i < 480 := by simpa [dataTo] using h1
  simp [dataTo, secV, dataL, this]
theorem dataTo_set (n k : Nat) : (dataTo n k).set k (.int .u8 (dataB n k)) = dataTo n (k + 1) := by
  apply List.ext_getElem (by simp [dataTo])
  intro i h1 h2
  simp only [dataTo, List.getElem_set, List.getElem_map, List.getElem_range]
  by_cases h : k = i
  · subst h; simp
  · by_cases h' : i < k
    · rw [if_neg h, if_pos h', if_pos (by omega)]
    · rw [if_neg h, if_neg h', if_neg (by omega)]

set_option maxRecDepth 8000 in
theorem data_any (n : Nat) (w : World) (hn : n ≤ 65535) :
    Calls Tryd.prog 22 #[.int .i64 n] w fun e w' => ∃ g, e = .returned (.slice (some ⟨g, 0, none⟩) 480 480) ∧ w'.ownsRow w.heap.size 5 1 (.slice (some ⟨g, 0, none⟩) 480 480) 480 (secV (dataL n)) ∧ Below w.heap.size w w' := by
  obtain ⟨i0, hi, hz0, hz1, hz2⟩ := info_parts info5
  obtain ⟨C, hC⟩ : ∃ C, C = madeCells #[Value.int .u8 0] 480 := ⟨_, rfl⟩
  have hmk : ∀ wx : World, (Instr.makeSlice 31 (.int .i64 480) (.int .i64 480)).run Tryd.prog wx = .ok (.slice (some ⟨wx.heap.size, 0, none⟩) 480 480) (wx.alloc (.cells C 5)) := fun wx => by
    have := run_make (P := Tryd.prog) wx 31 5 i0 _ Tryd.underlying31 hi hz0 .i64 .i64 480 480 (by omega) (by omega) (by rw [hz2]; omega) (by omega)
    rw [hz1] at this
    rw [hC]
    exact this
  have hC2 : C.toList = dataTo n 0 := by rw [hC, toList_madeCells_one, dataTo_zero]
  have hC3 : C.size = 480 * 1 := by rw [hC]; exact size_madeCells _ _
  have h0 : (w.alloc (.cells C 5)).ownsRow w.heap.size 5 1 (.slice (some ⟨w.heap.size, 0, none⟩) 480 480) 480 (dataTo n 0) := by
    rw [← hC2]
    exact World.ownsRow_lit w C 480 (Nat.le_refl _) (by unfold maxLen; omega) hC3
  have H0 := hid h0
  clear hC hC2 hC3 h0 hi hz0 hz1 hz2
  go_enter Tryd.func22, Tryd.ntmps22
  go_wp2
  go_loopw [4, 8] (fun _ i wr => ∃ k : Nat, k ≤ 480 ∧ i = .int .i64 k ∧ wr.ownsRow w.heap.size 5 1 (.slice (some ⟨w.heap.size, 0, none⟩) 480 480) 480 (dataTo n k) ∧ Below w.heap.size w wr) (fun _ i _ => 480 - (intOf i).toNat)
  case atStart => exact ⟨0, by omega, rfl, H0.out, (Below.refl _ _).alloc (Nat.le_refl _) _⟩
  case round =>
    obtain ⟨k, hk, rfl, hown, hbr⟩ := hrel
    by_cases hlt : k < 480
    · have hce := hown.cellAt k (by omega)
      have hfe := hown.frozenAt k
      obtain ⟨x, hx⟩ : ∃ x, (dataTo n k)[k]? = some x := ⟨(dataTo n k)[k]'(by simp [dataTo]; omega), by simp⟩
      rw [hx] at hce
      have HO := hid hown
      obtain ⟨r, hr, hr7⟩ : ∃ r : Nat, (k : Int) % 7 = (r : Int) ∧ r < 7 := ⟨k % 7, by omega, by omega⟩
      have hdb : dataB n k = ((n : Int) * ((r : Int) + 1)) % 256 := by
        unfold dataB
        have : k % 7 = r := by omega
        rw [this]
        push_cast
        rfl
      have HDB := hid hdb
      have hm1 : (n : Int) * ((r : Int) + 1) ≤ 65535 * 7 := by
        have h1 : (n : Int) * ((r : Int) + 1) ≤ 65535 * ((r : Int) + 1) := Int.mul_le_mul_of_nonneg_right (by omega) (by omega)
        omega
      have hm0 : 0 ≤ (n : Int) * ((r : Int) + 1) := Int.mul_nonneg (by omega) (by omega)
      clear hx hown hdb
      go_wp2
      go_roundw
      case rel =>
        refine ⟨k + 1, by omega, by go_num, ?_, hbr.setCell (p := ⟨w.heap.size, k, none⟩) (Nat.le_refl _) _⟩
        have := (HO.out.stored k (.int .u8 (dataB n k))).1
        rw [dataTo_set, HDB.out] at this
        exact this
      case measure => simp [intOf]; omega
    · obtain rfl : k = 480 := by omega
      rw [dataTo_full] at hown
      have HO := hid hown
      clear hown
      go_wp2
      go_ret
      exact ⟨_, rfl, HO.out, hbr⟩
theorem i64_and65535 (n : Int) : bits .and .i64 n 65535 = n % 65536 := by
  have h31 : (BitVec.ofInt 64 65535).toNat = 2 ^ 16 - 1 := by decide
  have key : (BitVec.ofInt 64 n &&& BitVec.ofInt 64 65535).toNat = (n % ((2 ^ 64 : Nat) : Int)).toNat % 2 ^ 16 := by
    rw [BitVec.toNat_and, BitVec.toNat_ofInt, h31, Nat.and_two_pow_sub_one_eq_mod]
  show IntKind.i64.wrap ((BitVec.ofInt 64 n &&& BitVec.ofInt 64 65535).toNat : Nat) = n % 65536
  rw [key, IntKind.wrap_i64]
  omega
theorem far3 {w : World} {b c o : Nat} {x y z : Value} (h : b ≠ c) : (((w.setCell ⟨b, 0, none⟩ x).setCell ⟨b, 1, none⟩ y).setCell ⟨b, 2, none⟩ z).cell? ⟨c, o, none⟩ = w.cell? ⟨c, o, none⟩ := by
  rw [World.cell?_setCell_far _ _ _ _ h, World.cell?_setCell_far _ _ _ _ h, World.cell?_setCell_far _ _ _ _ h]
/-- The page that 'of' makes. -/
def pgOf (no n : Nat) : Pg := ⟨no, n, dataL n⟩
theorem pgOf_ok {no n np : Nat} (h : no < np) (hn : n ≤ 65535) : (pgOf no n).Ok np := ⟨h, by simp [pgOf], by simp [pgOf]; omega, dataL_len n, dataL_by n⟩

set_option maxRecDepth 8000 in
theorem of_any (no n : Nat) (w : World) (hn : n ≤ 65535) :
    Calls Tryd.prog 8 #[.agg #[.int .i64 no, .int .i64 n]] w fun e w' => ∃ a c, e = .returned (.agg #[.int .i64 no, .int .u64 n, .slice a 480 c]) ∧ w'.ownsRow w.heap.size 5 1 (.slice a 480 c) 480 (secV (dataL n)) ∧ Below w.heap.size w w' := by
  have hand : bits .and .i64 (n : Int) 65535 = (n : Int) := by rw [i64_and65535]; omega
  have hwu : IntKind.u64.wrap (n : Int) = (n : Int) := IntWalk.u64_in _ ⟨by omega, by omega⟩
  obtain ⟨wA, hwA⟩ : ∃ wA, w.alloc (.cells #[.int .i64 no, .int .i64 n] 36) = wA := ⟨_, rfl⟩
  have hszA : wA.heap.size = w.heap.size + 1 := by rw [← hwA]; simp
  obtain ⟨wB, hwB⟩ : ∃ wB, wA.alloc (.cells #[.int .i64 0, .int .u64 0, .slice none 0 0] 33) = wB := ⟨_, rfl⟩
  have hszB : wB.heap.size = w.heap.size + 2 := by rw [← hwB]; simp [hszA]
  have hbA : wB.heap[w.heap.size]? = some (.cells #[.int .i64 no, .int .i64 n] 36 (0, 0)) := by rw [← hwB, Below.heap_alloc _ _ _ (by omega), ← hwA]; exact heap_new w _
  have hbB : wB.heap[w.heap.size + 1]? = some (.cells #[.int .i64 0, .int .u64 0, .slice none 0 0] 33 (0, 0)) := by rw [← hwB, ← hszA]; exact heap_new wA _
  have hBB : Below w.heap.size w wB := by rw [← hwB, ← hwA]; exact ((Below.refl _ w).alloc (Nat.le_refl _) _).alloc (by simp) _
  have HBA := hid hbA
  have HBB := hid hbB
  have HBL := hid hBB
  have HDA := hid (data_any n wB.drew hn)
  have HC0 := hid (And.intro (cell_of_row wB.drew w.heap.size 0 _ _ _ hbA) (cell_of_row wB.drew w.heap.size 1 _ _ _ hbA))
  clear hbA hbB hBB
  go_enter Tryd.func8, Tryd.ntmps8
  go_wp2
  go_region_held (fun w' => w'.cell? ⟨w.heap.size, 0, none⟩ = some (.int .i64 no) ∧ w'.cell? ⟨w.heap.size, 1, none⟩ = some (.int .i64 n)) (first | exact HC0.out | exact cS1 | exact ⟨(far3 (by omega)).trans cS1.1, (far3 (by omega)).trans cS1.2⟩) (first | (go_at_call 22; refine HDA.out.mono ?_; rintro e w1 ⟨g1, rfl, hown1, hb1⟩; have hB1 : Below wB.heap.size wB w1 := (Below.refl _ wB).drew.trans hb1; have ha1 := (hB1.block _ (lt_of_heap HBA.out)).trans HBA.out; have hb1' := (hB1.block _ (lt_of_heap HBB.out)).trans HBB.out; have cS1 := And.intro (cell_of_row w1 w.heap.size 0 _ _ _ ha1) (cell_of_row w1 w.heap.size 1 _ _ _ ha1); have d0 := cell_of_row w1 (w.heap.size + 1) 0 _ _ _ hb1'; have d1 := cell_of_row w1 (w.heap.size + 1) 1 _ _ _ hb1'; have d2 := cell_of_row w1 (w.heap.size + 1) 2 _ _ _ hb1'; have f0 := frozen_of_row w1 (w.heap.size + 1) 0 _ _ hb1'; have f1 := frozen_of_row w1 (w.heap.size + 1) 1 _ _ hb1'; have f2 := frozen_of_row w1 (w.heap.size + 1) 2 _ _ hb1'; simp only [List.getElem?_toArray, List.getElem?_cons_succ, List.getElem?_cons_zero] at d0 d1 d2; have HO1 := hid hown1; have HB1 := hid (HBL.out.trans (hB1.mono HBL.out.size)); clear hown1 hb1 ha1 hb1' hB1))
  go_wp2
  refine bodyPost_ret (v := .agg #[.int .i64 no, .int .u64 n, .slice (some ⟨g1, 0, none⟩) 480 480]) (by simp [results, Tryd.results8, go_sem, d0, d1, d2]) rfl ⟨_, _, rfl, ?_, ?_⟩
  · have hlt : w.heap.size + 1 < wB.drew.heap.size := by show w.heap.size + 1 < wB.heap.size; omega
    exact own_mono (own_far (g := w.heap.size + 1) (o := 0) (vs := [.int .i64 no, .int .u64 n, .slice (some ⟨g1, 0, none⟩) 480 480]) HO1.out hlt) HBL.out.size
  · exact ((HB1.out.setCell (p := ⟨w.heap.size + 1, 0, none⟩) (by show w.heap.size ≤ w.heap.size + 1; omega) _).setCell (p := ⟨w.heap.size + 1, 1, none⟩) (by show w.heap.size ≤ w.heap.size + 1; omega) _).setCell (p := ⟨w.heap.size + 1, 2, none⟩) (by show w.heap.size ≤ w.heap.size + 1; omega) _
end Go.Proofs.YtafopokcfkgjiaaDoor
