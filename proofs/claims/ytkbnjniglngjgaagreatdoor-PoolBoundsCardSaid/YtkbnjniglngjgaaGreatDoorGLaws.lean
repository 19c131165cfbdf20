/-
  Layer 3: what terrierlaw3.Data, of, is, opened give.
-/
import Derived.Test.YtkbnjniglngjgaaGreatDoorGState
namespace Go.Proofs.YtkbnjniglngjgaaGreatDoor
open Go.RowKit

/-- The bytes of Data(n). -/
def dataB (n k : Nat) : Int := ((n * (k % 7 + 1) : Nat) : Int) % 256
def dataL (n : Nat) : List Int := (List.range 480).map (dataB n)
def dataTo (n k : Nat) : List Value := (List.range 480).map fun i => if i < k then Value.int .u8 (dataB n i) else .int .u8 0
theorem dataL_len (n : Nat) : (dataL n).length = 480 := by simp [dataL]
theorem dataL_by (n : Nat) : By (dataL n) := fun b hb => by
  simp only [dataL, List.mem_map] at hb
  obtain ⟨i, _, rfl⟩ := hb
  unfold dataB
  omega
theorem dataTo_zero (n : Nat) : dataTo n 0 = List.replicate 480 (Value.int .u8 0) := by
  apply List.ext_getElem (by rw [dataTo, List.length_map, List.length_range, List.length_replicate])
  intro i h1 h2
  rw [List.getElem_replicate]
  simp [dataTo]
theorem dataTo_full (n : Nat) : dataTo n 480 = secV (dataL n) := by
  apply List.ext_getElem (by simp [dataTo, secV, dataL])
  intro i h1 h2
  have : i < 480 := by simpa [dataTo] using h1
  simp [dataTo, secV, dataL, this]
theorem dataTo_set (n k : Nat) : (dataTo n k).set k (.int .u8 (dataB n k)) = dataTo n (k + 1) := by
  apply List.ext_getElem (by simp [dataTo])
  intro i h1 h2
  simp only [dataTo, List.getElem_set, List.getElem_map, List.getElem_range]
  by_cases h : k = i
  · subst h; simp
  · by_cases h' : i < k
    · rw [if_neg h, if_pos h', if_pos (by omega)]
    · rw [if_neg h, if_neg h', if_neg (by omega)]

set_option maxRecDepth 8000 in
theorem data_any (n : Nat) (w : World) (hn : n ≤ 65535) :
    Calls Tryz.prog 22 #[.int .i64 n] w fun e w' => ∃ g, e = .returned (.slice (some ⟨g, 0, none⟩) 480 480) ∧ w'.ownsRow w.heap.size 5 1 (.slice (some ⟨g, 0, none⟩) 480 480) 480 (secV (dataL n)) ∧ Below w.heap.size w w' := by
  obtain ⟨i0, hi, hz0, hz1, hz2⟩ := info_parts info5
  obtain ⟨C, hC⟩ : ∃ C, C = madeCells #[Value.int .u8 0] 480 := ⟨_, rfl⟩
  have hmk : ∀ wx : World, (Instr.makeSlice 38 (.int .i64 480) (.int .i64 480)).run Tryz.prog wx = .ok (.slice (some ⟨wx.heap.size, 0, none⟩) 480 480) (wx.alloc (.cells C 5)) := fun wx => by
    have := run_make (P := Tryz.prog) wx 38 5 i0 _ Tryz.underlying38 hi hz0 .i64 .i64 480 480 (by omega) (by omega) (by rw [hz2]; omega) (by omega)
    rw [hz1] at this
    rw [hC]
    exact this
  have hC2 : C.toList = dataTo n 0 := by rw [hC, toList_madeCells_one, dataTo_zero]
  have hC3 : C.size = 480 * 1 := by rw [hC]; exact size_madeCells _ _
  have h0 : (w.alloc (.cells C 5)).ownsRow w.heap.size 5 1 (.slice (some ⟨w.heap.size, 0, none⟩) 480 480) 480 (dataTo n 0) := by
    rw [← hC2]
    exact World.ownsRow_lit w C 480 (Nat.le_refl _) (by unfold maxLen; omega) hC3
  have H0 := hid h0
  clear hC hC2 hC3 h0 hi hz0 hz1 hz2
  go_enter Tryz.func22, Tryz.ntmps22
  go_wp2
  go_loopw [4, 8] (fun _ i wr => ∃ k : Nat, k ≤ 480 ∧ i = .int .i64 k ∧ wr.ownsRow w.heap.size 5 1 (.slice (some ⟨w.heap.size, 0, none⟩) 480 480) 480 (dataTo n k) ∧ Below w.heap.size w wr) (fun _ i _ => 480 - (intOf i).toNat)
  case atStart => exact ⟨0, by omega, rfl, H0.out, (Below.refl _ _).alloc (Nat.le_refl _) _⟩
  case round =>
    obtain ⟨k, hk, rfl, hown, hbr⟩ := hrel
    by_cases hlt : k < 480
    · have hce := hown.cellAt k (by omega)
      have hfe := hown.frozenAt k
      obtain ⟨x, hx⟩ : ∃ x, (dataTo n k)[k]? = some x := ⟨(dataTo n k)[k]'(by simp [dataTo]; omega), by simp⟩
      rw [hx] at hce
      have HO := hid hown
      obtain ⟨r, hr, hr7⟩ : ∃ r : Nat, (k : Int) % 7 = (r : Int) ∧ r < 7 := ⟨k % 7, by omega, by omega⟩
      have hdb : dataB n k = ((n : Int) * ((r : Int) + 1)) % 256 := by
        unfold dataB
        have : k % 7 = r := by omega
        rw [this]
        push_cast
        rfl
      have HDB := hid hdb
      have hm1 : (n : Int) * ((r : Int) + 1) ≤ 65535 * 7 := by
        have h1 : (n : Int) * ((r : Int) + 1) ≤ 65535 * ((r : Int) + 1) := Int.mul_le_mul_of_nonneg_right (by omega) (by omega)
        omega
      have hm0 : 0 ≤ (n : Int) * ((r : Int) + 1) := Int.mul_nonneg (by omega) (by omega)
      clear hx hown hdb
      go_wp2
      go_roundw
      case rel =>
        refine ⟨k + 1, by omega, by go_num, ?_, hbr.setCell (p := ⟨w.heap.size, k, none⟩) (Nat.le_refl _) _⟩
        have := (HO.out.stored k (.int .u8 (dataB n k))).1
        rw [dataTo_set, HDB.out] at this
        exact this
      case measure => simp [intOf]; omega
    · obtain rfl : k = 480 := by omega
      rw [dataTo_full] at hown
      have HO := hid hown
      clear hown
      go_wp2
      go_ret
      exact ⟨_, rfl, HO.out, hbr⟩
theorem i64_and65535 (n : Int) : bits .and .i64 n 65535 = n % 65536 := by
  have h31 : (BitVec.ofInt 64 65535).toNat = 2 ^ 16 - 1 := by decide
  have key : (BitVec.ofInt 64 n &&& BitVec.ofInt 64 65535).toNat = (n % ((2 ^ 64 : Nat) : Int)).toNat % 2 ^ 16 := by
    rw [BitVec.toNat_and, BitVec.toNat_ofInt, h31, Nat.and_two_pow_sub_one_eq_mod]
  show IntKind.i64.wrap ((BitVec.ofInt 64 n &&& BitVec.ofInt 64 65535).toNat : Nat) = n % 65536
  rw [key, IntKind.wrap_i64]
  omega
theorem far3 {w : World} {b c o : Nat} {x y z : Value} (h : b ≠ c) : (((w.setCell ⟨b, 0, none⟩ x).setCell ⟨b, 1, none⟩ y).setCell ⟨b, 2, none⟩ z).cell? ⟨c, o, none⟩ = w.cell? ⟨c, o, none⟩ := by
  rw [World.cell?_setCell_far _ _ _ _ h, World.cell?_setCell_far _ _ _ _ h, World.cell?_setCell_far _ _ _ _ h]
/-- The page that 'of' makes. -/
def pgOf (no n : Nat) : Pg := ⟨no, n, dataL n⟩
theorem pgOf_ok {no n np : Nat} (h : no < np) (hn : n ≤ 65535) : (pgOf no n).Ok np := ⟨h, by simp [pgOf], by simp [pgOf]; omega, dataL_len n, dataL_by n⟩





























end Go.Proofs.YtkbnjniglngjgaaGreatDoor
