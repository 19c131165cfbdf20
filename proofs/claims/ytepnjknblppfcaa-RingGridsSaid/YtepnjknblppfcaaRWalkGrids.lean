/-
  Layer 13: RingGrids, as its frame wants it.
-/
import Derived.Test.YtepnjknblppfcaaRGrids4
import Derived.Test.YtepnjknblppfcaaRGrids5
import Derived.Test.YtepnjknblppfcaaRRingC
namespace Go.Proofs.Ytepnjknblppfcaa
open Go.RowKit Go.Sort

theorem i64_seven (n : Int) : bits .and .i64 n 7 = n % 8 := by
  have h31 : (BitVec.ofInt 64 7).toNat = 2 ^ 3 - 1 := by decide
  have key : (BitVec.ofInt 64 n &&& BitVec.ofInt 64 7).toNat = (n % ((2 ^ 64 : Nat) : Int)).toNat % 2 ^ 3 := by
    rw [BitVec.toNat_and, BitVec.toNat_ofInt, h31, Nat.and_two_pow_sub_one_eq_mod]
  show IntKind.i64.wrap ((BitVec.ofInt 64 n &&& BitVec.ofInt 64 7).toNat : Nat) = n % 8
  rw [key, IntKind.wrap_i64]
  omega
theorem in8_gl {l : List Pp} (h : ∀ p ∈ l, In8 p) : Gl l := fun p hp => clP_in8 (h p hp)
theorem areaL_small {l : List Pp} (hl : l.length ≤ 5) (h : ∀ p ∈ l, In8 p) : -1000000 ≤ areaL l ∧ areaL l ≤ 1000000 := by
  have hq : ∀ i, 0 ≤ (ringQ l i).1 ∧ (ringQ l i).1 ≤ 7 ∧ 0 ≤ (ringQ l i).2 ∧ (ringQ l i).2 ≤ 7 := fun i => by
    unfold ringQ
    by_cases hi : i < l.length
    · have hm := h _ (List.mem_of_getElem? (at_lpt hi))
      rw [clP_in8 hm]
      obtain ⟨h1, h2, h3, h4⟩ := hm
      omega
    · have e : lpt l i = (0, 0) := by
        unfold lpt
        rw [List.getD_eq_getElem?_getD, List.getElem?_eq_none (by omega)]
        rfl
      rw [e]
      decide
  have hc : ∀ i j, -49 ≤ crossI (ringQ l i) (ringQ l j) ∧ crossI (ringQ l i) (ringQ l j) ≤ 49 := fun i j => by
    obtain ⟨a1, a2, a3, a4⟩ := hq i
    obtain ⟨b1, b2, b3, b4⟩ := hq j
    have m1 := Int.mul_nonneg a1 b3
    have m2 := Int.mul_nonneg b1 a3
    have m3 : (ringQ l i).1 * (ringQ l j).2 ≤ 7 * 7 := Int.mul_le_mul a2 b4 b3 (by decide)
    have m4 : (ringQ l j).1 * (ringQ l i).2 ≤ 7 * 7 := Int.mul_le_mul b2 a4 a3 (by decide)
    unfold crossI
    omega
  have key : ∀ k : Nat, -(49 * (k : Int)) ≤ areaK l k ∧ areaK l k ≤ 49 * (k : Int) := fun k => by
    induction k with
    | zero => have e : areaK l 0 = 0 := rfl; omega
    | succ k ih =>
      have c := hc k ((k + 1) % l.length)
      rw [areaK_succ]
      omega
  have q := key l.length
  rw [areaK_all] at q
  omega

theorem ringGrids4_walk (w : World) (v : Int) :
    Calls Try.prog 7 #[.int .i64 v, .bool false] w fun e w' => e = .returned (.bool true) ∧ Below w.heap.size w w' := by
  have e0 := i64_seven v
  have b0 : 0 ≤ v % 8 ∧ v % 8 < 8 := by omega
  have e1 := i64_seven (v / 8)
  have b1 : 0 ≤ (v / 8) % 8 ∧ (v / 8) % 8 < 8 := by omega
  have e2 := i64_seven (v / 64)
  have b2 : 0 ≤ (v / 64) % 8 ∧ (v / 64) % 8 < 8 := by omega
  have e3 := i64_seven (v / 512)
  have b3 : 0 ≤ (v / 512) % 8 ∧ (v / 512) % 8 < 8 := by omega
  have e4 := i64_seven (v / 4096)
  have b4 : 0 ≤ (v / 4096) % 8 ∧ (v / 4096) % 8 < 8 := by omega
  have e5 := i64_seven (v / 32768)
  have b5 : 0 ≤ (v / 32768) % 8 ∧ (v / 32768) % 8 < 8 := by omega
  have e6 := i64_seven (v / 262144)
  have b6 : 0 ≤ (v / 262144) % 8 ∧ (v / 262144) % 8 < 8 := by omega
  have e7 := i64_seven (v / 2097152)
  have b7 : 0 ≤ (v / 2097152) % 8 ∧ (v / 2097152) % 8 < 8 := by omega
  generalize v % 8 = x0 at *
  generalize (v / 8) % 8 = y0 at *
  generalize (v / 64) % 8 = x1 at *
  generalize (v / 512) % 8 = y1 at *
  generalize (v / 4096) % 8 = x2 at *
  generalize (v / 32768) % 8 = y2 at *
  generalize (v / 262144) % 8 = x3 at *
  generalize (v / 2097152) % 8 = y3 at *
  have i0 : In8 (x0, y0) := ⟨b0.1, b0.2, b1.1, b1.2⟩
  have i1 : In8 (x1, y1) := ⟨b2.1, b2.2, b3.1, b3.2⟩
  have i2 : In8 (x2, y2) := ⟨b4.1, b4.2, b5.1, b5.2⟩
  have i3 : In8 (x3, y3) := ⟨b6.1, b6.2, b7.1, b7.2⟩
  have hall : ∀ p ∈ ([(x0, y0), (x1, y1), (x2, y2), (x3, y3)] : List Pp), In8 p := by
    intro p hp
    simp only [List.mem_cons, List.not_mem_nil, or_false] at hp
    rcases hp with rfl | rfl | rfl | rfl
    · exact i0
    · exact i1
    · exact i2
    · exact i3
  have hb := areaL_small (l := [(x0, y0), (x1, y1), (x2, y2), (x3, y3)]) (by show 4 ≤ 5; decide) hall
  refine ringGrids4_core w v x0 y0 x1 y1 x2 y2 x3 y3 (areaL [(x0, y0), (x1, y1), (x2, y2), (x3, y3)]) (insideL [(x0, y0), (x1, y1), (x2, y2), (x3, y3)]) (okL [(x0, y0), (x1, y1), (x2, y2), (x3, y3), (x0, y0)]) e0 e1 e2 e3 e4 e5 e6 e7 (hid fun W => ringAwake_any ringC W) (hid fun i j hi hj u W hu => ?_) (hid fun u W hu => ?_) (hid fun u W hu => ?_) (hid fun W => ?_) hb.1 hb.2 (hid fun h => grid4_says i0 i1 i2 i3 h)
  · exact ringC.inG u [(x0, y0), (x1, y1), (x2, y2), (x3, y3)] i j W hu (in8_gl hall) (clP_in8 ⟨by dsimp only; omega, by dsimp only; omega, by dsimp only; omega, by dsimp only; omega⟩) (by show 4 ≤ 200; decide)
  · exact ringC.area u [(x0, y0), (x1, y1), (x2, y2), (x3, y3)] W hu (in8_gl hall) (by show 4 ≤ 200; decide)
  · exact refOk12_any u [(x0, y0), (x1, y1), (x2, y2), (x3, y3), (x0, y0)] W hu.pts (by show 5 ≤ 140737488355328; decide)
  · have h := refOk_any x0 y0 W
    have e : okP x0 y0 = true := by
      unfold okP
      rw [near_in (x := x0) (by omega) (by omega), near_in (x := y0) (by omega) (by omega)]
      simp
    rwa [e] at h
theorem ringGrids5_walk (w : World) (v : Int) :
    Calls Try.prog 7 #[.int .i64 v, .bool true] w fun e w' => e = .returned (.bool true) ∧ Below w.heap.size w w' := by
  have e0 := i64_seven v
  have b0 : 0 ≤ v % 8 ∧ v % 8 < 8 := by omega
  have e1 := i64_seven (v / 8)
  have b1 : 0 ≤ (v / 8) % 8 ∧ (v / 8) % 8 < 8 := by omega
  have e2 := i64_seven (v / 64)
  have b2 : 0 ≤ (v / 64) % 8 ∧ (v / 64) % 8 < 8 := by omega
  have e3 := i64_seven (v / 512)
  have b3 : 0 ≤ (v / 512) % 8 ∧ (v / 512) % 8 < 8 := by omega
  have e4 := i64_seven (v / 4096)
  have b4 : 0 ≤ (v / 4096) % 8 ∧ (v / 4096) % 8 < 8 := by omega
  have e5 := i64_seven (v / 32768)
  have b5 : 0 ≤ (v / 32768) % 8 ∧ (v / 32768) % 8 < 8 := by omega
  have e6 := i64_seven (v / 262144)
  have b6 : 0 ≤ (v / 262144) % 8 ∧ (v / 262144) % 8 < 8 := by omega
  have e7 := i64_seven (v / 2097152)
  have b7 : 0 ≤ (v / 2097152) % 8 ∧ (v / 2097152) % 8 < 8 := by omega
  have e8 := i64_seven (v / 16777216)
  have b8 : 0 ≤ (v / 16777216) % 8 ∧ (v / 16777216) % 8 < 8 := by omega
  have e9 := i64_seven (v / 134217728)
  have b9 : 0 ≤ (v / 134217728) % 8 ∧ (v / 134217728) % 8 < 8 := by omega
  generalize v % 8 = x0 at *
  generalize (v / 8) % 8 = y0 at *
  generalize (v / 64) % 8 = x1 at *
  generalize (v / 512) % 8 = y1 at *
  generalize (v / 4096) % 8 = x2 at *
  generalize (v / 32768) % 8 = y2 at *
  generalize (v / 262144) % 8 = x3 at *
  generalize (v / 2097152) % 8 = y3 at *
  generalize (v / 16777216) % 8 = x4 at *
  generalize (v / 134217728) % 8 = y4 at *
  have i0 : In8 (x0, y0) := ⟨b0.1, b0.2, b1.1, b1.2⟩
  have i1 : In8 (x1, y1) := ⟨b2.1, b2.2, b3.1, b3.2⟩
  have i2 : In8 (x2, y2) := ⟨b4.1, b4.2, b5.1, b5.2⟩
  have i3 : In8 (x3, y3) := ⟨b6.1, b6.2, b7.1, b7.2⟩
  have i4 : In8 (x4, y4) := ⟨b8.1, b8.2, b9.1, b9.2⟩
  have hall : ∀ p ∈ ([(x0, y0), (x1, y1), (x2, y2), (x3, y3), (x4, y4)] : List Pp), In8 p := by
    intro p hp
    simp only [List.mem_cons, List.not_mem_nil, or_false] at hp
    rcases hp with rfl | rfl | rfl | rfl | rfl
    · exact i0
    · exact i1
    · exact i2
    · exact i3
    · exact i4
  have hb := areaL_small (l := [(x0, y0), (x1, y1), (x2, y2), (x3, y3), (x4, y4)]) (by show 5 ≤ 5; decide) hall
  refine ringGrids5_core w v x0 y0 x1 y1 x2 y2 x3 y3 x4 y4 (areaL [(x0, y0), (x1, y1), (x2, y2), (x3, y3), (x4, y4)]) (insideL [(x0, y0), (x1, y1), (x2, y2), (x3, y3), (x4, y4)]) (okL [(x0, y0), (x1, y1), (x2, y2), (x3, y3), (x4, y4), (x0, y0)]) e0 e1 e2 e3 e4 e5 e6 e7 e8 e9 (hid fun W => ringAwake_any ringC W) (hid fun i j hi hj u W hu => ?_) (hid fun u W hu => ?_) (hid fun u W hu => ?_) (hid fun W => ?_) hb.1 hb.2 (hid fun h => grid5_says i0 i1 i2 i3 i4 h)
  · exact ringC.inG u [(x0, y0), (x1, y1), (x2, y2), (x3, y3), (x4, y4)] i j W hu (in8_gl hall) (clP_in8 ⟨by dsimp only; omega, by dsimp only; omega, by dsimp only; omega, by dsimp only; omega⟩) (by show 5 ≤ 200; decide)
  · exact ringC.area u [(x0, y0), (x1, y1), (x2, y2), (x3, y3), (x4, y4)] W hu (in8_gl hall) (by show 5 ≤ 200; decide)
  · exact refOk12_any u [(x0, y0), (x1, y1), (x2, y2), (x3, y3), (x4, y4), (x0, y0)] W hu.pts (by show 6 ≤ 140737488355328; decide)
  · have h := refOk_any x0 y0 W
    have e : okP x0 y0 = true := by
      unfold okP
      rw [near_in (x := x0) (by omega) (by omega), near_in (x := y0) (by omega) (by omega)]
      simp
    rwa [e] at h
theorem ringGrids_walk (w : World) (v : Int) (_ : -9223372036854775808 ≤ v) (_ : v ≤ 9223372036854775807) (five : Bool) :
    Calls Try.prog 7 #[.int .i64 v, .bool five] w fun e w' => e = .returned (.bool true) ∧ RowKit.Below w.heap.size w w' := by
  cases five with
  | false => exact ringGrids4_walk w v
  | true => exact ringGrids5_walk w v
end Go.Proofs.Ytepnjknblppfcaa
