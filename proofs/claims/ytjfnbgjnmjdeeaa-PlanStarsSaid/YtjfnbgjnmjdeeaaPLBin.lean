/-
  Layer 14: slices.BinarySearchFunc of edges for an ID that is less than all.
-/
import Derived.Test.YtjfnbgjnmjdeeaaPLMem
namespace Go.Proofs.Ytjfnbgjnmjdeeaa
open Go.RowKit Go.Sort

theorem half_add (i j : Nat) (_h : i + j ≤ 1000000000) : (((i + j : Nat) : Int) / 2) = (((i + j) / 2 : Nat) : Int) := by omega

set_option maxRecDepth 100000 in
set_option maxHeartbeats 3200000 in
theorem binE_any {w : World} {b off n cap : Nat} {xs : List ER} (hn : xs.length = n) (hl : n ≤ 100000) (h : EAts w b off xs) (t : Int) (hr : ∀ x ∈ xs, t < x.id) {ao : Option Addr} (hao : 1 ≤ n → ao = some ⟨b, off, none⟩) :
    Calls Try.prog 26 #[.slice ao n cap, .int .i64 t, .func (.func 27) #[] #[]] w fun e w' => e = .returned (.tuple #[.int .i64 0, .bool false]) ∧ Below w.heap.size w w' := by
  have HN := hid hn
  have HX := hid h
  have HR := hid (show ∀ (k : Nat) (x : ER), xs[k]? = some x → sgn (x.id - t) = 1 from fun k x hx => by
    have := hr x (List.mem_of_getElem? hx)
    unfold sgn
    split
    · omega
    · split <;> omega)
  have HAO := hid hao
  clear hn h hr hao
  go_enter Try.func26, Try.ntmps26
  go_wp2
  go_loopw [9, 10, 11] (fun iv jv _ wr => ∃ j : Nat, j ≤ n ∧ iv = .int .i64 0 ∧ jv = .int .i64 (j : Int) ∧ Below w.heap.size w wr) (fun _ jv _ _ => (intOf jv).toNat)
  case atStart => exact ⟨n, Nat.le_refl _, rfl, rfl, Below.refl _ _⟩
  case round =>
    obtain ⟨j, hj, rfl, rfl, hbr⟩ := hrel
    by_cases hlt : 0 < j
    · have hltI : (0 : Int) < (j : Int) := by omega
      obtain ⟨m, hm⟩ : ∃ m, j / 2 = m := ⟨_, rfl⟩
      have hmj : m < j := by omega
      obtain ⟨x, hx⟩ : ∃ x, xs[m]? = some x := ⟨xs[m]'(by have := HN.out; omega), by rw [List.getElem?_eq_getElem]⟩
      obtain rfl := HAO.out (by omega)
      have hx0 := HX.out m x hx
      obtain ⟨a0, a1, a2, a3, a4, a5⟩ := hx0.below hbr hx0.lt
      have HC := hid (fun W => cmpID_any x t W)
      rw [HR.out m x hx] at HC
      have hmn : (m : Int) < (n : Int) := by omega
      have hw1 : IntKind.u64.wrap (j : Int) = (j : Int) := PlainAid.u64_nonneg (by omega) (by omega)
      have HBR := hid hbr
      have HM := hid hm
      clear hbr hx hx0
      go_wp2_with (first
        | (go_at_call 27; refine (HC.out _).mono ?_; rintro e w1 ⟨rfl, hb1⟩; have HB1 := hid (HBR.out.trans (hb1.mono HBR.out.size)); clear hb1 HC))
      go_roundw
      case rel => exact ⟨m, by omega, rfl, by have := HM.out; congr 1; omega, HB1.out⟩
      case measure => have := HM.out; simp [intOf]; omega
    · obtain rfl : j = 0 := by omega
      have HBR := hid hbr
      clear hbr hlt
      by_cases hz : n = 0
      · subst hz
        go_wp2
        go_ret2
        exact ⟨rfl, HBR.out⟩
      · have hzI : (0 : Int) < (n : Int) := by omega
        have hzN : 0 < n := by omega
        obtain ⟨x, hx⟩ : ∃ x, xs[0]? = some x := ⟨xs[0]'(by have := HN.out; omega), by rw [List.getElem?_eq_getElem]⟩
        obtain rfl := HAO.out (by omega)
        have hx0 := HX.out 0 x hx
        obtain ⟨a0, a1, a2, a3, a4, a5⟩ := hx0.below HBR.out hx0.lt
        have HC := hid (fun W => cmpID_any x t W)
        rw [HR.out 0 x hx] at HC
        simp only [Nat.zero_mul, Nat.add_zero] at a0 a1 a2 a3 a4 a5
        clear hx hx0
        go_wp2_with (first
          | (go_at_call 27; refine (HC.out _).mono ?_; rintro e w1 ⟨rfl, hb1⟩; have HB1 := hid (HBR.out.trans (hb1.mono HBR.out.size)); clear hb1 HC))
        go_ret2
        exact ⟨rfl, HB1.out⟩
end Go.Proofs.Ytjfnbgjnmjdeeaa
