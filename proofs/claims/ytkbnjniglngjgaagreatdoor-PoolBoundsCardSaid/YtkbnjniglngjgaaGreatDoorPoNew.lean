/-
  Layer 5: what New of a Pool gives.
-/
import Derived.Test.YtkbnjniglngjgaaGreatDoorMF
import Derived.Test.YtkbnjniglngjgaaGreatDoorMB
namespace Go.Proofs.YtkbnjniglngjgaaGreatDoor
open Go.RowKit

theorem infoFr : (Tryz.prog.info? 62).map (fun i => (i.zero, i.size, i.bytes)) = some (some (.agg #[.bool false, .bool false, .int .i64 0, .int .u64 0, .slice none 0 0, .int .i64 0, .int .u64 0, .slice none 0 0]), 8, 88) := by kernel_rfl
theorem restC_get : ∀ (k i : Nat), i < k * 8 → (restC k)[i]? = Fr.none.cells[i % 8]?
  | 0, i, h => by omega
  | k + 1, i, h => by
    unfold restC
    rcases Nat.lt_or_ge i 8 with h8 | h8
    · rw [List.getElem?_append_left (by exact h8), Nat.mod_eq_of_lt h8]
    · rw [List.getElem?_append_right (by exact h8), show Fr.none.cells.length = 8 from rfl, restC_get k (i - 8) (by omega)]
      congr 1
      omega
theorem made_frames (k : Nat) : (madeCells Fr.none.cells.toArray (k * 8)).toList = restC k := by
  apply List.ext_getElem? 
  intro i
  rcases Nat.lt_or_ge i (k * 8) with h | h
  · rw [restC_get k i h]
    have h8 : i % 8 < 8 := Nat.mod_lt _ (by omega)
    have h9 : i % 8 < Fr.none.cells.length := h8
    rw [List.getElem?_eq_getElem h9]
    simp only [madeCells, Array.getElem?_toList]
    simp [h, show Fr.none.cells.length = 8 from rfl, h8]
  · rw [List.getElem?_eq_none (show (madeCells Fr.none.cells.toArray (k * 8)).toList.length ≤ i by simp [madeCells]; omega), List.getElem?_eq_none (by rw [restC_len]; omega)]
theorem ponew_any {w : World} {F L : Nat} (k : Nat) (hk : k ≤ 63) :
    Calls Tryz.prog 5 #[.pointer (some ⟨F, 0, none⟩), .pointer (some ⟨L, 0, none⟩), .int .i64 ((k + 1 : Nat) : Int)] w fun e w' => ∃ P g, e = .returned (.tuple #[.pointer (some ⟨P, 0, none⟩), .int .i64 0]) ∧ PlI w' P F L g k Fr.none ∧ w.heap.size ≤ P ∧ w.heap.size ≤ g ∧ Below w.heap.size w w' := by
  obtain ⟨i0, hi, hz0, hz1, hz2⟩ := info_parts infoFr
  obtain ⟨N, hN⟩ : ∃ N : Nat, N = k + 1 := ⟨_, rfl⟩
  rw [← hN]
  obtain ⟨C, hC⟩ : ∃ C, C = madeCells Fr.none.cells.toArray (N * 8) := ⟨_, rfl⟩
  have hmk : ∀ wx : World, (Instr.makeSlice 53 (.int .i64 (N : Int)) (.int .i64 (N : Int))).run Tryz.prog wx = .ok (.slice (some ⟨wx.heap.size, 0, none⟩) N N) (wx.alloc (.cells C 62)) := fun wx => by
    have := run_make (P := Tryz.prog) wx 53 62 i0 _ Tryz.underlying53 hi hz0 .i64 .i64 N N (by omega) (by omega) (by rw [hz2]; omega) (by omega)
    rw [hz1] at this
    rw [this, hC]
    simp [Value.cells, Fr.cells, Fr.none]
  have HC := hid (show C = (restC (k + 1)).toArray by rw [hC, ← made_frames, hN])
  clear hC hi hz0 hz1 hz2
  have h8 : ¬ ((N : Int) < 1) := by omega
  have h9 : ¬ ((64 : Int) < (N : Int)) := by omega
  have HN := hid hN
  have HK := hid hk
  clear hN hk
  go_enter Tryz.func5, Tryz.ntmps5
  go_wp2
  go_ret2
  have hbx : Below w.heap.size w (w.alloc (.cells C 62)) := (Below.refl _ _).alloc (Nat.le_refl _) _
  have hsz : (w.alloc (.cells C 62)).heap.size = w.heap.size + 1 := by simp
  have hb2 : ∀ o, Below w.heap.size w ((w.alloc (.cells C 62)).alloc o) := fun o => hbx.alloc (by rw [hsz]; omega) _
  refine ⟨_, rfl, w.heap.size, ⟨?_, ?_, HK.out⟩, by omega, Nat.le_refl _, hb2 _⟩
  · have := heap_new (w.alloc (.cells C 62)) (.cells #[.pointer (some ⟨F, 0, none⟩), .pointer (some ⟨L, 0, none⟩), .slice (some ⟨w.heap.size, 0, none⟩) N N, .int .i64 0] 55 (0, 0))
    rw [hsz] at this
    rw [← HN.out]
    exact this
  · have h1 := heap_new w (.cells C 62 (0, 0))
    have h2 : ∀ o, ((w.alloc (.cells C 62)).alloc o).heap[w.heap.size]? = (w.alloc (.cells C 62)).heap[w.heap.size]? := fun o => ((Below.refl _ (w.alloc (.cells C 62))).alloc (Nat.le_refl _) o).block _ (by rw [hsz]; omega)
    rw [h2, h1, HC.out]
    rfl
theorem ponew_bad {w : World} {fv lv : Option Addr} {N : Int} (hb : fv = none ∨ lv = none ∨ ¬ (1 ≤ N ∧ N ≤ 64)) :
    Calls Tryz.prog 5 #[.pointer fv, .pointer lv, .int .i64 N] w fun e w' => e = .returned (.tuple #[.pointer none, .int .i64 1]) ∧ w' = w := by
  cases fv with
  | none =>
    go_enter Tryz.func5, Tryz.ntmps5
    go_wp2
    go_ret2
    exact ⟨rfl, rfl⟩
  | some a =>
    cases lv with
    | none =>
      go_enter Tryz.func5, Tryz.ntmps5
      go_wp2
      go_ret2
      exact ⟨rfl, rfl⟩
    | some b =>
      have hb' : ¬ (1 ≤ N ∧ N ≤ 64) := by rcases hb with h | h | h <;> first | exact h | cases h
      clear hb
      by_cases h1 : N < 1
      · clear hb'
        go_enter Tryz.func5, Tryz.ntmps5
        go_wp2
        go_ret2
        exact ⟨rfl, rfl⟩
      · have h2 : (64 : Int) < N := by omega
        clear hb'
        go_enter Tryz.func5, Tryz.ntmps5
        go_wp2
        go_ret2
        exact ⟨rfl, rfl⟩
end Go.Proofs.YtkbnjniglngjgaaGreatDoor
