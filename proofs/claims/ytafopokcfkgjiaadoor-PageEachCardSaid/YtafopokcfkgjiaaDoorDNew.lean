/-
  What disk.New gives.
-/
import Derived.Test.YtafopokcfkgjiaaDoorDOps
import Derived.BigRegion
namespace Go.Proofs.YtafopokcfkgjiaaDoor
open Go.RowKit

theorem heap_new (w : World) (o : Obj) : (w.alloc o).heap[w.heap.size]? = some o := by
  show (w.heap.push o)[w.heap.size]? = some o
  simp
theorem infoSec : (Tryd.prog.info? 62).map (fun i => (i.zero, i.size, i.bytes)) = some (some (.agg (Array.replicate 64 (.int .u8 0))), 64, 64) := by kernel_rfl

theorem made_noughts (n : Nat) : (madeCells (Array.replicate 64 (Value.int .u8 0)) (n * 64)).toList = ((List.replicate n nought).map secV).flatten := by
  have h1 : ((List.replicate n nought).map secV).flatten = List.replicate (n * 64) (Value.int .u8 0) := by
    simp only [secV, nought, List.map_replicate, List.flatten_replicate_replicate]
  rw [h1]
  apply List.ext_getElem (by simp [madeCells])
  intro i h2 h3
  simp [madeCells, getElem!_pos, Nat.mod_lt]

theorem new_bad (k : Int) (w : World) (h : ¬ (8 ≤ k ∧ k ≤ 65536)) :
    Calls Tryd.prog 4 #[.int .i64 k] w fun e w' => e = .returned (.tuple #[.pointer none, .int .i64 1]) ∧ w' = w := by
  by_cases h8 : k < 8
  · go_enter Tryd.func4, Tryd.ntmps4
    go_wp2
    go_ret2
    exact ⟨rfl, rfl⟩
  · have h9 : (65536 : Int) < k := by omega
    have hd : decide (k < 8) = false := by simpa using h8
    go_enter Tryd.func4, Tryd.ntmps4
    go_wp2
    go_ret2
    exact ⟨rfl, rfl⟩

/-- The three blocks of a new disk. -/
theorem new_is (w w3 : World) (n : Nat) (hn : 8 ≤ n ∧ n ≤ 65536) (C : Array Value) (hC : C.toList = ((List.replicate n nought).map secV).flatten) {gl gn : Nat} (hg : (gl = w.heap.size ∧ gn = w.heap.size + 1) ∨ (gl = w.heap.size + 1 ∧ gn = w.heap.size))
    (hw0 : w3 = (((w.alloc (.cells C 62)).alloc (.cells C 62)).alloc (.cells #[.slice (some ⟨gl, 0, none⟩) n n, .slice (some ⟨gn, 0, none⟩) n n, .slice none 0 0, .int .i64 0, .int .i64 (-1)] 47)).drew) :
    DiskIs w3 w.heap.size (w.heap.size + 2) n (Dk.new n) ∧ Below w.heap.size w w3 := by
  have hw : w3.heap = (((w.alloc (.cells C 62)).alloc (.cells C 62)).alloc (.cells #[.slice (some ⟨gl, 0, none⟩) n n, .slice (some ⟨gn, 0, none⟩) n n, .slice none 0 0, .int .i64 0, .int .i64 (-1)] 47)).heap := by rw [hw0]; rfl
  have hsz : ((w.alloc (.cells C 62)).alloc (.cells C 62)).heap.size = w.heap.size + 2 := by simp
  have hl : C.size = n * 64 := by
    have := congrArg List.length hC
    simp only [secV, nought, List.map_replicate, List.flatten_replicate_replicate, List.length_replicate, Array.length_toList] at this
    exact this
  have hb0 : w3.heap[w.heap.size]? = some (.cells C 62 (0, 0)) := by
    rw [hw, Below.heap_alloc _ _ _ (by rw [hsz]; omega), Below.heap_alloc _ _ _ (by simp)]
    exact heap_new w _
  have hb1 : w3.heap[w.heap.size + 1]? = some (.cells C 62 (0, 0)) := by
    rw [hw, Below.heap_alloc _ _ _ (by rw [hsz]; omega)]
    have := heap_new (w.alloc (.cells C 62)) (.cells C 62)
    simpa using this
  have hb2 : w3.heap[w.heap.size + 2]? = some (.cells #[.slice (some ⟨gl, 0, none⟩) n n, .slice (some ⟨gn, 0, none⟩) n n, .slice none 0 0, .int .i64 0, .int .i64 (-1)] 47 (0, 0)) := by
    rw [hw, ← hsz]
    exact heap_new _ _
  have row : ∀ g, g = w.heap.size ∨ g = w.heap.size + 1 → Blocks w3 w.heap.size 62 64 (.slice (some ⟨g, 0, none⟩) n n) ((List.replicate n nought).map secV) := fun g hg' => by
    refine ⟨fun b hb => ?_, ?_⟩
    · simp [List.map_replicate] at hb; rw [hb.2]; exact secV_len sec_nought
    · refine ⟨?_, .inr ⟨g, n, C, by simp, by omega, ?_, by simp, by unfold maxLen; omega, hl, ?_⟩⟩
      · rw [← hC]; simpa using hl
      · rcases hg' with rfl | rfl
        · exact hb0
        · exact hb1
      · rw [← hC, List.take_of_length_le (by simp; omega)]
  refine ⟨⟨Dk.ok_new n, hn, by omega, gl, n, gn, n, .slice none 0 0, hb2, by omega, row gl (by omega), row gn (by omega), ⟨fun b hb => by simp [Dk.new] at hb, ?_⟩⟩, ?_⟩
  · simp [Dk.new]; exact World.ownsRow_nil _ _ _ _
  · rw [hw0]
    exact ((((Below.refl _ w).alloc (Nat.le_refl _) _).alloc (by simp) _).alloc (by rw [hsz]; omega) _).drew

theorem new_any (n : Nat) (w : World) (hn : 8 ≤ n ∧ n ≤ 65536) :
    Calls Tryd.prog 4 #[.int .i64 n] w fun e w' => ∃ B, e = .returned (.tuple #[.pointer (some ⟨B, 0, none⟩), .int .i64 0]) ∧ DiskIs w' w.heap.size B n (Dk.new n) ∧ Below w.heap.size w w' := by
  obtain ⟨i0, hi, hz0, hz1, hz2⟩ := info_parts infoSec
  obtain ⟨C, hC⟩ : ∃ C, C = madeCells (Array.replicate 64 (Value.int .u8 0)) (n * 64) := ⟨_, rfl⟩
  have hmk : ∀ wx : World, (Instr.makeSlice 44 (.int .i64 (n : Int)) (.int .i64 (n : Int))).run Tryd.prog wx = .ok (.slice (some ⟨wx.heap.size, 0, none⟩) n n) (wx.alloc (.cells C 62)) := fun wx => by
    have := run_make (P := Tryd.prog) wx 44 62 i0 _ Tryd.underlying44 hi hz0 .i64 .i64 n n (by omega) (by omega) (by rw [hz2]; omega) (by omega)
    rw [hz1] at this
    rw [this, hC]
    simp [Value.cells]
  have HC := hid (hC ▸ made_noughts n)
  clear hC hi hz0 hz1 hz2
  have h8 : ¬ ((n : Int) < 8) := by omega
  have h9 : ¬ ((65536 : Int) < (n : Int)) := by omega
  have HN := hid hn
  clear hn
  obtain ⟨N, hN⟩ : ∃ N : Int, N = n := ⟨_, rfl⟩
  go_enter Tryd.func4, Tryd.ntmps4
  go_wp2
  go_region
  all_goals
    go_wp2
    go_ret2
    first
      | exact ⟨_, rfl, new_is w _ n HN.out C HC.out (.inl ⟨rfl, rfl⟩) rfl⟩
      | exact ⟨_, rfl, new_is w _ n HN.out C HC.out (.inr ⟨rfl, rfl⟩) rfl⟩
end Go.Proofs.YtafopokcfkgjiaaDoor
