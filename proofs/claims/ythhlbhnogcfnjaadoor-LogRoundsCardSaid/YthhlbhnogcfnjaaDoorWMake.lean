/-
  make([]byte, n): n noughts.
-/
import Derived.Test.YthhlbhnogcfnjaaDoorCComm
namespace Go.Proofs.YthhlbhnogcfnjaaDoor
open Go.RowKit Go.Shelf

theorem made_bytes (n : Nat) : madeCells #[Value.int .u8 0] n = (List.replicate n (Value.int .u8 0)).toArray := by
  apply Array.ext
  · simp [madeCells]
  · intro i h1 h2
    simp [madeCells]
    have : i % 1 = 0 := by omega
    simp [this]
theorem make_bytes (n : Nat) (hn : n ≤ 140737488355328) (w : World) : (Instr.makeSlice 32 (.int .i64 (n : Int)) (.int .i64 (n : Int))).run Tryd.prog w = .ok (.slice (some ⟨w.heap.size, 0, none⟩) n n) (w.alloc (.cells (List.replicate n (Value.int .u8 0)).toArray 5)) := by
  obtain ⟨i0, hi, hz0, hz1, hz2⟩ := info_parts info5
  have := run_make (P := Tryd.prog) w 32 5 i0 _ Tryd.underlying32 hi hz0 .i64 .i64 n n (by omega) (by omega) (by rw [hz2]; omega) (by omega)
  rw [hz1] at this
  rw [this, ← made_bytes]
  simp [Value.cells]
theorem own_made (w : World) (n base : Nat) (hb : base ≤ w.heap.size) (hn : n ≤ 140737488355328) : (w.alloc (.cells (List.replicate n (Value.int .u8 0)).toArray 5)).ownsRow base 5 1 (.slice (some ⟨w.heap.size, 0, none⟩) n n) n ((zeros n).map (Value.int .u8)) := by
  refine ⟨by simp [zeros], .inr ⟨w.heap.size, n, _, rfl, hb, heap_new w _, Nat.le_refl _, by unfold maxLen; omega, by simp, by simp [zeros]⟩⟩
end Go.Proofs.YthhlbhnogcfnjaaDoor
