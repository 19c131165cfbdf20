/-
  Layer 4: what wal.Open gives where nothing is to be cleared, the last piece standing there as it is.
-/
import Derived.Test.YthhlbhnogcfnjaaDoorMG
import Derived.Test.YthhlbhnogcfnjaaDoorWClearSame
namespace Go.Proofs.YthhlbhnogcfnjaaDoor
open Go.RowKit Go.Shelf

set_option maxHeartbeats 1600000 in
theorem lopen_same {w : World} {base B n at' sc : Nat} {d : Dk} (h : DiskIs w base B n d) (hsc : 16 ≤ sc ∧ sc ≤ 32768 ∧ at' + sc ≤ n) (hl : d.left ≠ 0) (ht : TabOk w) (hg : 0 < base) (hwl : d.wait.length ≤ 1000000)
    (hcl : ∀ i, at' + 1 ≤ i → i < at' + sc → pcOk (d.now.getD i []) = false ∨ pcNo (d.now.getD i []) < (((openG d.now at' sc).stop / 48 : Nat) : Int) ∨ ((openG d.now at' sc).tail.length ≤ 48 ∧ d.now.getD i [] = secL ((openG d.now at' sc).stop / 48) (openG d.now at' sc).tail)) :
    Calls Tryd.prog 5 #[.pointer (some ⟨B, 0, none⟩), .int .i64 at', .int .i64 sc] w fun e w' => ∃ L, e = .returned (.tuple #[.pointer (some ⟨L, 0, none⟩), .int .i64 0]) ∧ LogIs w' base L B n at' sc d.flush (openG d.now at' sc) ∧ Kl base w w' ∧ w.heap.size ≤ L := by
  have HS := hid (sectors_any h)
  have hn := h.2.1
  have hbase := h.base_le
  have h0 := log_new h hsc
  obtain ⟨W0, hW0⟩ : ∃ W0, w.alloc (.cells #[.pointer (some ⟨B, 0, none⟩), .int .i64 at', .int .i64 sc, .int .u64 0, .slice none 0 0, .int .u64 0, .int .u64 0, .int .u64 0, .slice none 0 0] 50) = W0 := ⟨_, rfl⟩
  rw [hW0] at h0
  have hb0 : Below w.heap.size w W0 := by rw [← hW0]; exact (Below.refl _ w).alloc (Nat.le_refl _) _
  have ht0 : TabOk W0 := ht.below hb0 (Nat.le_refl _)
  obtain ⟨hf1, hf2, hf3⟩ := headF_bounds (d.now.getD at' [])
  have H1 := hid (readHead_any h0 hl ht0 hg)
  have H2 : Hid (∀ w1, LogIs w1 base w.heap.size B n at' sc d { first := headF (d.now.getD at' []), recs := [], start := headS (d.now.getD at' []), stop := 0, flushed := 0, tail := [] } → Kl base W0 w1 → Calls Tryd.prog 17 #[.pointer (some ⟨w.heap.size, 0, none⟩)] w1 fun e w' => e = .returned (.int .i64 0) ∧ LogIs w' base w.heap.size B n at' sc d (openG d.now at' sc) ∧ Kl base w1 w') := fun w1 hl1 hk1 =>
    readRecs_any hl1 hl (ht0.base hk1.below hg) hg rfl rfl hf1 (by dsimp only; omega) (by dsimp only; omega)
  have H3 : Hid (∀ w2, LogIs w2 base w.heap.size B n at' sc d (openG d.now at' sc) → Kl base W0 w2 → Calls Tryd.prog 18 #[.pointer (some ⟨w.heap.size, 0, none⟩)] w2 fun e w' => e = .returned (.int .i64 0) ∧ LogIs w' base w.heap.size B n at' sc d.flush (openG d.now at' sc) ∧ Kl base w2 w') := fun w2 hl2 hk2 =>
    clear_same hl2 hl (ht0.base hk2.below hg) hwl hcl
  have HK0 := hid (Kl.fresh hb0 hbase)
  have HW0 := hid hW0
  have hL : w.heap.size ≤ w.heap.size := Nat.le_refl _
  obtain ⟨L, hLL⟩ : ∃ L, w.heap.size = L := ⟨_, rfl⟩
  have g1 : decide ((sc : Int) < 16) = false := by simp; omega
  have g2 : decide ((32768 : Int) < (sc : Int)) = false := by simp; omega
  have g3 : decide ((at' : Int) < 0) = false := by simp
  have hw : IntKind.i64.wrap ((n : Int) - (sc : Int)) = (n : Int) - (sc : Int) := by rw [IntKind.wrap_i64]; omega
  have g4 : decide ((n : Int) - (sc : Int) < (at' : Int)) = false := by simp; omega
  have HLL := hid hLL
  clear h h0 ht ht0 hb0 hW0 hcl hf1 hf2 hf3 hL hLL
  go_enter Tryd.func5, Tryd.ntmps5
  go_wp2_with (first
    | (go_at_call 15; refine HS.out.mono ?_; rintro e w2 ⟨rfl, hw2⟩; have hw2' := hw2.symm; clear hw2; subst hw2')
    | (go_at_call 16; rw [HW0.out]; refine H1.out.mono ?_; rintro e w3 ⟨rfl, hl3, hk3⟩; have HL3 := hid (And.intro hl3 hk3); clear H1 hl3 hk3)
    | (go_at_call 17; refine (H2.out _ HL3.out.1 HL3.out.2).mono ?_; rintro e w4 ⟨rfl, hl4, hk4⟩; have HL4 := hid (And.intro hl4 (HL3.out.2.trans hk4)); clear H2 hl4 hk4)
    | (go_at_call 18; refine (H3.out _ HL4.out.1 HL4.out.2).mono ?_; rintro e w5 ⟨rfl, hl5, hk5⟩; have HL5 := hid (And.intro hl5 (HL4.out.2.trans hk5)); clear H3 hl5 hk5))
  go_ret2
  exact ⟨_, rfl, HL5.out.1, HK0.out.trans HL5.out.2, Nat.le_refl _⟩
end Go.Proofs.YthhlbhnogcfnjaaDoor
