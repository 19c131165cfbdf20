/-
  Layer 4: what wal.Open gives: what may not be is refused; a Log is read from a disk on which nothing is to be cleared.
-/
import Derived.Test.YthhlbhnogcfnjaaDoorWReadRecs
import Derived.Test.YthhlbhnogcfnjaaDoorWClear
namespace Go.Proofs.YthhlbhnogcfnjaaDoor
open Go.RowKit Go.Shelf

theorem lopen_bad {w : World} {base B n : Nat} {d : Dk} (h : DiskIs w base B n d) {at' sc : Int} (hb : ¬ (16 ≤ sc ∧ sc ≤ 32768 ∧ 0 ≤ at' ∧ at' ≤ n - sc)) :
    Calls Tryd.prog 5 #[.pointer (some ⟨B, 0, none⟩), .int .i64 at', .int .i64 sc] w fun e w' => e = .returned (.tuple #[.pointer none, .int .i64 1]) ∧ w' = w := by
  have HS := hid (sectors_any h)
  have hn := h.2.1
  clear h
  by_cases h1 : sc < 16
  · clear hb
    go_enter Tryd.func5, Tryd.ntmps5
    go_wp2
    go_ret2
    exact ⟨rfl, rfl⟩
  have h1' : decide (sc < 16) = false := by simpa using h1
  by_cases h2 : 32768 < sc
  · clear hb h1
    go_enter Tryd.func5, Tryd.ntmps5
    go_wp2
    go_ret2
    exact ⟨rfl, rfl⟩
  have h2' : decide (32768 < sc) = false := by simpa using h2
  by_cases h3 : at' < 0
  · clear hb h1 h2
    go_enter Tryd.func5, Tryd.ntmps5
    go_wp2
    go_ret2
    exact ⟨rfl, rfl⟩
  have h3' : decide (at' < 0) = false := by simpa using h3
  have hw : IntKind.i64.wrap ((n : Int) - sc) = (n : Int) - sc := by rw [IntKind.wrap_i64]; omega
  have h4 : (n : Int) - sc < at' := by omega
  clear hb h1 h2 h3
  go_enter Tryd.func5, Tryd.ntmps5
  go_wp2_with (go_at_call 15; refine HS.out.mono ?_; rintro e w2 ⟨rfl, hw2⟩; have hw2' := hw2.symm; clear hw2; subst hw2')
  go_ret2
  exact ⟨rfl, rfl⟩

theorem headF_bounds (s : List Int) : 1 ≤ headF s ∧ headF s ≤ 4611686018427387904 ∧ headS s ≤ 4611686018427387904 := by
  by_cases h : hdOk s = true
  · obtain ⟨_, _, h1, h2, h3⟩ := hd_nat h
    exact ⟨h1, h2, h3⟩
  · rw [headF, headS, if_neg h, if_neg h]
    omega
/-- A Log that is just laid. -/
theorem log_new {w : World} {base B n at' sc : Nat} {d : Dk} (h : DiskIs w base B n d) (hsc : 16 ≤ sc ∧ sc ≤ 32768 ∧ at' + sc ≤ n) :
    LogIs (w.alloc (.cells #[.pointer (some ⟨B, 0, none⟩), .int .i64 at', .int .i64 sc, .int .u64 0, .slice none 0 0, .int .u64 0, .int .u64 0, .int .u64 0, .slice none 0 0] 50)) base w.heap.size B n at' sc d { first := 0, recs := [], start := 0, stop := 0, flushed := 0, tail := [] } := by
  refine ⟨h.below ((Below.refl _ w).alloc (Nat.le_refl _) _), h.base_le, hsc, by simp, fun x hx => by simp at hx, .slice none 0 0, .slice none 0 0, heap_new w _, World.ownsRow_nil _ _ _ _, [], rfl, World.ownsRow_nil _ _ _ _, fun k r u hr _ => by simp at hr⟩

/-- The Log that stands on a disk. -/
def openG (now : List (List Int)) (at' sc : Nat) : Lg := readG now at' sc (headF (now.getD at' [])) (headS (now.getD at' []))
set_option maxHeartbeats 1600000 in
theorem lopen_good {w : World} {base B n at' sc : Nat} {d : Dk} (h : DiskIs w base B n d) (hsc : 16 ≤ sc ∧ sc ≤ 32768 ∧ at' + sc ≤ n) (hl : d.left ≠ 0) (ht : TabOk w) (hg : 0 < base) (hwl : d.wait.length ≤ 1000000)
    (hcl : ∀ i, at' + 1 ≤ i → i < at' + sc → pcOk (d.now.getD i []) = false ∨ pcNo (d.now.getD i []) < (((openG d.now at' sc).stop / 48 : Nat) : Int)) :
    Calls Tryd.prog 5 #[.pointer (some ⟨B, 0, none⟩), .int .i64 at', .int .i64 sc] w fun e w' => ∃ L, e = .returned (.tuple #[.pointer (some ⟨L, 0, none⟩), .int .i64 0]) ∧ LogIs w' base L B n at' sc d.flush (openG d.now at' sc) ∧ Kl base w w' ∧ w.heap.size ≤ L := by
  have HS := hid (sectors_any h)
  have hn := h.2.1
  have hbase := h.base_le
  have h0 := log_new h hsc
  obtain ⟨W0, hW0⟩ : ∃ W0, w.alloc (.cells #[.pointer (some ⟨B, 0, none⟩), .int .i64 at', .int .i64 sc, .int .u64 0, .slice none 0 0, .int .u64 0, .int .u64 0, .int .u64 0, .slice none 0 0] 50) = W0 := ⟨_, rfl⟩
  rw [hW0] at h0
  have hb0 : Below w.heap.size w W0 := by rw [← hW0]; exact (Below.refl _ w).alloc (Nat.le_refl _) _
  have ht0 : TabOk W0 := ht.below hb0 (Nat.le_refl _)
  obtain ⟨hf1, hf2, hf3⟩ := headF_bounds (d.now.getD at' [])
  have H1 := hid (readHead_any h0 hl ht0 hg)
  have H2 : Hid (∀ w1, LogIs w1 base w.heap.size B n at' sc d { first := headF (d.now.getD at' []), recs := [], start := headS (d.now.getD at' []), stop := 0, flushed := 0, tail := [] } → Kl base W0 w1 → Calls Tryd.prog 17 #[.pointer (some ⟨w.heap.size, 0, none⟩)] w1 fun e w' => e = .returned (.int .i64 0) ∧ LogIs w' base w.heap.size B n at' sc d (openG d.now at' sc) ∧ Kl base w1 w') := fun w1 hl1 hk1 =>
    readRecs_any hl1 hl (ht0.base hk1.below hg) hg rfl rfl hf1 (by dsimp only; omega) (by dsimp only; omega)
  have H3 : Hid (∀ w2, LogIs w2 base w.heap.size B n at' sc d (openG d.now at' sc) → Kl base W0 w2 → Calls Tryd.prog 18 #[.pointer (some ⟨w.heap.size, 0, none⟩)] w2 fun e w' => e = .returned (.int .i64 0) ∧ LogIs w' base w.heap.size B n at' sc d.flush (openG d.now at' sc) ∧ Kl base w2 w') := fun w2 hl2 hk2 =>
    clear_none hl2 hl (ht0.base hk2.below hg) hwl hcl
  have HK0 := hid (Kl.fresh hb0 hbase)
  have HW0 := hid hW0
  have hL : w.heap.size ≤ w.heap.size := Nat.le_refl _
  obtain ⟨L, hLL⟩ : ∃ L, w.heap.size = L := ⟨_, rfl⟩
  have g1 : decide ((sc : Int) < 16) = false := by simp; omega
  have g2 : decide ((32768 : Int) < (sc : Int)) = false := by simp; omega
  have g3 : decide ((at' : Int) < 0) = false := by simp
  have hw : IntKind.i64.wrap ((n : Int) - (sc : Int)) = (n : Int) - (sc : Int) := by rw [IntKind.wrap_i64]; omega
  have g4 : decide ((n : Int) - (sc : Int) < (at' : Int)) = false := by simp; omega
  have HLL := hid hLL
  clear h h0 ht ht0 hb0 hW0 hcl hf1 hf2 hf3 hL hLL
  go_enter Tryd.func5, Tryd.ntmps5
  go_wp2_with (first
    | (go_at_call 15; refine HS.out.mono ?_; rintro e w2 ⟨rfl, hw2⟩; have hw2' := hw2.symm; clear hw2; subst hw2')
    | (go_at_call 16; rw [HW0.out]; refine H1.out.mono ?_; rintro e w3 ⟨rfl, hl3, hk3⟩; have HL3 := hid (And.intro hl3 hk3); clear H1 hl3 hk3)
    | (go_at_call 17; refine (H2.out _ HL3.out.1 HL3.out.2).mono ?_; rintro e w4 ⟨rfl, hl4, hk4⟩; have HL4 := hid (And.intro hl4 (HL3.out.2.trans hk4)); clear H2 hl4 hk4)
    | (go_at_call 18; refine (H3.out _ HL4.out.1 HL4.out.2).mono ?_; rintro e w5 ⟨rfl, hl5, hk5⟩; have HL5 := hid (And.intro hl5 (HL4.out.2.trans hk5)); clear H3 hl5 hk5))
  go_ret2
  exact ⟨_, rfl, HL5.out.1, HK0.out.trans HL5.out.2, Nat.le_refl _⟩
end Go.Proofs.YthhlbhnogcfnjaaDoor

namespace Go.Proofs.YthhlbhnogcfnjaaDoor
open Go.RowKit Go.Shelf

theorem nought_not : pcOk nought = false := by decide +kernel
theorem hd_not : hdOk nought = false := by
  have := nought_not
  simp [hdOk, this]
theorem new_at (n i : Nat) (h : i < n) : (Dk.new n).now.getD i [] = nought := by
  simp [Dk.new, Dk.now, app, List.getD, h]
def Lg.fresh : Lg := { first := 1, recs := [], start := 0, stop := 0, flushed := 0, tail := [] }
theorem fresh_open {n at' sc : Nat} (hsc : 16 ≤ sc ∧ at' + sc ≤ n) : openG (Dk.new n).now at' sc = Lg.fresh := by
  have h1 : headF ((Dk.new n).now.getD at' []) = 1 := by rw [new_at n at' (by omega), headF, hd_not]; rfl
  have h2 : headS ((Dk.new n).now.getD at' []) = 0 := by rw [new_at n at' (by omega), headS, hd_not]; rfl
  have h3 : strm (Dk.new n).now at' sc 0 = [] := by
    have hlt : 0 % (sc - 1) < sc - 1 := Nat.mod_lt _ (by omega)
    rw [strm, show sc - 1 = sc - 2 + 1 by omega, strmF, sectAt, new_at n _ (by omega), if_neg (by rw [nought_not]; simp)]
  have h4 : strmB (Dk.new n).now at' sc 0 = [] := by
    rw [strmB, Nat.zero_div, h3]
    rfl
  have h5 : strmZ (Dk.new n).now at' sc 0 = [] := by rw [strmZ, h4]; simp
  have h6 : recsP [] 1 = [] := by
    refine recsP_no ?_
    simp [rcOk, dec]
  rw [openG, h1, h2]
  show ({ first := 1, recs := recsP (strmZ (Dk.new n).now at' sc 0) ((1 : Nat) : Int), start := 0, stop := 0 + bulkOf (recsP (strmZ (Dk.new n).now at' sc 0) ((1 : Nat) : Int)), flushed := 1 + (recsP (strmZ (Dk.new n).now at' sc 0) ((1 : Nat) : Int)).length - 1, tail := ((strmB (Dk.new n).now at' sc 0).take (0 % 48 + bulkOf (recsP (strmZ (Dk.new n).now at' sc 0) ((1 : Nat) : Int)))).drop ((0 % 48 + bulkOf (recsP (strmZ (Dk.new n).now at' sc 0) ((1 : Nat) : Int))) / 48 * 48) } : Lg) = _
  rw [h5, h4, show ((1 : Nat) : Int) = 1 from rfl, h6]
  rfl
theorem fresh_clear {n at' sc : Nat} (hsc : at' + sc ≤ n) (k : Nat) : ∀ i, at' + 1 ≤ i → i < at' + sc → pcOk ((Dk.new n).now.getD i []) = false ∨ pcNo ((Dk.new n).now.getD i []) < (k : Int) := fun i _ h2 => .inl (by rw [new_at n i (by omega)]; exact nought_not)
/-- A Log on a new disk. -/
theorem lopen_new {w : World} {base B n at' sc : Nat} (h : DiskIs w base B n (Dk.new n)) (hsc : 16 ≤ sc ∧ sc ≤ 32768 ∧ at' + sc ≤ n) (ht : TabOk w) (hg : 0 < base) :
    Calls Tryd.prog 5 #[.pointer (some ⟨B, 0, none⟩), .int .i64 at', .int .i64 sc] w fun e w' => ∃ L, e = .returned (.tuple #[.pointer (some ⟨L, 0, none⟩), .int .i64 0]) ∧ LogIs w' base L B n at' sc (Dk.new n).flush Lg.fresh ∧ Kl base w w' ∧ w.heap.size ≤ L := by
  have := lopen_good h hsc (by simp [Dk.new]) ht hg (by simp [Dk.new]) (fresh_clear hsc.2.2 _)
  rw [fresh_open ⟨hsc.1, hsc.2.2⟩] at this
  exact this

theorem conv_same (w : World) (C : Array Value) (n c : Nat) : (convert 32 32 (.slice (some ⟨w.heap.size, 0, none⟩) n c)).run Tryd.prog (w.alloc (.cells C 5)) =
    .ok (.slice (some ⟨w.heap.size, 0, none⟩) n c) (w.alloc (.cells C 5 (C.size, C.size + 1))) := by
  have hsh : (w.alloc (.cells C 5)).shape? w.heap.size = some (5, C.size) := by
    have : (w.alloc (.cells C 5)).heap[w.heap.size]? = some (.cells C 5) := by
      show (w.heap.push (.cells C 5))[w.heap.size]? = _
      simp
    unfold World.shape?
    rw [this]
  have hfr : (w.alloc (.cells C 5)).freeze ⟨w.heap.size, C.size, none⟩ 1 = w.alloc (.cells C 5 (C.size, C.size + 1)) := by
    have hm : ∀ (a : Array Obj) (x : Obj) (f : Obj → Obj), (a.push x).modify a.size f = a.push (f x) := by
      intro a x f
      apply Array.ext
      · simp
      · intro i h1 h2
        simp only [Array.getElem_modify, Array.getElem_push]
        by_cases h : a.size = i
        · subst h
          simp
        · have hi : i < a.size := by simp at h1; omega
          simp [h, hi]
    unfold World.freeze
    rw [if_neg (by decide)]
    show ({ w.alloc (.cells C 5) with heap := (w.heap.push (.cells C 5)).modify w.heap.size _ } : World) = _
    rw [hm]
    rfl
  simp [convert, run_underlying Tryd.underlying32, run_underlying Tryd.underlying5, markStringish, hsh]
  exact hfr
end Go.Proofs.YthhlbhnogcfnjaaDoor
