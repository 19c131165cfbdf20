/-
  Layer 4: a Log on a new disk; '[]byte("..")'.
-/
import Derived.Test.YtaanednedjhblaaDoorWOpen
namespace Go.Proofs.YtaanednedjhblaaDoor
open Go.RowKit Go.Shelf

theorem nought_not : pcOk nought = false := by decide +kernel
theorem hd_not : hdOk nought = false := by
  have := nought_not
  simp [hdOk, this]
theorem new_at (n i : Nat) (h : i < n) : (Dk.new n).now.getD i [] = nought := by
  simp [Dk.new, Dk.now, app, List.getD, h]
def Lg.fresh : Lg := { first := 1, recs := [], start := 0, stop := 0, flushed := 0, tail := [] }
theorem fresh_open {n at' sc : Nat} (hsc : 16 ≤ sc ∧ at' + sc ≤ n) : openG (Dk.new n).now at' sc = Lg.fresh := by
  have h1 : headF ((Dk.new n).now.getD at' []) = 1 := by rw [new_at n at' (by omega), headF, hd_not]; rfl
  have h2 : headS ((Dk.new n).now.getD at' []) = 0 := by rw [new_at n at' (by omega), headS, hd_not]; rfl
  have h3 : strm (Dk.new n).now at' sc 0 = [] := by
    have hlt : 0 % (sc - 1) < sc - 1 := Nat.mod_lt _ (by omega)
    rw [strm, show sc - 1 = sc - 2 + 1 by omega, strmF, sectAt, new_at n _ (by omega), if_neg (by rw [nought_not]; simp)]
  have h4 : strmB (Dk.new n).now at' sc 0 = [] := by
    rw [strmB, Nat.zero_div, h3]
    rfl
  have h5 : strmZ (Dk.new n).now at' sc 0 = [] := by rw [strmZ, h4]; simp
  have h6 : recsP [] 1 = [] := by
    refine recsP_no ?_
    simp [rcOk, dec]
  rw [openG, h1, h2]
  show ({ first := 1, recs := recsP (strmZ (Dk.new n).now at' sc 0) ((1 : Nat) : Int), start := 0, stop := 0 + bulkOf (recsP (strmZ (Dk.new n).now at' sc 0) ((1 : Nat) : Int)), flushed := 1 + (recsP (strmZ (Dk.new n).now at' sc 0) ((1 : Nat) : Int)).length - 1, tail := ((strmB (Dk.new n).now at' sc 0).take (0 % 48 + bulkOf (recsP (strmZ (Dk.new n).now at' sc 0) ((1 : Nat) : Int)))).drop ((0 % 48 + bulkOf (recsP (strmZ (Dk.new n).now at' sc 0) ((1 : Nat) : Int))) / 48 * 48) } : Lg) = _
  rw [h5, h4, show ((1 : Nat) : Int) = 1 from rfl, h6]
  rfl
theorem fresh_clear {n at' sc : Nat} (hsc : at' + sc ≤ n) (k : Nat) : ∀ i, at' + 1 ≤ i → i < at' + sc → pcOk ((Dk.new n).now.getD i []) = false ∨ pcNo ((Dk.new n).now.getD i []) < (k : Int) := fun i _ h2 => .inl (by rw [new_at n i (by omega)]; exact nought_not)
/-- A Log on a new disk. -/
theorem lopen_new {w : World} {base B n at' sc : Nat} (h : DiskIs w base B n (Dk.new n)) (hsc : 16 ≤ sc ∧ sc ≤ 32768 ∧ at' + sc ≤ n) (ht : TabOk w) (hg : 0 < base) :
    Calls Tryd.prog 8 #[.pointer (some ⟨B, 0, none⟩), .int .i64 at', .int .i64 sc] w fun e w' => ∃ L, e = .returned (.tuple #[.pointer (some ⟨L, 0, none⟩), .int .i64 0]) ∧ LogIs w' base L B n at' sc (Dk.new n).flush Lg.fresh ∧ Kl base w w' ∧ w.heap.size ≤ L := by
  have := lopen_good h hsc (by simp [Dk.new]) ht hg (by simp [Dk.new]) (fresh_clear hsc.2.2 _)
  rw [fresh_open ⟨hsc.1, hsc.2.2⟩] at this
  exact this

theorem conv_same (w : World) (C : Array Value) (n c : Nat) : (convert 33 33 (.slice (some ⟨w.heap.size, 0, none⟩) n c)).run Tryd.prog (w.alloc (.cells C 5)) =
    .ok (.slice (some ⟨w.heap.size, 0, none⟩) n c) (w.alloc (.cells C 5 (C.size, C.size + 1))) := by
  have hsh : (w.alloc (.cells C 5)).shape? w.heap.size = some (5, C.size) := by
    have : (w.alloc (.cells C 5)).heap[w.heap.size]? = some (.cells C 5) := by
      show (w.heap.push (.cells C 5))[w.heap.size]? = _
      simp
    unfold World.shape?
    rw [this]
  have hfr : (w.alloc (.cells C 5)).freeze ⟨w.heap.size, C.size, none⟩ 1 = w.alloc (.cells C 5 (C.size, C.size + 1)) := by
    have hm : ∀ (a : Array Obj) (x : Obj) (f : Obj → Obj), (a.push x).modify a.size f = a.push (f x) := by
      intro a x f
      apply Array.ext
      · simp
      · intro i h1 h2
        simp only [Array.getElem_modify, Array.getElem_push]
        by_cases h : a.size = i
        · subst h
          simp
        · have hi : i < a.size := by simp at h1; omega
          simp [h, hi]
    unfold World.freeze
    rw [if_neg (by decide)]
    show ({ w.alloc (.cells C 5) with heap := (w.heap.push (.cells C 5)).modify w.heap.size _ } : World) = _
    rw [hm]
    rfl
  simp [convert, run_underlying Tryd.underlying33, run_underlying Tryd.underlying5, markStringish, hsh]
  exact hfr
end Go.Proofs.YtaanednedjhblaaDoor
