/-
  line's boxes: of points, of a line's segments; whether two of them meet.
-/
import Derived.Test.YtlnjjkgjknheiaaMFar
import Derived.Test.YtlnjjkgjknheiaaMG
import Derived.Test.YtlnjjkgjknheiaaMF
import Derived.WalkMore
namespace Go.Proofs.Ytlnjjkgjknheiaa
open Go.RowKit Go.Sort

theorem heap_newB (w : World) (o : Obj) : (w.alloc o).heap[w.heap.size]? = some o := by unfold World.alloc; simp
abbrev bxV (a b c d : Int) : Value := .agg #[.int .i64 a, .int .i64 b, .int .i64 c, .int .i64 d]
abbrev bxO (a b c d : Int) : Obj := .cells #[.int .i64 a, .int .i64 b, .int .i64 c, .int .i64 d] 32 (0, 0)
theorem bx_cells {w : World} {b : Nat} {x y z t : Int} (h : w.heap[b]? = some (bxO x y z t)) : w.cell? ⟨b, 0, none⟩ = some (.int .i64 x) ∧ w.cell? ⟨b, 1, none⟩ = some (.int .i64 y) ∧ w.cell? ⟨b, 2, none⟩ = some (.int .i64 z) ∧ w.cell? ⟨b, 3, none⟩ = some (.int .i64 t) := by
  refine ⟨?_, ?_, ?_, ?_⟩ <;> simp [World.cell?, h]
theorem bx_frozen {w : World} {b : Nat} {x y z t : Int} (h : w.heap[b]? = some (bxO x y z t)) (i : Nat) : w.frozen? ⟨b, i, none⟩ = false := by
  simp [World.frozen?, h]
theorem bx_set1 {w : World} {b i : Nat} {cs : Array Value} {t : TypeId} (h : w.heap[b]? = some (.cells cs t (0, 0))) (v : Value) : (w.setCell ⟨b, i, none⟩ v).heap[b]? = some (.cells (cs.setIfInBounds i v) t (0, 0)) := by
  rw [heap_setCell_same w b i _ _ _ h]
theorem bx_put {W : World} {b : Nat} {x y z t : Int} (h : W.heap[b]? = some (bxO x y z t)) (x' y' z' t' : Int) : ((((W.setCell ⟨b, 0, none⟩ (.int .i64 x')).setCell ⟨b, 1, none⟩ (.int .i64 y')).setCell ⟨b, 2, none⟩ (.int .i64 z')).setCell ⟨b, 3, none⟩ (.int .i64 t')).heap[b]? = some (bxO x' y' z' t') := by
  have q := bx_set1 (i := 3) (bx_set1 (i := 2) (bx_set1 (i := 1) (bx_set1 (i := 0) h (.int .i64 x')) (.int .i64 y')) (.int .i64 z')) (.int .i64 t')
  simp only [List.setIfInBounds_toArray, List.set_cons_zero, List.set_cons_succ] at q
  exact q

set_option maxRecDepth 100000 in
set_option maxHeartbeats 3200000 in
theorem boxOf_any (u : Value) (ps : List Pp) (w : World) (hp : Pts w u ps) (hl : ps.length ≤ 100000) :
    Calls Try.prog 10 #[u] w fun e w' => e = .returned (bxV (boxL ps).1 (boxL ps).2.1 (boxL ps).2.2.1 (boxL ps).2.2.2) ∧ Below w.heap.size w w' := by
  have HX := hid (fun W (h : Below w.heap.size w W) => box_any u ps W (hp.below h) (by omega))
  generalize boxL ps = B at *
  obtain ⟨bx0, by0, bx1, by1⟩ := B
  dsimp only at HX ⊢
  generalize decide (0 < ps.length) = e1 at *
  obtain ⟨wR, hwR⟩ : ∃ wR, w.alloc (bxO 0 0 0 0) = wR := ⟨_, rfl⟩
  have hbR : Below w.heap.size w wR := by rw [← hwR]; exact (Below.refl _ w).alloc (Nat.le_refl _) _
  have hhR : wR.heap[w.heap.size]? = some (bxO 0 0 0 0) := by rw [← hwR]; exact heap_newB w _
  have HR := hid (And.intro hbR hhR)
  clear hp hbR hhR
  go_enter Try.func10, Try.ntmps10
  go_wp2_with (go_at_call 22; refine (HX.out _ HR.out.1).mono ?_; rintro e w1 ⟨rfl, hb1⟩; obtain ⟨wA, hwA⟩ : ∃ wA, w1.alloc (.cells #[.int .i64 bx0, .int .i64 by0] 24) = wA := ⟨_, rfl⟩; obtain ⟨wB, hwB⟩ : ∃ wB, wA.alloc (.cells #[.int .i64 bx1, .int .i64 by1] 24) = wB := ⟨_, rfl⟩; obtain ⟨hA, hB, hBL, hszB, hszA⟩ := box2 hwA hwB; have hB1 : Below wR.heap.size wR wB := hb1.trans (hBL.mono hb1.size); have hh1 := (hB1.block _ (lt_of_heap HR.out.2)).trans HR.out.2; have a0 := hA.c0; have a1 := hA.c1; have b0 := hB.c0; have b1 := hB.c1; obtain ⟨r0, r1, r2, r3⟩ := bx_cells hh1; have f0 := bx_frozen hh1 0; have f1 := bx_frozen hh1 1; have f2 := bx_frozen hh1 2; have f3 := bx_frozen hh1 3; have H1 := hid (And.intro hh1 (HR.out.1.trans (hB1.mono HR.out.1.size))); clear hb1 HX hA hB hBL hszB hB1 hh1)
  generalize hV : World.setCell (World.setCell (World.setCell (World.setCell wB _ _) _ _) _ _) _ _ = V
  have hhV : V.heap[w.heap.size]? = some (bxO bx0 by0 bx1 by1) := by rw [← hV]; exact bx_put H1.out.1 _ _ _ _
  have hbV : Below w.heap.size w V := by
    rw [← hV]
    exact (((H1.out.2.setCell (p := ⟨w.heap.size, 0, none⟩) (Nat.le_refl _) _).setCell (p := ⟨w.heap.size, 1, none⟩) (Nat.le_refl _) _).setCell (p := ⟨w.heap.size, 2, none⟩) (Nat.le_refl _) _).setCell (p := ⟨w.heap.size, 3, none⟩) (Nat.le_refl _) _
  clear hV r0 r1 r2 r3 f0 f1 f2 f3
  obtain ⟨r0, r1, r2, r3⟩ := bx_cells hhV
  refine bodyPost_ret (v := bxV bx0 by0 bx1 by1) (by simp [results, Try.results10, go_sem, r0, r1, r2, r3]) rfl ?_
  exact ⟨rfl, hbV⟩

set_option maxRecDepth 100000 in
set_option maxHeartbeats 3200000 in
theorem meets_any (a0 a1 a2 a3 b0 b1 b2 b3 : Int) (w : World) :
    Calls Try.prog 11 #[bxV a0 a1 a2 a3, bxV b0 b1 b2 b3] w fun e w' => e = .returned (.bool (ovl (near a0) (near a2) (near b0) (near b2) && ovl (near a1) (near a3) (near b1) (near b3))) ∧ Below w.heap.size w w' := by
  have HM := hid (meet_any a0 a1 a2 a3 b0 b1 b2 b3)
  generalize (ovl (near a0) (near a2) (near b0) (near b2) && ovl (near a1) (near a3) (near b1) (near b3)) = R at *
  obtain ⟨wA, hwA⟩ : ∃ wA, w.alloc (bxO a0 a1 a2 a3) = wA := ⟨_, rfl⟩
  have hbA : Below w.heap.size w wA := by rw [← hwA]; exact (Below.refl _ w).alloc (Nat.le_refl _) _
  have hhA : wA.heap[w.heap.size]? = some (bxO a0 a1 a2 a3) := by rw [← hwA]; exact heap_newB w _
  obtain ⟨wB, hwB⟩ : ∃ wB, wA.alloc (bxO b0 b1 b2 b3) = wB := ⟨_, rfl⟩
  have hbB : Below wA.heap.size wA wB := by rw [← hwB]; exact (Below.refl _ wA).alloc (Nat.le_refl _) _
  have hhB : wB.heap[wA.heap.size]? = some (bxO b0 b1 b2 b3) := by rw [← hwB]; exact heap_newB wA _
  obtain ⟨x0, x1, x2, x3⟩ := bx_cells ((hbB.block _ (lt_of_heap hhA)).trans hhA)
  obtain ⟨y0, y1, y2, y3⟩ := bx_cells hhB
  have HB := hid (hbA.trans (hbB.mono hbA.size))
  clear hbA hhA hbB hhB
  go_enter Try.func11, Try.ntmps11
  go_wp2_with (go_at_call 23; refine (HM.out _).mono ?_; rintro e w1 ⟨rfl, hb1⟩; have H1 := hid (HB.out.trans (hb1.mono HB.out.size)); clear hb1 HM)
  go_ret
  exact ⟨rfl, H1.out⟩

/-- Boxes in a row of their own; the first i of them are those of a line's segments. -/
def BxR (W : World) (g N i : Nat) (ps : List Pp) : Prop := ∃ C : Array Value, W.heap[g]? = some (.cells C 32 (0, 0)) ∧ C.size = N * 4 ∧ ∀ k, k < N → ∃ x y z t : Int, C[k * 4]? = some (.int .i64 x) ∧ C[k * 4 + 1]? = some (.int .i64 y) ∧ C[k * 4 + 2]? = some (.int .i64 z) ∧ C[k * 4 + 3]? = some (.int .i64 t) ∧ (k < i → (x, y, z, t) = boxL [lpt ps k, lpt ps (k + 1)])
theorem BxR.below {W W' : World} {g N i B : Nat} {ps : List Pp} (h : BxR W g N i ps) (hb : Below B W W') (hg : g < B) : BxR W' g N i ps := by
  obtain ⟨C, hC, h2⟩ := h
  exact ⟨C, (hb.block g hg).trans hC, h2⟩
theorem BxR.lt {W : World} {g N i : Nat} {ps : List Pp} (h : BxR W g N i ps) : g < W.heap.size := by
  obtain ⟨C, hC, _⟩ := h
  exact lt_of_heap hC
theorem BxR.cells {W : World} {g N i : Nat} {ps : List Pp} (h : BxR W g N i ps) {k : Nat} (hk : k < N) : ∃ x y z t : Int, W.cell? ⟨g, k * 4, none⟩ = some (.int .i64 x) ∧ W.cell? ⟨g, k * 4 + 1, none⟩ = some (.int .i64 y) ∧ W.cell? ⟨g, k * 4 + 2, none⟩ = some (.int .i64 z) ∧ W.cell? ⟨g, k * 4 + 3, none⟩ = some (.int .i64 t) ∧ (k < i → (x, y, z, t) = boxL [lpt ps k, lpt ps (k + 1)]) := by
  obtain ⟨C, hC, hs, h2⟩ := h
  obtain ⟨x, y, z, t, c0, c1, c2, c3, cB⟩ := h2 k hk
  exact ⟨x, y, z, t, by simp [World.cell?, hC, c0], by simp [World.cell?, hC, c1], by simp [World.cell?, hC, c2], by simp [World.cell?, hC, c3], cB⟩
theorem BxR.frz {W : World} {g N i : Nat} {ps : List Pp} (h : BxR W g N i ps) (k : Nat) : W.frozen? ⟨g, k, none⟩ = false := by
  obtain ⟨C, hC, _⟩ := h
  simp [World.frozen?, hC]
theorem BxR.put {W : World} {g N i : Nat} {ps : List Pp} (h : BxR W g N i ps) (hi : i < N) {x y z t : Int} (hB : (x, y, z, t) = boxL [lpt ps i, lpt ps (i + 1)]) :
    BxR ((((W.setCell ⟨g, i * 4, none⟩ (.int .i64 x)).setCell ⟨g, i * 4 + 1, none⟩ (.int .i64 y)).setCell ⟨g, i * 4 + 2, none⟩ (.int .i64 z)).setCell ⟨g, i * 4 + 3, none⟩ (.int .i64 t)) g N (i + 1) ps := by
  obtain ⟨C, hC, hs, h2⟩ := h
  refine ⟨_, bx_set1 (bx_set1 (bx_set1 (bx_set1 hC _) _) _) _, by simp [hs], fun k hk => ?_⟩
  by_cases e : k = i
  · subst e
    refine ⟨x, y, z, t, ?_, ?_, ?_, ?_, fun _ => hB⟩ <;> (simp [Array.getElem?_setIfInBounds]; omega)
  · obtain ⟨x', y', z', t', c0, c1, c2, c3, cB⟩ := h2 k hk
    refine ⟨x', y', z', t', ?_, ?_, ?_, ?_, fun h => cB (by omega)⟩
    · rw [Array.getElem?_setIfInBounds_ne (by omega), Array.getElem?_setIfInBounds_ne (by omega), Array.getElem?_setIfInBounds_ne (by omega), Array.getElem?_setIfInBounds_ne (by omega)]; exact c0
    · rw [Array.getElem?_setIfInBounds_ne (by omega), Array.getElem?_setIfInBounds_ne (by omega), Array.getElem?_setIfInBounds_ne (by omega), Array.getElem?_setIfInBounds_ne (by omega)]; exact c1
    · rw [Array.getElem?_setIfInBounds_ne (by omega), Array.getElem?_setIfInBounds_ne (by omega), Array.getElem?_setIfInBounds_ne (by omega), Array.getElem?_setIfInBounds_ne (by omega)]; exact c2
    · rw [Array.getElem?_setIfInBounds_ne (by omega), Array.getElem?_setIfInBounds_ne (by omega), Array.getElem?_setIfInBounds_ne (by omega), Array.getElem?_setIfInBounds_ne (by omega)]; exact c3
theorem infoBx : (Try.prog.info? 32).map (fun i => (i.zero, i.size, i.bytes)) = some (some (.agg #[.int .i64 0, .int .i64 0, .int .i64 0, .int .i64 0]), 4, 32) := by kernel_rfl
theorem make_boxes (n : Nat) (hn : n ≤ 100000) (ps : List Pp) : ∃ C, ∀ w : World, (Instr.makeSlice 35 (.int .i64 (n : Int)) (.int .i64 (n : Int))).run Try.prog w = .ok (.slice (some ⟨w.heap.size, 0, none⟩) n n) (w.alloc (.cells C 32)) ∧
    BxR (w.alloc (.cells C 32)) w.heap.size n 0 ps := by
  obtain ⟨i0, hi, hz0, hz1, hz2⟩ := info_parts infoBx
  refine ⟨madeCells #[.int .i64 0, .int .i64 0, .int .i64 0, .int .i64 0] (n * 4), fun w => ⟨?_, madeCells #[.int .i64 0, .int .i64 0, .int .i64 0, .int .i64 0] (n * 4), heap_newB w _, by rw [size_madeCells], fun k hk => ⟨0, 0, 0, 0, ?_, ?_, ?_, ?_, fun h => absurd h (Nat.not_lt_zero k)⟩⟩⟩
  · have := run_make (P := Try.prog) w 35 32 i0 _ Try.underlying35 hi hz0 .i64 .i64 n n (by omega) (by omega) (by rw [hz2]; omega) (by omega)
    rw [hz1] at this
    rw [this]
    simp [Value.cells]
  · simp [madeCells, show k * 4 < n * 4 by omega, Nat.mul_mod_left]
  · simp [madeCells, show k * 4 + 1 < n * 4 by omega, show (k * 4 + 1) % 4 = 1 by omega]
  · simp [madeCells, show k * 4 + 2 < n * 4 by omega, show (k * 4 + 2) % 4 = 2 by omega]
  · simp [madeCells, show k * 4 + 3 < n * 4 by omega, show (k * 4 + 3) % 4 = 3 by omega]
end Go.Proofs.Ytlnjjkgjknheiaa
