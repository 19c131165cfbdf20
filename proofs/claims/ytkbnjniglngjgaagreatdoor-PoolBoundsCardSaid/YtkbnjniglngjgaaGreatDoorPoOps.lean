/-
  Layer 5: what has, frameOf, copyOf, dirty and free of a Pool give.
-/
import Derived.Test.YtkbnjniglngjgaaGreatDoorMF
import Derived.Test.YtkbnjniglngjgaaGreatDoorMG
namespace Go.Proofs.YtkbnjniglngjgaaGreatDoor
open Go.RowKit

theorem pnum_any {w : World} {base F B p0 np : Nat} {half : Bool} (h : FileIs w base F B p0 np half) :
    Calls Tryz.prog 30 #[.pointer (some ⟨F, 0, none⟩)] w fun e w' => e = .returned (.int .i64 np) ∧ w' = w := by
  obtain ⟨c0, c1, c2, c3⟩ := h.cells
  clear h
  go_enter Tryz.func30, Tryz.ntmps30
  go_wp2
  go_ret
  exact ⟨rfl, rfl⟩
theorem pohas_any {w : World} {P F L g k base B p0 np : Nat} {f : Fr} {half : Bool} (h : PlI w P F L g k f) (hf : FileIs w base F B p0 np half) (i : Int) :
    Calls Tryz.prog 14 #[.pointer (some ⟨P, 0, none⟩), .int .i64 i] w fun e w' => e = .returned (.bool (decide (0 ≤ i ∧ i < np))) ∧ w' = w := by
  obtain ⟨c0, c1, c2⟩ := h.cP
  have HN := hid (pnum_any hf)
  clear h hf
  by_cases h0 : 0 ≤ i
  · have hd : decide (0 ≤ i ∧ i < (np : Int)) = decide (i < (np : Int)) := by simp [h0]
    rw [hd]
    clear hd
    go_enter Tryz.func14, Tryz.ntmps14
    go_wp2_with (go_at_call 30; refine HN.out.mono ?_; rintro e w2 ⟨rfl, hw⟩; have hw' := hw.symm; clear hw HN; subst hw')
    go_ret
    exact ⟨rfl, rfl⟩
  · have hd : decide (0 ≤ i ∧ i < (np : Int)) = false := by simp [h0]
    rw [hd]
    clear hd
    go_enter Tryz.func14, Tryz.ntmps14
    go_wp2
    go_ret
    exact ⟨rfl, rfl⟩
/-- No frame holds a page. -/
theorem frameOf_no {w : World} {P F L g k : Nat} {f : Fr} (h : PlI w P F L g k f) (hh : f.held = false) (i : Int) :
    Calls Tryz.prog 16 #[.pointer (some ⟨P, 0, none⟩), .int .i64 i] w fun e w' => e = .returned (.pointer none) ∧ w' = w := by
  obtain ⟨c0, c1, c2⟩ := h.cP
  have hc : ∀ j, j < k + 1 → w.cell? ⟨g, j * 8, none⟩ = some (.bool false) := fun j hj => by
    rcases Nat.eq_zero_or_pos j with rfl | hp
    · exact h.at 0 _ (by rw [← hh]; rfl)
    · exact h.rest hp hj
  have HC := hid hc
  have hk := h.kk
  clear h hc
  go_enter Tryz.func16, Tryz.ntmps16
  go_wp2
  go_loop [5, 6, 12] (fun _ _ i => ∃ j : Nat, j ≤ k + 1 ∧ i = .int .i64 j) (fun _ _ i => k + 1 - (intOf i).toNat)
  case atStart => exact ⟨0, by omega, rfl⟩
  case round =>
    obtain ⟨j, hj, rfl⟩ := hrel
    by_cases hlt : j < k + 1
    · have hcj := HC.out j hlt
      have hkI : (j : Int) < ((k + 1 : Nat) : Int) := by omega
      go_wp2
      go_round
      case rel => exact ⟨j + 1, by omega, by go_num⟩
      case measure => simp [intOf]; omega
    · have hkI : ¬ (j : Int) < ((k + 1 : Nat) : Int) := by omega
      go_wp2
      go_ret
      exact ⟨rfl, rfl⟩
/-- The first frame holds it. -/
theorem frameOf_yes {w : World} {P F L g k : Nat} {f : Fr} (h : PlI w P F L g k f) (hh : f.held = true) {i : Int} (hi : f.no = i) :
    Calls Tryz.prog 16 #[.pointer (some ⟨P, 0, none⟩), .int .i64 i] w fun e w' => e = .returned (.pointer (some ⟨g, 0, none⟩)) ∧ w' = w := by
  obtain ⟨c0, c1, c2⟩ := h.cP
  have a0 := h.at 0 (.bool true) (by rw [← hh]; rfl)
  have a2 := h.at 2 (.int .i64 i) (by rw [← hi]; rfl)
  have hk := h.kk
  clear h
  have hkI : (0 : Int) < ((k + 1 : Nat) : Int) := by omega
  go_enter Tryz.func16, Tryz.ntmps16
  go_wp2
  go_loop [5, 6, 12] (fun _ _ i => i = .int .i64 0) (fun _ _ _ => 0)
  case atStart => rfl
  case round =>
    obtain rfl := hrel
    go_wp2
    go_ret
    exact ⟨rfl, rfl⟩
theorem copyOf_any {w : World} {s : Value} {zs : List Int} (no lsn : Int) (h : Bs w s zs) :
    Calls Tryz.prog 17 #[.agg #[.int .i64 no, .int .u64 lsn, s]] w fun e w' => ∃ s', e = .returned (.agg #[.int .i64 no, .int .u64 lsn, s']) ∧ w'.ownsRow w.heap.size 5 1 s' zs.length (secV zs) ∧ Below w.heap.size w w' := by
  obtain ⟨ao, cap, rfl, _⟩ := h.open
  obtain ⟨wA, hwA⟩ : ∃ wA, w.alloc (.cells #[.int .i64 no, .int .u64 lsn, .slice ao zs.length cap] 40) = wA := ⟨_, rfl⟩
  have hbA : Below w.heap.size w wA := by rw [← hwA]; exact (Below.refl _ _).alloc (Nat.le_refl _) _
  have hA : wA.heap[w.heap.size]? = some (.cells #[.int .i64 no, .int .u64 lsn, .slice ao zs.length cap] 40 (0, 0)) := by rw [← hwA]; exact heap_new w _
  have hsA : wA.heap.size = w.heap.size + 1 := by rw [← hwA]; simp
  obtain ⟨wB, hwB⟩ : ∃ wB, wA.alloc (.cells #[.int .i64 0, .int .u64 0, .slice none 0 0] 40) = wB := ⟨_, rfl⟩
  have hbB : Below wA.heap.size wA wB := by rw [← hwB]; exact (Below.refl _ _).alloc (Nat.le_refl _) _
  have hB : wB.heap[w.heap.size + 1]? = some (.cells #[.int .i64 0, .int .u64 0, .slice none 0 0] 40 (0, 0)) := by rw [← hwB, ← hsA]; exact heap_new wA _
  have hB0 := (hbB.block _ (lt_of_heap hA)).trans hA
  have HB := hid (hbA.trans (hbB.mono hbA.size))
  have HC := hid (bs_clone_own (h.below HB.out) h.2.1)
  have b0 := cell_of_row wB w.heap.size 0 _ _ _ hB0
  have b1 := cell_of_row wB w.heap.size 1 _ _ _ hB0
  have b2 := cell_of_row wB w.heap.size 2 _ _ _ hB0
  simp only [List.getElem?_toArray, List.getElem?_cons_succ, List.getElem?_cons_zero] at b0 b1 b2
  have HRA := hid hB0
  have HRB := hid hB
  generalize zs.length = N at *
  clear h hbA hA hbB hB hB0
  go_enter Tryz.func17, Tryz.ntmps17
  go_wp2_with (go_at_call 31; refine HC.out.mono ?_; rintro e w3 ⟨s3, rfl, hown3, hb3⟩; obtain ⟨a3, c3, rfl, _⟩ := own_any hown3; have HO3 := hid hown3; have HB3 := hid (HB.out.trans (hb3.mono HB.out.size)); have hr1 := (hb3.block _ (lt_of_heap HRA.out)).trans HRA.out; have hr2 := (hb3.block _ (lt_of_heap HRB.out)).trans HRB.out; have HL1 := hid (lt_of_heap HRA.out); have HL2 := hid (lt_of_heap HRB.out); have d0 := cell_of_row w3 w.heap.size 0 _ _ _ hr1; have d1 := cell_of_row w3 w.heap.size 1 _ _ _ hr1; have d2 := cell_of_row w3 w.heap.size 2 _ _ _ hr1; have f2 := frozen_of_row w3 w.heap.size 2 _ _ hr1; have e0 := cell_of_row w3 (w.heap.size + 1) 0 _ _ _ hr2; have e1 := cell_of_row w3 (w.heap.size + 1) 1 _ _ _ hr2; have e2 := cell_of_row w3 (w.heap.size + 1) 2 _ _ _ hr2; have g0 := frozen_of_row w3 (w.heap.size + 1) 0 _ _ hr2; have g1 := frozen_of_row w3 (w.heap.size + 1) 1 _ _ hr2; have g2 := frozen_of_row w3 (w.heap.size + 1) 2 _ _ hr2; simp only [List.getElem?_toArray, List.getElem?_cons_succ, List.getElem?_cons_zero] at d0 d1 d2 e0 e1 e2; clear hown3 hb3 hr1 hr2 HC b0 b1 b2)
  refine bodyPost_ret (v := .agg #[.int .i64 no, .int .u64 lsn, .slice a3 N c3]) (by simp [results, Tryz.results17, go_sem, e0, e1, e2]) rfl ⟨_, rfl, ?_, ?_⟩
  · exact own_mono (own_far (g := w.heap.size + 1) (o := 0) (vs := [.int .i64 no, .int .u64 lsn, .slice a3 N c3]) (own_far (g := w.heap.size) (o := 2) (vs := [.slice a3 N c3]) HO3.out HL1.out) HL2.out) HB.out.size
  · exact (((HB3.out.setCell (p := ⟨w.heap.size, 2, none⟩) (Nat.le_refl _) _).setCell (p := ⟨w.heap.size + 1, 0, none⟩) (Nat.le_succ _) _).setCell (p := ⟨w.heap.size + 1, 1, none⟩) (Nat.le_succ _) _).setCell (p := ⟨w.heap.size + 1, 2, none⟩) (Nat.le_succ _) _
theorem dirty_yes {w : World} {P F L g k : Nat} {f : Fr} (h : PlI w P F L g k f) (hne : f.lsn ≠ f.lsn2) :
    Calls Tryz.prog 42 #[.pointer (some ⟨g, 0, none⟩)] w fun e w' => e = .returned (.bool true) ∧ ∃ q, w' = w.drewN q := by
  have a1 := h.at 3 (.int .u64 f.lsn) rfl
  have a2 := h.at 6 (.int .u64 f.lsn2) rfl
  clear h
  go_enter Tryz.func42, Tryz.ntmps42
  go_wp2
  go_quiet (fail)
  go_wp2
  go_ret
  exact ⟨rfl, _, rfl⟩
theorem dirty_eq {w : World} {P F L g k : Nat} {f : Fr} (h : PlI w P F L g k f) (he : f.lsn = f.lsn2) {xs ys : List Int} (hx : Bs w f.s xs) (hy : Bs w f.s2 ys) :
    Calls Tryz.prog 42 #[.pointer (some ⟨g, 0, none⟩)] w fun e w' => e = .returned (.bool (!decide (xs = ys))) ∧ ∃ q, w' = w.drewN q := by
  have a1 := h.at 3 (.int .u64 f.lsn) rfl
  have a2 := h.at 6 (.int .u64 f.lsn2) rfl
  have a3 := h.at 4 f.s rfl
  have a4 := h.at 7 f.s2 rfl
  rw [← he] at a2
  have HE := hid (fun q => equal_any (hx.below (below_drewN (Below.refl _ w) q)) (hy.below (below_drewN (Below.refl _ w) q)))
  generalize f.lsn = l at *
  obtain ⟨x1, x2, x3, -⟩ := hx.open
  obtain ⟨y1, y2, y3, -⟩ := hy.open
  rw [x3] at a3 HE
  rw [y3] at a4 HE
  clear h hx hy
  go_enter Tryz.func42, Tryz.ntmps42
  go_wp2
  go_quiet (first | (go_at_call 53; refine Calls.quiet_of_same (HE.out _)))
  go_wp2
  go_ret
  exact ⟨rfl, _, rfl⟩
theorem free1_any (w : World) (f : Fr) : Calls Tryz.prog 59 #[.agg #[.bool f.held, .bool f.asked, .int .i64 f.no, .int .u64 f.lsn, f.s, .int .i64 f.no2, .int .u64 f.lsn2, f.s2]] w fun e w' => e = .returned (.bool (!f.held)) ∧ Below w.heap.size w w' := by
  go_enter Tryz.func59, Tryz.ntmps59
  go_wp2
  go_ret
  exact ⟨rfl, (Below.refl _ _).alloc (Nat.le_refl _) _⟩
theorem PlI.cells {w : World} {P F L g k : Nat} {f : Fr} (h : PlI w P F L g k f) : w.cell? ⟨g, 0, none⟩ = some (.bool f.held) ∧ w.cell? ⟨g, 1, none⟩ = some (.bool f.asked) ∧ w.cell? ⟨g, 2, none⟩ = some (.int .i64 f.no) ∧ w.cell? ⟨g, 3, none⟩ = some (.int .u64 f.lsn) ∧ w.cell? ⟨g, 4, none⟩ = some f.s ∧ w.cell? ⟨g, 5, none⟩ = some (.int .i64 f.no2) ∧ w.cell? ⟨g, 6, none⟩ = some (.int .u64 f.lsn2) ∧ w.cell? ⟨g, 7, none⟩ = some f.s2 :=
  ⟨h.at 0 _ rfl, h.at 1 _ rfl, h.at 2 _ rfl, h.at 3 _ rfl, h.at 4 _ rfl, h.at 5 _ rfl, h.at 6 _ rfl, h.at 7 _ rfl⟩
theorem pfirst_any {w : World} {P F L g k : Nat} {f : Fr} (h : PlI w P F L g k f) (hh : f.held = false) :
    Calls Tryz.prog 58 #[.slice (some ⟨g, 0, none⟩) (k + 1) (k + 1), .func (.func 59) #[] #[]] w fun e w' => e = .returned (.int .i64 0) ∧ Below w.heap.size w w' := by
  obtain ⟨a0, a1, a2, a3, a4, a5, a6, a7⟩ := h.cells
  have HF := hid (free1_any w f)
  have hk := h.kk
  have hkI : (0 : Int) < ((k + 1 : Nat) : Int) := by omega
  rw [hh] at HF a0
  generalize f.s = s at *
  generalize f.s2 = s2 at *
  generalize f.no = x0 at *
  generalize f.no2 = x1 at *
  generalize f.lsn = x2 at *
  generalize f.lsn2 = x3 at *
  generalize f.asked = x4 at *
  clear h
  go_enter Tryz.func58, Tryz.ntmps58
  go_wp2
  go_loop [5, 8] (fun _ i => i = .int .i64 0) (fun _ _ => 0)
  case atStart => rfl
  case round =>
    obtain rfl := hrel
    go_wp2_with (go_at_call 59; refine HF.out.mono ?_; rintro e w2 ⟨rfl, hb2⟩; have HB2 := hid hb2; clear hb2 HF)
    go_ret
    exact ⟨rfl, HB2.out⟩
theorem free_any {w : World} {P F L g k : Nat} {f : Fr} (h : PlI w P F L g k f) (hh : f.held = false) :
    Calls Tryz.prog 34 #[.pointer (some ⟨P, 0, none⟩)] w fun e w' => e = .returned (.tuple #[.pointer (some ⟨g, 0, none⟩), .int .i64 0]) ∧ Below w.heap.size w w' := by
  obtain ⟨c0, c1, c2⟩ := h.cP
  have HX := hid (pfirst_any h hh)
  have H := hid h
  have hk := h.kk
  have hkI : (0 : Int) < ((k + 1 : Nat) : Int) := by omega
  clear h
  go_enter Tryz.func34, Tryz.ntmps34
  go_wp2_with (go_at_call 58; refine HX.out.mono ?_; rintro e w2 ⟨rfl, hb2⟩; obtain ⟨b0, b1, b2⟩ := (H.out.below hb2).cP; have HB2 := hid hb2; clear hb2 HX c0 c1 c2)
  go_ret2
  exact ⟨rfl, HB2.out⟩
/-- The frame is written anew. -/
theorem setCells_far (g : Nat) : ∀ (vs : List Value) (o : Nat) (w : World), Below g w (w.setCells g o vs) ∧ ∀ k, k ≠ g → (w.setCells g o vs).heap[k]? = w.heap[k]?
  | [], _, w => ⟨Below.refl _ _, fun _ _ => rfl⟩
  | v :: vs, o, w => by
    have h := setCells_far g vs (o + 1) (w.setCell ⟨g, o, none⟩ v)
    exact ⟨((Below.refl g w).setCell (p := ⟨g, o, none⟩) (Nat.le_refl _) v).trans h.1, fun k hk => (h.2 k hk).trans (Below.heap_setCell w ⟨g, o, none⟩ v k hk)⟩
theorem row_set {w : World} {g i : Nat} {cs : List Value} {t : TypeId} (h : w.heap[g]? = some (.cells cs.toArray t (0, 0))) (v : Value) : (w.setCell ⟨g, i, none⟩ v).heap[g]? = some (.cells (cs.set i v).toArray t (0, 0)) := by
  rw [heap_setCell_same w g i _ _ _ h]
  simp
theorem PlI.set {w : World} {P F L g k : Nat} {f : Fr} (h : PlI w P F L g k f) (f' : Fr) : PlI (w.setCells g 0 f'.cells) P F L g k f' ∧ Kx g w (w.setCells g 0 f'.cells) := by
  have hk : Kx g w (w.setCells g 0 f'.cells) := (Kx.refl g w).step (setCells_far g f'.cells 0 w).1 fun i _ hg => (setCells_far g f'.cells 0 w).2 i hg
  refine ⟨⟨(hk.keep _ (lt_of_heap h.pool) h.ne).trans h.pool, ?_, h.kk⟩, hk⟩
  have h0 := row_set (i := 0) h.row (.bool f'.held)
  have h1 := row_set (i := 1) h0 (.bool f'.asked)
  have h2 := row_set (i := 2) h1 (.int .i64 f'.no)
  have h3 := row_set (i := 3) h2 (.int .u64 f'.lsn)
  have h4 := row_set (i := 4) h3 f'.s
  have h5 := row_set (i := 5) h4 (.int .i64 f'.no2)
  have h6 := row_set (i := 6) h5 (.int .u64 f'.lsn2)
  have h7 := row_set (i := 7) h6 f'.s2
  exact h7
theorem hold_any {w : World} {P F L g k : Nat} {f : Fr} (h : PlI w P F L g k f) (hh : f.held = false) (no lsn no2 lsn2 : Int) {s s2 : Value} (hs : ∃ a n c, s = .slice a n c) (hs2 : ∃ a n c, s2 = .slice a n c) :
    Calls Tryz.prog 19 #[.pointer (some ⟨P, 0, none⟩), .agg #[.int .i64 no, .int .u64 lsn, s], .agg #[.int .i64 no2, .int .u64 lsn2, s2]] w fun e w' => e = .returned (.int .i64 0) ∧ PlI w' P F L g k ⟨true, true, no, lsn, s, no2, lsn2, s2⟩ ∧ Kx g w w' := by
  obtain ⟨sa, sn, sc, rfl⟩ := hs
  obtain ⟨ta, tn, tc, rfl⟩ := hs2
  obtain ⟨wA, hwA⟩ : ∃ wA, w.alloc (.cells #[.int .i64 no, .int .u64 lsn, .slice sa sn sc] 40) = wA := ⟨_, rfl⟩
  have hbA : Below w.heap.size w wA := by rw [← hwA]; exact (Below.refl _ _).alloc (Nat.le_refl _) _
  have hA : wA.heap[w.heap.size]? = some (.cells #[.int .i64 no, .int .u64 lsn, .slice sa sn sc] 40 (0, 0)) := by rw [← hwA]; exact heap_new w _
  have hsA : wA.heap.size = w.heap.size + 1 := by rw [← hwA]; simp
  obtain ⟨wB, hwB⟩ : ∃ wB, wA.alloc (.cells #[.int .i64 no2, .int .u64 lsn2, .slice ta tn tc] 40) = wB := ⟨_, rfl⟩
  have hbB : Below wA.heap.size wA wB := by rw [← hwB]; exact (Below.refl _ _).alloc (Nat.le_refl _) _
  have hB : wB.heap[w.heap.size + 1]? = some (.cells #[.int .i64 no2, .int .u64 lsn2, .slice ta tn tc] 40 (0, 0)) := by rw [← hwB, ← hsA]; exact heap_new wA _
  have hB0 := (hbB.block _ (lt_of_heap hA)).trans hA
  have HB := hid (hbA.trans (hbB.mono hbA.size))
  have H := hid (h.below HB.out)
  have HX := hid (free_any H.out hh)
  have HRA := hid hB0
  have HRB := hid hB
  clear h hbA hA hbB hB hB0
  go_enter Tryz.func19, Tryz.ntmps19
  go_wp2_with (go_at_call 34; refine HX.out.mono ?_; rintro e w3 ⟨rfl, hb3⟩; have H3 := hid (H.out.below hb3); have HB3 := hid (HB.out.trans (hb3.mono HB.out.size)); have hr1 := (hb3.block _ (lt_of_heap HRA.out)).trans HRA.out; have hr2 := (hb3.block _ (lt_of_heap HRB.out)).trans HRB.out; have d0 := cell_of_row w3 w.heap.size 0 _ _ _ hr1; have d1 := cell_of_row w3 w.heap.size 1 _ _ _ hr1; have d2 := cell_of_row w3 w.heap.size 2 _ _ _ hr1; have e0 := cell_of_row w3 (w.heap.size + 1) 0 _ _ _ hr2; have e1 := cell_of_row w3 (w.heap.size + 1) 1 _ _ _ hr2; have e2 := cell_of_row w3 (w.heap.size + 1) 2 _ _ _ hr2; simp only [List.getElem?_toArray, List.getElem?_cons_succ, List.getElem?_cons_zero] at d0 d1 d2 e0 e1 e2; have z0 := H3.out.frz 0; have z1 := H3.out.frz 1; have z2 := H3.out.frz 2; have z3 := H3.out.frz 3; have z4 := H3.out.frz 4; have z5 := H3.out.frz 5; have z6 := H3.out.frz 6; have z7 := H3.out.frz 7; obtain ⟨a0, a1, a2, a3, a4, a5, a6, a7⟩ := H3.out.cells; clear hb3 hr1 hr2 HX)
  go_ret
  have hS := H3.out.set ⟨true, true, no, lsn, .slice sa sn sc, no2, lsn2, .slice ta tn tc⟩
  exact ⟨rfl, hS.1, (Kx.fresh HB3.out).trans hS.2⟩
end Go.Proofs.YtkbnjniglngjgaaGreatDoor
