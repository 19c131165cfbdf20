/-
  What disk.marks gives; what Crash's loops lean on.
-/
import Derived.Test.YthhlbhnogcfnjaaDoorDFlushWalk
namespace Go.Proofs.YthhlbhnogcfnjaaDoor
open Go.RowKit Go.Shelf

/-- The slice v holds the numbers ys. -/
def Ints (w : World) (v : Value) (ys : List Int) : Prop :=
  (∀ y ∈ ys, -9223372036854775808 ≤ y ∧ y ≤ 9223372036854775807) ∧
  ∃ ao cap, v = .slice ao ys.length cap ∧ (1 ≤ ys.length → ∃ b off, ao = some ⟨b, off, none⟩ ∧ ∀ j, j < ys.length → w.cell? ⟨b, off + j, none⟩ = some (.int .i64 (ys.getD j 0)))
theorem Ints.below {w w' : World} {v : Value} {ys : List Int} (h : Ints w v ys) {N : Nat} (hb : Below N w w') (hlt : ∀ k a n c, v = .slice (some a) n c → a.block = k → k < N) : Ints w' v ys := by
  obtain ⟨h1, ao, cap, rfl, hc⟩ := h
  refine ⟨h1, ao, cap, rfl, fun hl => ?_⟩
  obtain ⟨b, off, rfl, hx⟩ := hc hl
  exact ⟨b, off, rfl, fun j hj => by rw [hb.cell (p := ⟨b, off + j, none⟩) (hlt b _ _ _ rfl rfl)]; exact hx j hj⟩
theorem ints_nil (w : World) : Ints w (.slice none 0 0) [] := ⟨by simp, none, 0, rfl, fun h => by simp at h⟩
theorem Ints.fresh {w w' : World} {v : Value} {ys : List Int} (h : Ints w v ys) (hb : Below w.heap.size w w') : Ints w' v ys := by
  obtain ⟨h1, ao, cap, rfl, hc⟩ := h
  refine ⟨h1, ao, cap, rfl, fun hl => ?_⟩
  obtain ⟨b, off, rfl, hx⟩ := hc hl
  exact ⟨b, off, rfl, fun j hj => by rw [hb.cell (p := ⟨b, off + j, none⟩) (lt_of_cell (hx 0 (by omega)))]; exact hx j hj⟩

def marksL (ks : List Int) (n : Nat) : List Value := (List.range n).map fun (i : Nat) => Value.bool (decide ((i : Int) ∈ ks))
theorem marksL_nil (n : Nat) : marksL [] n = List.replicate n (.bool false) := by
  apply List.ext_getElem (by simp [marksL])
  intro i h1 h2
  rw [List.getElem_replicate]
  simp [marksL]
theorem marksL_set {ks : List Int} {n : Nat} {k : Nat} (_hk : k < n) : (marksL ks n).set k (.bool true) = marksL (ks ++ [(k : Int)]) n := by
  apply List.ext_getElem (by simp [marksL])
  intro i h1 h2
  simp only [marksL, List.getElem_set, List.getElem_map, List.getElem_range, List.mem_append, List.mem_singleton]
  by_cases h : k = i
  · subst h; simp
  · have : ¬ ((i : Int) = (k : Int)) := by omega
    rw [if_neg h]
    simp [this]
theorem marksL_out {ks : List Int} {n : Nat} {y : Int} (h : ¬ (0 ≤ y ∧ y < n)) : marksL ks n = marksL (ks ++ [y]) n := by
  apply List.ext_getElem (by simp [marksL])
  intro i h1 h2
  have hi : i < n := by simpa [marksL] using h1
  have : ¬ ((i : Int) = y) := by omega
  simp [marksL, this]
theorem infoBool : (Tryd.prog.info? 4).map (fun i => (i.zero, i.size, i.bytes)) = some (some (.bool false), 1, 1) := by kernel_rfl


set_option maxHeartbeats 800000 in
theorem marks_any {w : World} {v : Value} {ys : List Int} (h : Ints w v ys) (n : Nat) (hn : n ≤ 1000000) (hl : ys.length ≤ 140737488355328) :
    Calls Tryd.prog 30 #[v, .int .i64 n] w fun e w' => ∃ g, e = .returned (.slice (some ⟨g, 0, none⟩) n n) ∧ w'.ownsRow w.heap.size 4 1 (.slice (some ⟨g, 0, none⟩) n n) n (marksL ys n) ∧ Below w.heap.size w w' := by
  obtain ⟨i0, hi, hz0, hz1, hz2⟩ := info_parts infoBool
  obtain ⟨hr, ao, cap, rfl, hcell⟩ := h
  obtain ⟨C, hC⟩ : ∃ C, C = madeCells #[Value.bool false] n := ⟨_, rfl⟩
  have hmk : ∀ wx : World, (Instr.makeSlice 61 (.int .i64 (n : Int)) (.int .i64 (n : Int))).run Tryd.prog wx = .ok (.slice (some ⟨wx.heap.size, 0, none⟩) n n) (wx.alloc (.cells C 4)) := fun wx => by
    have := run_make (P := Tryd.prog) wx 61 4 i0 _ Tryd.underlying61 hi hz0 .i64 .i64 n n (by omega) (by omega) (by rw [hz2]; omega) (by omega)
    rw [hz1] at this
    rw [this, hC]
    simp [Value.cells]
  have hC2 : C.toList = marksL [] n := by rw [hC, toList_madeCells_one, marksL_nil]
  have hC3 : C.size = n * 1 := by rw [hC, size_madeCells]; omega
  have h0 : (w.alloc (.cells C 4)).ownsRow w.heap.size 4 1 (.slice (some ⟨w.heap.size, 0, none⟩) n n) n (marksL [] n) := by
    rw [← hC2]
    exact World.ownsRow_lit w C n (Nat.le_refl _) (by unfold maxLen; omega) hC3
  have H0 := hid h0
  have HR := hid hr
  have HC := hid hcell
  clear hC hC2 hC3 h0 hi hz0 hz1 hz2 hr hcell
  obtain ⟨len, hlen⟩ : ∃ len, len = ys.length := ⟨_, rfl⟩
  rw [← hlen] at HC hl ⊢
  have HL := hid hlen
  clear hlen
  go_enter Tryd.func30, Tryd.ntmps30
  go_wp2
  go_loopw [7, 12] (fun _ i wr => ∃ k : Nat, k ≤ len ∧ i = .int .i64 k ∧ wr.ownsRow w.heap.size 4 1 (.slice (some ⟨w.heap.size, 0, none⟩) n n) n (marksL (ys.take k) n) ∧ Below w.heap.size w wr) (fun _ i _ => len - (intOf i).toNat)
  case atStart => exact ⟨0, by omega, rfl, by simpa using H0.out, (Below.refl _ _).alloc (Nat.le_refl _) _⟩
  case round =>
    obtain ⟨k, hk, rfl, hown, hbr⟩ := hrel
    by_cases hlt : k < len
    · obtain ⟨b, off, rfl, hx⟩ := HC.out (by omega)
      have hkl : k < ys.length := by have := HL.out; omega
      obtain ⟨y, hy⟩ : ∃ y, y = ys.getD k 0 := ⟨_, rfl⟩
      have hyr : -9223372036854775808 ≤ y ∧ y ≤ 9223372036854775807 := HR.out y (by rw [hy]; simp [List.getD, hkl])
      have hce : wr.cell? ⟨b, off + k, none⟩ = some (.int .i64 y) := by
        rw [hbr.cell (p := ⟨b, off + k, none⟩) (lt_of_cell (hx k hlt)), hy]; exact hx k hlt
      have hts : ys.take (k + 1) = ys.take k ++ [y] := by rw [List.take_succ_eq_append_getElem hkl, hy]; simp [List.getD, hkl]
      have HT := hid hts
      have HO := hid hown
      clear hts hown hx hy
      by_cases hin : 0 ≤ y ∧ y < n
      · obtain ⟨q, rfl⟩ := Int.eq_ofNat_of_zero_le hin.1
        have hq : q < n := by omega
        have hqc := HO.out.cellAt q (by omega)
        have hqf := HO.out.frozenAt q
        obtain ⟨u, hu⟩ : ∃ u, (marksL (ys.take k) n)[q]? = some u := ⟨(marksL (ys.take k) n)[q]'(by simp [marksL]; omega), by simp⟩
        rw [hu] at hqc
        have hq1 : (0 : Int) ≤ (q : Int) := by omega
        have hq2 : (q : Int) < (n : Int) := by omega
        clear hu hin
        go_wp2
        go_roundw
        case rel =>
          refine ⟨k + 1, by omega, by go_num, ?_, hbr.setCell (p := ⟨w.heap.size, q, none⟩) (Nat.le_refl _) _⟩
          have := (HO.out.stored q (.bool true)).1
          rw [marksL_set hq] at this
          rw [HT.out]
          exact this
        case measure => simp [intOf]; omega
      · have HM := hid (marksL_out (ks := ys.take k) hin)
        by_cases hneg : 0 ≤ y
        · have hd2 : decide (y < (n : Int)) = false := by simp; omega
          clear hin
          go_wp2
          go_roundw
          case rel =>
            refine ⟨k + 1, by omega, by go_num, ?_, hbr⟩
            rw [HT.out, ← HM.out]
            exact HO.out
          case measure => simp [intOf]; omega
        · have hd2 : decide (0 ≤ y) = false := by simp; omega
          clear hin
          go_wp2
          go_roundw
          case rel =>
            refine ⟨k + 1, by omega, by go_num, ?_, hbr⟩
            rw [HT.out, ← HM.out]
            exact HO.out
          case measure => simp [intOf]; omega
    · obtain rfl : k = len := by omega
      have hE : ys.take k = ys := List.take_of_length_le (by rw [HL.out]; exact Nat.le_refl _)
      rw [hE] at hown
      have HO := hid hown
      clear hown hE
      go_wp2
      go_ret
      exact ⟨_, rfl, HO.out, hbr⟩

end Go.Proofs.YthhlbhnogcfnjaaDoor
