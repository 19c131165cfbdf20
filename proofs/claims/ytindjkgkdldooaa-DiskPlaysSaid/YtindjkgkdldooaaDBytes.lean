/-
  Layer 2: bytes as a slice, as a string; what terrierlaw2.Sector, terrierref1.Nought, bytes.Clone, disk.Read give.
-/
import Derived.Test.YtindjkgkdldooaaDNew
import Derived.Lib.Strings
import Derived.Laws.AppendOwnNone
namespace Go.Proofs.Ytindjkgkdldooaa
open Go.RowKit

/-- The slice v holds the bytes zs. -/
def Has (w : World) (v : Value) (zs : List Int) : Prop :=
  ∃ b off cap, v = .slice (some ⟨b, off, none⟩) zs.length cap ∧ zs.length ≤ cap ∧ ∀ j, j < zs.length → w.cell? ⟨b, off + j, none⟩ = some (.int .u8 (zs.getD j 0))
theorem Has.below {w w' : World} {v : Value} {zs : List Int} (h : Has w v zs) (h1 : 1 ≤ zs.length) (hb : Below w.heap.size w w') : Has w' v zs := by
  obtain ⟨b, off, cap, rfl, hcap, hc⟩ := h
  have hlt := lt_of_cell (hc 0 (by omega))
  exact ⟨b, off, cap, rfl, hcap, fun j hj => by rw [hb.cell (p := ⟨b, off + j, none⟩) hlt]; exact hc j hj⟩
theorem has_of_own {w : World} {base n : Nat} {v : Value} {l : List Int} (h : w.ownsRow base 5 1 v n (secV l)) (hn : 1 ≤ n) : Has w v l := by
  have hl : l.length = n := by simpa [secV] using h.1
  rcases h.2 with ⟨rfl, h0⟩ | ⟨g, cap, cur, rfl, hg, hh, hnc, hcm, hcs, ht⟩
  · omega
  · refine ⟨g, 0, cap, by rw [hl], by omega, fun j hj => ?_⟩
    have := h.cellAt j (by omega)
    rw [Nat.zero_add, this]
    simp [secV, List.getElem?_eq_getElem hj]
theorem Has.conv {w : World} {v : Value} {zs : List Int} (h : Has w v zs) : (convert 28 9 v).run Try.prog w = .ok (.string (strOfNums zs)) w := by
  obtain ⟨b, off, cap, rfl, _, hc⟩ := h
  exact run_convert_bytes_arg w 28 5 Try.underlying28 Try.underlying5 b off _ cap zs rfl hc 9 Try.underlying9

theorem infoU8 : (Try.prog.info? 5).map (fun i => (i.zero, i.size, i.bytes)) = some (some (.int .u8 0), 1, 1) := by kernel_rfl

/-- The bytes of terrierlaw2.Sector(N). -/
def secB (N : Int) (k : Nat) : Int := wrap64 (N + wrap64 ((k : Int) * bits .and .i64 (N / 256) 3)) % 256
def secL (N : Int) : List Int := (List.range 64).map (secB N)
def secTo (N : Int) (k : Nat) : List Value := (List.range 64).map fun i => if i < k then Value.int .u8 (secB N i) else .int .u8 0
theorem sec_secL (N : Int) : Sec (secL N) := ⟨by simp [secL], fun b hb => by
  simp only [secL, List.mem_map] at hb
  obtain ⟨i, _, rfl⟩ := hb
  unfold secB
  omega⟩
theorem secTo_zero (N : Int) : secTo N 0 = List.replicate 64 (Value.int .u8 0) := by
  apply List.ext_getElem (by simp [secTo])
  intro i h1 h2
  rw [List.getElem_replicate]
  simp [secTo]
theorem secTo_full (N : Int) : secTo N 64 = secV (secL N) := by
  apply List.ext_getElem (by simp [secTo, secV, secL])
  intro i h1 h2
  have : i < 64 := by simpa [secTo] using h1
  simp [secTo, secV, secL, this]
theorem secTo_set (N : Int) (k : Nat) : (secTo N k).set k (.int .u8 (secB N k)) = secTo N (k + 1) := by
  apply List.ext_getElem (by simp [secTo])
  intro i h1 h2
  simp only [secTo, List.getElem_set, List.getElem_map, List.getElem_range]
  by_cases h : k = i
  · subst h; simp
  · by_cases h' : i < k
    · rw [if_neg h, if_pos h', if_pos (by omega)]
    · rw [if_neg h, if_neg h', if_neg (by omega)]

theorem sector_any (N : Int) (w : World) :
    Calls Try.prog 9 #[.int .i64 N] w fun e w' => ∃ g, e = .returned (.slice (some ⟨g, 0, none⟩) 64 64) ∧ w'.ownsRow w.heap.size 5 1 (.slice (some ⟨g, 0, none⟩) 64 64) 64 (secV (secL N)) ∧ Below w.heap.size w w' := by
  obtain ⟨i0, hi, hz0, hz1, hz2⟩ := info_parts infoU8
  obtain ⟨C, hC⟩ : ∃ C, C = madeCells #[Value.int .u8 0] 64 := ⟨_, rfl⟩
  have hmk : ∀ wx : World, (Instr.makeSlice 28 (.int .i64 64) (.int .i64 64)).run Try.prog wx = .ok (.slice (some ⟨wx.heap.size, 0, none⟩) 64 64) (wx.alloc (.cells C 5)) := fun wx => by
    have := run_make (P := Try.prog) wx 28 5 i0 _ Try.underlying28 hi hz0 .i64 .i64 64 64 (by omega) (by omega) (by rw [hz2]; omega) (by omega)
    rw [hz1] at this
    rw [hC]
    exact this
  have hC2 : C.toList = secTo N 0 := by rw [hC, toList_madeCells_one, secTo_zero]
  have hC3 : C.size = 64 * 1 := by rw [hC]; exact size_madeCells _ _
  have h0 : (w.alloc (.cells C 5)).ownsRow w.heap.size 5 1 (.slice (some ⟨w.heap.size, 0, none⟩) 64 64) 64 (secTo N 0) := by
    rw [← hC2]
    exact World.ownsRow_lit w C 64 (Nat.le_refl _) (by unfold maxLen; omega) hC3
  have H0 := hid h0
  clear hC hC2 hC3 h0 hi hz0 hz1 hz2
  go_enter Try.func9, Try.ntmps9
  go_wp2
  go_loopw [4, 8] (fun _ i wr => ∃ k : Nat, k ≤ 64 ∧ i = .int .i64 k ∧ wr.ownsRow w.heap.size 5 1 (.slice (some ⟨w.heap.size, 0, none⟩) 64 64) 64 (secTo N k) ∧ Below w.heap.size w wr) (fun _ i _ => 64 - (intOf i).toNat)
  case atStart => exact ⟨0, by omega, rfl, H0.out, (Below.refl _ _).alloc (Nat.le_refl _) _⟩
  case round =>
    obtain ⟨k, hk, rfl, hown, hbr⟩ := hrel
    by_cases hlt : k < 64
    · have hce := hown.cellAt k (by omega)
      have hfe := hown.frozenAt k
      obtain ⟨x, hx⟩ : ∃ x, (secTo N k)[k]? = some x := ⟨(secTo N k)[k]'(by simp [secTo]; omega), by simp⟩
      rw [hx] at hce
      have HO := hid hown
      clear hx hown
      go_wp2
      go_roundw
      case rel =>
        refine ⟨k + 1, by omega, by go_num, ?_, hbr.setCell (p := ⟨w.heap.size, k, none⟩) (Nat.le_refl _) _⟩
        have := (HO.out.stored k (.int .u8 (secB N k))).1
        rw [secTo_set] at this
        exact this
      case measure => simp [intOf]; omega
    · obtain rfl : k = 64 := by omega
      rw [secTo_full] at hown
      have HO := hid hown
      clear hown
      go_wp2
      go_ret
      exact ⟨_, rfl, HO.out, hbr⟩

theorem has_at {w : World} {b off cap : Nat} {s : List Int} (h : w.rangeAt b off (secV s)) (hc : s.length ≤ cap) : Has w (.slice (some ⟨b, off, none⟩) s.length cap) s :=
  ⟨b, off, cap, rfl, hc, fun j hj => h j _ (by simp [secV, List.getElem?_eq_getElem hj])⟩

theorem nought_any (w : World) :
    Calls Try.prog 26 #[] w fun e w' => e = .returned (.string (strOfNums nought)) ∧ Below w.heap.size w w' := by
  obtain ⟨i0, hi, hz0, hz1, hz2⟩ := info_parts infoU8
  obtain ⟨C, hC⟩ : ∃ C, C = madeCells #[Value.int .u8 0] 64 := ⟨_, rfl⟩
  have hmk : ∀ wx : World, (Instr.makeSlice 28 (.int .i64 64) (.int .i64 64)).run Try.prog wx = .ok (.slice (some ⟨wx.heap.size, 0, none⟩) 64 64) (wx.alloc (.cells C 5)) := fun wx => by
    have := run_make (P := Try.prog) wx 28 5 i0 _ Try.underlying28 hi hz0 .i64 .i64 64 64 (by omega) (by omega) (by rw [hz2]; omega) (by omega)
    rw [hz1] at this
    rw [hC]
    exact this
  have hC2 : C.toList = secV nought := by rw [hC, toList_madeCells_one]; simp only [secV, nought, List.map_replicate]
  have hC3 : C.size = 64 * 1 := by rw [hC]; exact size_madeCells _ _
  have h0 : (w.alloc (.cells C 5)).ownsRow w.heap.size 5 1 (.slice (some ⟨w.heap.size, 0, none⟩) 64 64) 64 (secV nought) := by
    rw [← hC2]
    exact World.ownsRow_lit w C 64 (Nat.le_refl _) (by unfold maxLen; omega) hC3
  have hcv := (has_of_own h0 (by omega)).conv
  clear hC hC2 hC3 h0 hi hz0 hz1 hz2
  go_enter Try.func26, Try.ntmps26
  go_wp2
  go_ret
  exact ⟨rfl, (Below.refl _ _).alloc (Nat.le_refl _) _⟩

theorem clone_any {w : World} {v : Value} {zs : List Int} (h : Has w v zs) (h1 : 1 ≤ zs.length) (hl : zs.length ≤ 65536) :
    Calls Try.prog 33 #[v] w fun e w' => ∃ v', e = .returned v' ∧ w'.ownsRow w.heap.size 5 1 v' zs.length (secV zs) ∧ Below w.heap.size w w' := by
  obtain ⟨i0, hi, hz0, hz1, hz2⟩ := info_parts infoU8
  have hb0 : Below w.heap.size w (w.alloc (.cells #[] 5)) := (Below.refl _ _).alloc (Nat.le_refl _) _
  obtain ⟨b, off, cap, rfl, hcap, hc⟩ := h.below h1 hb0
  have HC := hid hc
  have hnil : ∀ (wx : World) (a : Option Addr) (n c : Nat), (binOp .eql 28 (.slice a n c) (.slice none 0 0)).run Try.prog wx = .ok (.bool a.isNone) wx := fun wx a n c => Lib.run_eql_slice_nil wx _ _ a n c 0 0 Try.underlying28
  have hown : (w.alloc (.cells #[] 5)).ownsRow w.heap.size 5 1 (.slice (some ⟨w.heap.size, 0, none⟩) 0 0) 0 [] := World.ownsRow_lit w #[] 0 (Nat.le_refl _) (by unfold maxLen; omega) (by simp)
  have HOW := hid hown
  clear h hc hown
  go_enter Try.func33, Try.ntmps33
  go_wp2_with (at_builtin; refine wpList_append_own _ rfl (.tmp 5) (.tmp 6) 28 rfl w.heap.size 5 i0 (.int .u8 0) 1 1 Try.underlying28 hi hz0 hz1 hz2 rfl (by decide) (.slice (some ⟨w.heap.size, 0, none⟩) 0 0) 0 [] rfl HOW.out ⟨b, off, none⟩ zs.length cap (secV zs) rfl (by simp [secV]) (fun j u hj => by
      have hjl : j < zs.length := by have := (List.getElem?_eq_some_iff.1 hj).1; simpa [secV] using this
      rw [Addr.add_lit, HC.out j hjl, ← hj]; simp [secV, hjl]) (secV_one zs) (by unfold maxLen; omega) (by omega) (by simp) ?_; intro v2 w2 hown2 hgrow2 _; have hB2 : Below w.heap.size w w2 := hb0.grown hgrow2 (by simp) (own_base HOW.out))
  go_ret
  exact ⟨_, rfl, by simpa using hown2, hB2⟩

/-- Read, where there is no such sector; where the disk is dead. -/
theorem read_bad {w : World} {base B n : Nat} {d : Dk} (h : DiskIs w base B n d) {i : Int} (hi : ¬ (0 ≤ i ∧ i < n)) :
    Calls Try.prog 15 #[.pointer (some ⟨B, 0, none⟩), .int .i64 i] w fun e w' => e = .returned (.tuple #[.slice none 0 0, .int .i64 1]) ∧ w' = w := by
  have HH := hid (has_any h i)
  have hd : decide (0 ≤ i ∧ i < (n : Int)) = false := by simpa using hi
  rw [hd] at HH
  clear h hi hd
  go_enter Try.func15, Try.ntmps15
  go_wp2_with (go_at_call 28; refine HH.out.mono ?_; rintro e w2 ⟨rfl, hw⟩; have hw' := hw.symm; clear hw; subst hw')
  go_ret2
  exact ⟨rfl, rfl⟩
theorem read_dead {w : World} {base B n : Nat} {d : Dk} (h : DiskIs w base B n d) {i : Int} (hi : 0 ≤ i ∧ i < n) (hd : d.left = 0) :
    Calls Try.prog 15 #[.pointer (some ⟨B, 0, none⟩), .int .i64 i] w fun e w' => e = .returned (.tuple #[.slice none 0 0, .int .i64 50]) ∧ w' = w := by
  have HH := hid (has_any h i)
  have hd' : decide (0 ≤ i ∧ i < (n : Int)) = true := by simpa using hi
  have HD := hid (dead_any h)
  have hd2 : (d.left == 0) = true := by simpa using hd
  rw [hd'] at HH
  rw [hd2] at HD
  clear h hi hd hd' hd2
  go_enter Try.func15, Try.ntmps15
  go_wp2_with (first | (go_at_call 28; refine HH.out.mono ?_; rintro e w2 ⟨rfl, hw⟩; have hw' := hw.symm; clear hw; subst hw') | (go_at_call 27; refine HD.out.mono ?_; rintro e w2 ⟨rfl, hw⟩; have hw' := hw.symm; clear hw; subst hw'))
  go_ret2
  exact ⟨rfl, rfl⟩
theorem getD_map_secV (l : List (List Int)) (i : Nat) (hi : i < l.length) : (l.map secV).getD i [] = secV (l.getD i []) := by simp [List.getD, hi]
theorem read_any {w : World} {base B n : Nat} {d : Dk} (h : DiskIs w base B n d) {i : Nat} (hi : i < n) (hd : d.left ≠ 0) :
    Calls Try.prog 15 #[.pointer (some ⟨B, 0, none⟩), .int .i64 i] w fun e w' => ∃ v, e = .returned (.tuple #[v, .int .i64 0]) ∧ w'.ownsRow w.heap.size 5 1 v 64 (secV (d.now.getD i [])) ∧ Below w.heap.size w w' := by
  have HH := hid (has_any h i)
  have hd' : decide (0 ≤ (i : Int) ∧ (i : Int) < (n : Int)) = true := by simp; omega
  have HD := hid (dead_any h)
  have hd2 : (d.left == 0) = false := by simpa using hd
  rw [hd'] at HH
  rw [hd2] at HD
  clear hd hd' hd2
  obtain ⟨ho, hn, hB, gl, cl, gn, cn, vw, hh, hne, h1, h2, h3⟩ := h
  have hc1 := cell_of_row w B 1 _ _ _ hh
  simp only [List.getElem?_toArray, List.getElem?_cons_succ, List.getElem?_cons_zero] at hc1
  have hlen : d.now.length = n := ho.now_len
  have hsec : Sec (d.now.getD i []) := ho.now_secs _ (by simp [List.getD, hlen, hi])
  have hr := h2.range (by simp [hlen]) (i := i) (by simp [hlen, hi])
  rw [getD_map_secV _ _ (by omega)] at hr
  have hHas := has_at hr (cap := 64) (by rw [hsec.1]; omega)
  have HC := hid (clone_any hHas (by rw [hsec.1]; omega) (by rw [hsec.1]; omega))
  rw [hsec.1] at HC
  have HI := hid hi
  clear ho hn hB hh hne h1 h2 h3 hlen hsec hr hHas
  have hiI : (i : Int) < (n : Int) := by omega
  go_enter Try.func15, Try.ntmps15
  go_wp2_with (first | (go_at_call 28; refine HH.out.mono ?_; rintro e w2 ⟨rfl, hw⟩; have hw' := hw.symm; clear hw; subst hw') | (go_at_call 27; refine HD.out.mono ?_; rintro e w2 ⟨rfl, hw⟩; have hw' := hw.symm; clear hw; subst hw') | (go_at_call 33; refine HC.out.mono ?_; rintro e w2 ⟨v2, rfl, hown2, hb2⟩))
  go_ret2
  exact ⟨_, rfl, hown2, hb2⟩
end Go.Proofs.Ytindjkgkdldooaa
