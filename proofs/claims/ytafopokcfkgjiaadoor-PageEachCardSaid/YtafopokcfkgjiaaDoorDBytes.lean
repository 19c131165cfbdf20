/-
  Layer 2: bytes as a slice, as a string; what bytes.Clone, disk.Read give.
-/
import Derived.Test.YtafopokcfkgjiaaDoorDNew
import Derived.Lib.Strings
import Derived.Laws.AppendOwnNone
namespace Go.Proofs.YtafopokcfkgjiaaDoor
open Go.RowKit

/-- The slice v holds the bytes zs. -/
def Has (w : World) (v : Value) (zs : List Int) : Prop :=
  ∃ b off cap, v = .slice (some ⟨b, off, none⟩) zs.length cap ∧ zs.length ≤ cap ∧ ∀ j, j < zs.length → w.cell? ⟨b, off + j, none⟩ = some (.int .u8 (zs.getD j 0))
theorem Has.below {w w' : World} {v : Value} {zs : List Int} (h : Has w v zs) (h1 : 1 ≤ zs.length) (hb : Below w.heap.size w w') : Has w' v zs := by
  obtain ⟨b, off, cap, rfl, hcap, hc⟩ := h
  have hlt := lt_of_cell (hc 0 (by omega))
  exact ⟨b, off, cap, rfl, hcap, fun j hj => by rw [hb.cell (p := ⟨b, off + j, none⟩) hlt]; exact hc j hj⟩
theorem has_of_own {w : World} {base n : Nat} {v : Value} {l : List Int} (h : w.ownsRow base 5 1 v n (secV l)) (hn : 1 ≤ n) : Has w v l := by
  have hl : l.length = n := by simpa [secV] using h.1
  rcases h.2 with ⟨rfl, h0⟩ | ⟨g, cap, cur, rfl, hg, hh, hnc, hcm, hcs, ht⟩
  · omega
  · refine ⟨g, 0, cap, by rw [hl], by omega, fun j hj => ?_⟩
    have := h.cellAt j (by omega)
    rw [Nat.zero_add, this]
    simp [secV, List.getElem?_eq_getElem hj]
theorem Has.conv {w : World} {v : Value} {zs : List Int} (h : Has w v zs) : (convert 31 9 v).run Tryd.prog w = .ok (.string (strOfNums zs)) w := by
  obtain ⟨b, off, cap, rfl, _, hc⟩ := h
  exact run_convert_bytes_arg w 31 5 Tryd.underlying31 Tryd.underlying5 b off _ cap zs rfl hc 9 Tryd.underlying9

theorem infoU8 : (Tryd.prog.info? 5).map (fun i => (i.zero, i.size, i.bytes)) = some (some (.int .u8 0), 1, 1) := by kernel_rfl

theorem has_at {w : World} {b off cap : Nat} {s : List Int} (h : w.rangeAt b off (secV s)) (hc : s.length ≤ cap) : Has w (.slice (some ⟨b, off, none⟩) s.length cap) s :=
  ⟨b, off, cap, rfl, hc, fun j hj => h j _ (by simp [secV, List.getElem?_eq_getElem hj])⟩

theorem clone_any {w : World} {v : Value} {zs : List Int} (h : Has w v zs) (h1 : 1 ≤ zs.length) (hl : zs.length ≤ 65536) :
    Calls Tryd.prog 52 #[v] w fun e w' => ∃ v', e = .returned v' ∧ w'.ownsRow w.heap.size 5 1 v' zs.length (secV zs) ∧ Below w.heap.size w w' := by
  obtain ⟨i0, hi, hz0, hz1, hz2⟩ := info_parts infoU8
  have hb0 : Below w.heap.size w (w.alloc (.cells #[] 5)) := (Below.refl _ _).alloc (Nat.le_refl _) _
  obtain ⟨b, off, cap, rfl, hcap, hc⟩ := h.below h1 hb0
  have HC := hid hc
  have hnil : ∀ (wx : World) (a : Option Addr) (n c : Nat), (binOp .eql 31 (.slice a n c) (.slice none 0 0)).run Tryd.prog wx = .ok (.bool a.isNone) wx := fun wx a n c => Lib.run_eql_slice_nil wx _ _ a n c 0 0 Tryd.underlying31
  have hown : (w.alloc (.cells #[] 5)).ownsRow w.heap.size 5 1 (.slice (some ⟨w.heap.size, 0, none⟩) 0 0) 0 [] := World.ownsRow_lit w #[] 0 (Nat.le_refl _) (by unfold maxLen; omega) (by simp)
  have HOW := hid hown
  clear h hc hown
  go_enter Tryd.func52, Tryd.ntmps52
  go_wp2_with (at_builtin; refine wpList_append_own _ rfl (.tmp 5) (.tmp 6) 31 rfl w.heap.size 5 i0 (.int .u8 0) 1 1 Tryd.underlying31 hi hz0 hz1 hz2 rfl (by decide) (.slice (some ⟨w.heap.size, 0, none⟩) 0 0) 0 [] rfl HOW.out ⟨b, off, none⟩ zs.length cap (secV zs) rfl (by simp [secV]) (fun j u hj => by
      have hjl : j < zs.length := by have := (List.getElem?_eq_some_iff.1 hj).1; simpa [secV] using this
      rw [Addr.add_lit, HC.out j hjl, ← hj]; simp [secV, hjl]) (secV_one zs) (by unfold maxLen; omega) (by omega) (by simp) ?_; intro v2 w2 hown2 hgrow2 _; have hB2 : Below w.heap.size w w2 := hb0.grown hgrow2 (by simp) (own_base HOW.out))
  go_ret
  exact ⟨_, rfl, by simpa using hown2, hB2⟩

/-- Read, where there is no such sector; where the disk is dead. -/
theorem read_bad {w : World} {base B n : Nat} {d : Dk} (h : DiskIs w base B n d) {i : Int} (hi : ¬ (0 ≤ i ∧ i < n)) :
    Calls Tryd.prog 41 #[.pointer (some ⟨B, 0, none⟩), .int .i64 i] w fun e w' => e = .returned (.tuple #[.slice none 0 0, .int .i64 1]) ∧ w' = w := by
  have HH := hid (has_any h i)
  have hd : decide (0 ≤ i ∧ i < (n : Int)) = false := by simpa using hi
  rw [hd] at HH
  clear h hi hd
  go_enter Tryd.func41, Tryd.ntmps41
  go_wp2_with (go_at_call 48; refine HH.out.mono ?_; rintro e w2 ⟨rfl, hw⟩; have hw' := hw.symm; clear hw; subst hw')
  go_ret2
  exact ⟨rfl, rfl⟩
theorem read_dead {w : World} {base B n : Nat} {d : Dk} (h : DiskIs w base B n d) {i : Int} (hi : 0 ≤ i ∧ i < n) (hd : d.left = 0) :
    Calls Tryd.prog 41 #[.pointer (some ⟨B, 0, none⟩), .int .i64 i] w fun e w' => e = .returned (.tuple #[.slice none 0 0, .int .i64 50]) ∧ w' = w := by
  have HH := hid (has_any h i)
  have hd' : decide (0 ≤ i ∧ i < (n : Int)) = true := by simpa using hi
  have HD := hid (dead_any h)
  have hd2 : (d.left == 0) = true := by simpa using hd
  rw [hd'] at HH
  rw [hd2] at HD
  clear h hi hd hd' hd2
  go_enter Tryd.func41, Tryd.ntmps41
  go_wp2_with (first | (go_at_call 48; refine HH.out.mono ?_; rintro e w2 ⟨rfl, hw⟩; have hw' := hw.symm; clear hw; subst hw') | (go_at_call 14; refine HD.out.mono ?_; rintro e w2 ⟨rfl, hw⟩; have hw' := hw.symm; clear hw; subst hw'))
  go_ret2
  exact ⟨rfl, rfl⟩
theorem getD_map_secV (l : List (List Int)) (i : Nat) (hi : i < l.length) : (l.map secV).getD i [] = secV (l.getD i []) := by simp [List.getD, hi]
theorem read_any {w : World} {base B n : Nat} {d : Dk} (h : DiskIs w base B n d) {i : Nat} (hi : i < n) (hd : d.left ≠ 0) :
    Calls Tryd.prog 41 #[.pointer (some ⟨B, 0, none⟩), .int .i64 i] w fun e w' => ∃ v, e = .returned (.tuple #[v, .int .i64 0]) ∧ w'.ownsRow w.heap.size 5 1 v 64 (secV (d.now.getD i [])) ∧ Below w.heap.size w w' := by
  have HH := hid (has_any h i)
  have hd' : decide (0 ≤ (i : Int) ∧ (i : Int) < (n : Int)) = true := by simp; omega
  have HD := hid (dead_any h)
  have hd2 : (d.left == 0) = false := by simpa using hd
  rw [hd'] at HH
  rw [hd2] at HD
  clear hd hd' hd2
  obtain ⟨ho, hn, hB, gl, cl, gn, cn, vw, hh, hne, h1, h2, h3⟩ := h
  have hc1 := cell_of_row w B 1 _ _ _ hh
  simp only [List.getElem?_toArray, List.getElem?_cons_succ, List.getElem?_cons_zero] at hc1
  have hlen : d.now.length = n := ho.now_len
  have hsec : Sec (d.now.getD i []) := ho.now_secs _ (by simp [List.getD, hlen, hi])
  have hr := h2.range (by simp [hlen]) (i := i) (by simp [hlen, hi])
  rw [getD_map_secV _ _ (by omega)] at hr
  have hHas := has_at hr (cap := 64) (by rw [hsec.1]; omega)
  have HC := hid (clone_any hHas (by rw [hsec.1]; omega) (by rw [hsec.1]; omega))
  rw [hsec.1] at HC
  have HI := hid hi
  clear ho hn hB hh hne h1 h2 h3 hlen hsec hr hHas
  have hiI : (i : Int) < (n : Int) := by omega
  go_enter Tryd.func41, Tryd.ntmps41
  go_wp2_with (first | (go_at_call 48; refine HH.out.mono ?_; rintro e w2 ⟨rfl, hw⟩; have hw' := hw.symm; clear hw; subst hw') | (go_at_call 14; refine HD.out.mono ?_; rintro e w2 ⟨rfl, hw⟩; have hw' := hw.symm; clear hw; subst hw') | (go_at_call 52; refine HC.out.mono ?_; rintro e w2 ⟨v2, rfl, hown2, hb2⟩))
  go_ret2
  exact ⟨_, rfl, hown2, hb2⟩
end Go.Proofs.YtafopokcfkgjiaaDoor
