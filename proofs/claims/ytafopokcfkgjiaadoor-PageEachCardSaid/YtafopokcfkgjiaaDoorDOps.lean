/-
  What disk.Dead, has, burn, Sectors, Writes, Waiting, Fuse give.
-/
import Derived.Test.YtafopokcfkgjiaaDoorDMem
namespace Go.Proofs.YtafopokcfkgjiaaDoor
open Go.RowKit

theorem dead_any {w : World} {base B n : Nat} {d : Dk} (h : DiskIs w base B n d) :
    Calls Tryd.prog 14 #[.pointer (some ⟨B, 0, none⟩)] w fun e w' => e = .returned (.bool (d.left == 0)) ∧ w' = w := by
  obtain ⟨ho, hn, hB, gl, cl, gn, cn, vw, hh, hne, h1, h2, h3⟩ := h
  have hc4 := cell_of_row w B 4 _ _ _ hh
  simp only [List.getElem?_toArray, List.getElem?_cons_succ, List.getElem?_cons_zero] at hc4
  clear ho hn hB hh hne h1 h2 h3
  go_enter Tryd.func14, Tryd.ntmps14
  go_wp2
  go_ret
  exact ⟨rfl, rfl⟩

























theorem sectors_any {w : World} {base B n : Nat} {d : Dk} (h : DiskIs w base B n d) :
    Calls Tryd.prog 26 #[.pointer (some ⟨B, 0, none⟩)] w fun e w' => e = .returned (.int .i64 n) ∧ w' = w := by
  obtain ⟨ho, hn, hB, gl, cl, gn, cn, vw, hh, hne, h1, h2, h3⟩ := h
  have hc4 := cell_of_row w B 1 _ _ _ hh
  simp only [List.getElem?_toArray, List.getElem?_cons_succ, List.getElem?_cons_zero] at hc4
  clear ho hn hB hh hne h1 h2 h3
  go_enter Tryd.func26, Tryd.ntmps26
  go_wp2
  go_ret
  exact ⟨rfl, rfl⟩
theorem has_any {w : World} {base B n : Nat} {d : Dk} (h : DiskIs w base B n d) (i : Int) :
    Calls Tryd.prog 48 #[.pointer (some ⟨B, 0, none⟩), .int .i64 i] w fun e w' => e = .returned (.bool (decide (0 ≤ i ∧ i < n))) ∧ w' = w := by
  obtain ⟨ho, hn, hB, gl, cl, gn, cn, vw, hh, hne, h1, h2, h3⟩ := h
  have hc4 := cell_of_row w B 1 _ _ _ hh
  simp only [List.getElem?_toArray, List.getElem?_cons_succ, List.getElem?_cons_zero] at hc4
  clear ho hn hB hh hne h1 h2 h3
  by_cases h0 : 0 ≤ i
  · have hd : decide (0 ≤ i ∧ i < (n : Int)) = decide (i < (n : Int)) := by simp [h0]
    rw [hd]
    clear hd
    go_enter Tryd.func48, Tryd.ntmps48
    go_wp2
    go_ret
    exact ⟨rfl, rfl⟩
  · have hd : decide (0 ≤ i ∧ i < (n : Int)) = false := by simp [h0]
    rw [hd]
    clear hd
    have hd2 : decide (0 ≤ i) = false := by simp [h0]
    go_enter Tryd.func48, Tryd.ntmps48
    go_wp2
    go_ret
    exact ⟨rfl, rfl⟩

/-- The struct's block, one of its last two fields turned. -/
theorem DiskIs.left {w : World} {base B n : Nat} {d : Dk} (h : DiskIs w base B n d) {x : Int} (h0 : -1 ≤ x) (h1 : x ≤ 9223372036854775807) :
    DiskIs (w.setCell ⟨B, 4, none⟩ (.int .i64 x)) base B n ⟨d.last, d.wait, d.writes, x⟩ ∧ Kd base w (w.setCell ⟨B, 4, none⟩ (.int .i64 x)) := by
  have hs := h.base_le
  obtain ⟨ho, hn, hB, gl, cl, gn, cn, vw, hh, hne, b1, b2, b3⟩ := h
  have hg := grown_setCell w B 4 (.int .i64 x)
  have other : ∀ (v : Value) (e : TypeId) (m : Nat) (bl : List (List Value)), Blocks w base e m v bl → e ≠ 47 → Blocks (w.setCell ⟨B, 4, none⟩ (.int .i64 x)) base e m v bl := fun v e m bl hb he =>
    hb.same fun k hk => by
      obtain ⟨c, hc⟩ := own_heap hb.2 hk
      refine hg.block k (lt_of_heap hc) (fun e' => ?_)
      injection e' with e'
      subst e'
      rw [hh] at hc
      injection hc with e1
      injection e1 with _ e2 _
      exact he e2.symm
  refine ⟨⟨⟨ho.len, ho.secs, ho.waits, h0, h1, ho.w0⟩, hn, hB, gl, cl, gn, cn, vw, ?_, hne, other _ _ _ _ b1 (by decide), other _ _ _ _ b2 (by decide), other _ _ _ _ b3 (by decide)⟩, Kd.row hg hB hs hh (.inl rfl)⟩
  rw [heap_setCell_same w B 4 _ _ _ hh]
  rfl
theorem burn_any {w : World} {base B n : Nat} {d : Dk} (h : DiskIs w base B n d) (hd : d.left ≠ 0) :
    Calls Tryd.prog 38 #[.pointer (some ⟨B, 0, none⟩)] w fun e w' => (∃ v, e = .returned v) ∧ DiskIs w' base B n ⟨d.last, d.wait, d.writes, burn d.left⟩ ∧ Kd base w w' := by
  have H := hid h
  have hb := burn_bounds h.ok.left0 h.ok.left1 hd
  have hl0 := h.ok.left0
  have hl1 := h.ok.left1
  obtain ⟨ho, hn, hB, gl, cl, gn, cn, vw, hh, hne, h1, h2, h3⟩ := h
  have hc4 := cell_of_row w B 4 _ _ _ hh
  have hf4 := frozen_of_row w B 4 _ _ hh
  simp only [List.getElem?_toArray, List.getElem?_cons_succ, List.getElem?_cons_zero] at hc4
  have HD := hid hd
  have HB := hid hb
  clear ho hn hB hh hne h1 h2 h3 hb
  by_cases he : d.left = -1
  · have HE := hid he
    have ht : (d.left != -1) = false := by simp [he]
    clear he hd
    go_enter Tryd.func38, Tryd.ntmps38
    go_wp2
    go_end0
    refine ⟨⟨_, rfl⟩, ?_, Kd.refl _ _⟩
    have : burn d.left = d.left := by unfold burn; rw [if_pos HE.out, HE.out]
    rw [this]
    exact H.out
  · have HE := hid he
    have ht : (d.left != -1) = true := by simpa using he
    have hl2 : 0 < d.left := by omega
    clear he hd
    go_enter Tryd.func38, Tryd.ntmps38
    go_wp2
    go_end0
    refine ⟨⟨_, rfl⟩, ?_⟩
    have e : burn d.left = d.left - 1 := by unfold burn; rw [if_neg HE.out]
    have := H.out.left (x := burn d.left) HB.out.1 HB.out.2
    rw [e] at this ⊢
    exact this
theorem fuse_any {w : World} {base B n : Nat} {d : Dk} (h : DiskIs w base B n d) {k : Int} (_hk0 : -9223372036854775808 ≤ k) (hk : k ≤ 9223372036854775807) :
    Calls Tryd.prog 9 #[.pointer (some ⟨B, 0, none⟩), .int .i64 k] w fun e w' => (∃ v, e = .returned v) ∧ DiskIs w' base B n (d.fuse k) ∧ Kd base w w' := by
  have H := hid h
  have HK := hid hk
  have HD := hid (dead_any h)
  obtain ⟨ho, hn, hB, gl, cl, gn, cn, vw, hh, hne, h1, h2, h3⟩ := h
  have hc4 := cell_of_row w B 4 _ _ _ hh
  have hf4 := frozen_of_row w B 4 _ _ hh
  simp only [List.getElem?_toArray, List.getElem?_cons_succ, List.getElem?_cons_zero] at hc4
  clear ho hn hB hh hne h1 h2 h3
  by_cases he : d.left = 0
  · have HE := hid he
    have ht : (d.left == 0) = true := by simp [he]
    clear he
    go_enter Tryd.func9, Tryd.ntmps9
    go_wp2_with (go_at_call 14; refine HD.out.mono ?_; rintro e w2 ⟨rfl, hw⟩; have hw' := hw.symm; clear hw; subst hw')
    go_end0
    refine ⟨⟨_, rfl⟩, ?_, Kd.refl _ _⟩
    unfold Dk.fuse
    rw [if_pos HE.out]
    exact H.out
  · have HE := hid he
    have ht : (d.left == 0) = false := by simpa using he
    clear he
    go_enter Tryd.func9, Tryd.ntmps9
    go_wp2_with (go_at_call 14; refine HD.out.mono ?_; rintro e w2 ⟨rfl, hw⟩; have hw' := hw.symm; clear hw; subst hw')
    all_goals
      go_end0
      refine ⟨⟨_, rfl⟩, ?_⟩
      unfold Dk.fuse
      rw [if_neg HE.out]
      have := H.out.left (x := max k (-1)) (by omega) (by have := HK.out; omega)
      first
        | exact this
        | (rw [Int.max_eq_left (by omega)] at this ⊢; exact this)
        | (rw [Int.max_eq_right (by omega)] at this ⊢; exact this)
end Go.Proofs.YtafopokcfkgjiaaDoor
