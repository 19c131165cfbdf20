/-
  Layer 3 in memory: a File behind its pointer; what page.Need, Pages, has, placeOf, journal, noughts, countOf and bytes.Equal give.
-/
import Derived.Test.YtafopokcfkgjiaaDoorCComm
import Derived.Test.YtafopokcfkgjiaaDoorPPack
import Derived.Test.YtafopokcfkgjiaaDoorDBad
namespace Go.Proofs.YtafopokcfkgjiaaDoor
open Go.RowKit

/-- A File behind the pointer to block F. -/
def FileIs (w : World) (base F B p0 np : Nat) (half : Bool) : Prop :=
  base ≤ F ∧ w.heap[F]? = some (.cells #[.pointer (some ⟨B, 0, none⟩), .int .i64 p0, .int .i64 np, .bool half] 52 (0, 0))
theorem FileIs.kd {w w' : World} {base base' F B p0 np : Nat} {half : Bool} (h : FileIs w base F B p0 np half) (hk : Kd base' w w') : FileIs w' base F B p0 np half :=
  ⟨h.1, (hk.keep _ _ _ _ h.2 (by decide) (by decide) (by decide)).trans h.2⟩
theorem FileIs.below {w w' : World} {base F B p0 np : Nat} {half : Bool} (h : FileIs w base F B p0 np half) (hb : Below w.heap.size w w') : FileIs w' base F B p0 np half :=
  ⟨h.1, (hb.block _ (lt_of_heap h.2)).trans h.2⟩
theorem FileIs.cells {w : World} {base F B p0 np : Nat} {half : Bool} (h : FileIs w base F B p0 np half) :
    w.cell? ⟨F, 0, none⟩ = some (.pointer (some ⟨B, 0, none⟩)) ∧ w.cell? ⟨F, 1, none⟩ = some (.int .i64 p0) ∧ w.cell? ⟨F, 2, none⟩ = some (.int .i64 np) ∧ w.cell? ⟨F, 3, none⟩ = some (.bool half) :=
  ⟨cell_of_row w F 0 _ _ _ h.2, cell_of_row w F 1 _ _ _ h.2, cell_of_row w F 2 _ _ _ h.2, cell_of_row w F 3 _ _ _ h.2⟩

theorem need_any (k : Int) (w : World) (h : k ≤ 1099511627776) :
    Calls Tryd.prog 5 #[.int .i64 k] w fun e w' => e = .returned (.int .i64 (8 * max k 1 + 80)) ∧ w' = w := by
  by_cases h1 : k < 1
  · have e : max k 1 = 1 := by omega
    rw [e]
    clear e
    go_enter Tryd.func5, Tryd.ntmps5
    go_wp2
    all_goals
      go_ret
      exact ⟨by first | rfl | (congr 2; omega), rfl⟩
  · have e : max k 1 = k := by omega
    rw [e]
    clear e
    go_enter Tryd.func5, Tryd.ntmps5
    go_wp2
    all_goals
      go_ret
      exact ⟨by first | rfl | (congr 2; omega), rfl⟩











theorem phas_any {w : World} {base F B p0 np : Nat} {half : Bool} (h : FileIs w base F B p0 np half) (i : Int) :
    Calls Tryd.prog 30 #[.pointer (some ⟨F, 0, none⟩), .int .i64 i] w fun e w' => e = .returned (.bool (decide (0 ≤ i ∧ i < np))) ∧ w' = w := by
  obtain ⟨c0, c1, c2, c3⟩ := h.cells
  clear h
  by_cases h0 : 0 ≤ i
  · have hd : decide (0 ≤ i ∧ i < (np : Int)) = decide (i < (np : Int)) := by simp [h0]
    rw [hd]
    clear hd
    go_enter Tryd.func30, Tryd.ntmps30
    go_wp2
    go_ret
    exact ⟨rfl, rfl⟩
  · have hd : decide (0 ≤ i ∧ i < (np : Int)) = false := by simp [h0]
    rw [hd]
    clear hd
    have hd2 : decide (0 ≤ i) = false := by simp [h0]
    go_enter Tryd.func30, Tryd.ntmps30
    go_wp2
    go_ret
    exact ⟨rfl, rfl⟩
theorem place_any {w : World} {base F B p0 np : Nat} {half : Bool} (h : FileIs w base F B p0 np half) {k : Nat} (hp : p0 ≤ 65536) (hk : k ≤ 65536) :
    Calls Tryd.prog 19 #[.pointer (some ⟨F, 0, none⟩), .int .i64 k] w fun e w' => e = .returned (.int .i64 ((p0 + k * 8 : Nat) : Int)) ∧ w' = w := by
  obtain ⟨c0, c1, c2, c3⟩ := h.cells
  clear h
  go_enter Tryd.func19, Tryd.ntmps19
  go_wp2
  go_ret
  exact ⟨rfl, rfl⟩
theorem journal_any {w : World} {base F B p0 np : Nat} {half : Bool} (h : FileIs w base F B p0 np half) (hp : p0 ≤ 65536) (hk : np ≤ 65536) :
    Calls Tryd.prog 32 #[.pointer (some ⟨F, 0, none⟩)] w fun e w' => e = .returned (.int .i64 ((p0 + np * 8 : Nat) : Int)) ∧ w' = w := by
  obtain ⟨c0, c1, c2, c3⟩ := h.cells
  have HP := hid (place_any h hp hk)
  clear h
  go_enter Tryd.func32, Tryd.ntmps32
  go_wp2_with (go_at_call 19; refine HP.out.mono ?_; rintro e w2 ⟨rfl, hw⟩; have hw' := hw.symm; clear hw; subst hw')
  go_ret
  exact ⟨rfl, rfl⟩

/-- Noughts alone? -/
def allZ (zs : List Int) : Bool := zs.all (· == 0)
theorem allZ_take {zs : List Int} {k : Nat} {c : Int} (hk : k < zs.length) (hc : c = zs.getD k 0) (h : allZ (zs.take k) = true) : allZ (zs.take (k + 1)) = (c == 0) := by
  unfold allZ at *
  rw [take_at hc hk, List.all_append, h]
  simp
theorem allZ_not {zs : List Int} {k : Nat} (hk : k < zs.length) (hc : (zs.getD k 0 == 0) = false) : allZ zs = false := by
  unfold allZ
  rw [List.all_eq_false]
  refine ⟨zs[k], List.getElem_mem hk, ?_⟩
  have e : zs.getD k 0 = zs[k] := by simp [hk]
  rw [e] at hc
  simp [hc]
theorem isNot_any (c : Int) (w : World) :
    Calls Tryd.prog 54 #[.int .u8 c] w fun e w' => e = .returned (.bool (!(c == 0))) ∧ w' = w := by
  go_enter Tryd.func54, Tryd.ntmps54
  go_wp2
  go_ret
  exact ⟨by first | rfl | simp, rfl⟩
theorem index_any {w : World} {v : Value} {zs : List Int} (h : Bs w v zs) :
    Calls Tryd.prog 59 #[v, .func (.func 54) #[] #[]] w fun e w' => ∃ i : Int, e = .returned (.int .i64 i) ∧ decide (0 ≤ i) = !allZ zs ∧ w' = w := by
  obtain ⟨ao, cap, rfl, hop⟩ := h.open
  have hl := h.2.1
  obtain ⟨n, hn⟩ : ∃ n, n = zs.length := ⟨_, rfl⟩
  rw [← hn] at hop hl ⊢
  have HO := hid hop
  have HN := hid hn
  clear h hop hn
  go_enter Tryd.func59, Tryd.ntmps59
  go_wp2
  go_loop [5, 8] (fun _ i => ∃ k : Nat, k ≤ n ∧ i = .int .i64 k ∧ allZ (zs.take k) = true) (fun _ i => n - (intOf i).toNat)
  case atStart => exact ⟨0, by omega, rfl, rfl⟩
  case round =>
    obtain ⟨k, hk, rfl, hz⟩ := hrel
    have HZ := hid hz
    clear hz
    by_cases hlt : k < n
    · obtain ⟨b, off, rfl, hc⟩ := HO.out (by omega)
      have hck := hc k (by have := HN.out; omega)
      obtain ⟨c, hcc⟩ : ∃ c, c = zs.getD k 0 := ⟨_, rfl⟩
      rw [← hcc] at hck
      have HC := hid hcc
      have hkI : (k : Int) < (n : Int) := by omega
      clear hc hcc
      by_cases hc0 : (c == 0) = true
      · have hn0 : (!(c == 0)) = false := by simp [hc0]
        have HC0 := hid hc0
        clear hc0
        go_wp2_with (go_at_call 54; refine (isNot_any _ _).mono ?_; rintro e w2 ⟨rfl, hw⟩; have hw' := hw.symm; clear hw; subst hw')
        go_round
        case rel => exact ⟨k + 1, by omega, by go_num, by rw [allZ_take (by have := HN.out; omega) HC.out HZ.out]; exact HC0.out⟩
        case measure => simp [intOf]; omega
      · have hc1 : (c == 0) = false := by simpa using hc0
        have hn0 : (!(c == 0)) = true := by simp [hc1]
        have HC0 := hid hc1
        clear hc0 hc1
        go_wp2_with (go_at_call 54; refine (isNot_any _ _).mono ?_; rintro e w2 ⟨rfl, hw⟩; have hw' := hw.symm; clear hw; subst hw')
        go_ret
        refine ⟨_, rfl, ?_, rfl⟩
        rw [allZ_not (k := k) (by have := HN.out; omega) (by rw [← HC.out]; exact HC0.out)]
        simp
    · have HF : Hid (allZ zs = true) := by
        have := HZ.out
        rw [List.take_of_length_le (by have := HN.out; omega)] at this
        exact this
      go_wp2
      go_ret
      refine ⟨_, rfl, ?_, rfl⟩
      rw [HF.out]
      rfl
theorem contains_any {w : World} {v : Value} {zs : List Int} (h : Bs w v zs) :
    Calls Tryd.prog 53 #[v, .func (.func 54) #[] #[]] w fun e w' => e = .returned (.bool (!allZ zs)) ∧ w' = w := by
  have HI := hid (index_any h)
  obtain ⟨ao, cap, rfl, _⟩ := h.open
  clear h
  go_enter Tryd.func53, Tryd.ntmps53
  go_wp2_with (go_at_call 59; refine HI.out.mono ?_; rintro e w2 ⟨i, rfl, hi, hw⟩; have hw' := hw.symm; clear hw; subst hw'; have HI2 := hid hi; clear hi)
  go_ret
  exact ⟨by first | (rw [← HI2.out]; rfl) | (rw [HI2.out]), rfl⟩
theorem noughts_any {w : World} {v : Value} {zs : List Int} (h : Bs w v zs) :
    Calls Tryd.prog 42 #[v] w fun e w' => e = .returned (.bool (allZ zs)) ∧ w' = w := by
  have HI := hid (contains_any h)
  obtain ⟨ao, cap, rfl, _⟩ := h.open
  clear h
  obtain ⟨z, hz⟩ : ∃ z, allZ zs = z := ⟨_, rfl⟩
  rw [hz] at HI ⊢
  clear hz
  go_enter Tryd.func42, Tryd.ntmps42
  go_wp2_with (go_at_call 53; refine HI.out.mono ?_; rintro e w2 ⟨rfl, hw⟩; have hw' := hw.symm; clear hw; subst hw')
  go_ret
  exact ⟨by cases z <;> rfl, rfl⟩

theorem count_any {w : World} {v : Value} {zs : List Int} (h : Bs w v zs) :
    Calls Tryd.prog 55 #[v] w fun e w' => e = .returned (.int .i64 (countOf zs)) ∧ w' = w := by
  have HV := hid (var_bs h)
  obtain ⟨ao, cap, rfl, _⟩ := h.open
  have HC : Hid (countOf zs = if (dec 0 0 zs).2.2 ≠ 0 ∨ 8 < (dec 0 0 zs).1 then 0 else (dec 0 0 zs).1.toNat) := rfl
  have hx0 : 0 ≤ (dec 0 0 zs).1 := dec_nonneg zs 0 0 (by omega)
  clear h
  generalize (dec 0 0 zs).1 = X at *
  generalize (dec 0 0 zs).2.1 = N at *
  generalize (dec 0 0 zs).2.2 = E at *
  by_cases hE : E = 0
  · subst hE
    have hd : ((0 : Int) != 0) = false := rfl
    by_cases h8 : 8 < X
    · have hc : countOf zs = 0 := by rw [HC.out, if_pos (.inr h8)]
      rw [hc]
      clear hc
      go_enter Tryd.func55, Tryd.ntmps55
      go_wp2_with (go_at_call 58; refine HV.out.mono ?_; rintro e w2 ⟨rfl, hw⟩; have hw' := hw.symm; clear hw; subst hw')
      go_ret
      exact ⟨rfl, rfl⟩
    · have hc : ((countOf zs : Nat) : Int) = X := by rw [HC.out, if_neg (by omega)]; omega
      rw [hc]
      clear hc
      go_enter Tryd.func55, Tryd.ntmps55
      go_wp2_with (go_at_call 58; refine HV.out.mono ?_; rintro e w2 ⟨rfl, hw⟩; have hw' := hw.symm; clear hw; subst hw')
      go_ret
      exact ⟨rfl, rfl⟩
  · have hd : (E != 0) = true := by simpa using hE
    have hc : countOf zs = 0 := by rw [HC.out, if_pos (.inl hE)]
    rw [hc]
    clear hc hE
    go_enter Tryd.func55, Tryd.ntmps55
    go_wp2_with (go_at_call 58; refine HV.out.mono ?_; rintro e w2 ⟨rfl, hw⟩; have hw' := hw.symm; clear hw; subst hw')
    go_ret
    exact ⟨rfl, rfl⟩
end Go.Proofs.YtafopokcfkgjiaaDoor
