/-
  What terrierref1's Set, burn and Read give.
-/
import Derived.Test.YtindjkgkdldooaaRMem
namespace Go.Proofs.Ytindjkgkdldooaa
open Go.RowKit

theorem rset_any {w : World} {base R n : Nat} {d : Dk} {f : Int} (h : RefIs w base R n d f) {k : Int} (_hk0 : -9223372036854775808 ≤ k) (hk : k ≤ 9223372036854775807) :
    Calls Try.prog 24 #[.pointer (some ⟨R, 0, none⟩), .int .i64 k] w fun e w' => (∃ v, e = .returned v) ∧ RefIs w' base R n (d.fuse k) (max k (-1)) ∧ Kr base w w' := by
  have H := hid h
  have HK := hid hk
  obtain ⟨ho, hn, hR, hf, hf0, gs, cs, vw, hh, b1, b2⟩ := h
  have hc3 := cell_of_row w R 3 _ _ _ hh
  have hf3 := frozen_of_row w R 3 _ _ hh
  have hc4 := cell_of_row w R 4 _ _ _ hh
  have hf4 := frozen_of_row w R 4 _ _ hh
  simp only [List.getElem?_toArray, List.getElem?_cons_succ, List.getElem?_cons_zero] at hc3 hc4
  have hlast : (d.fuse k).last = d.last := by unfold Dk.fuse; split <;> rfl
  have hwait : (d.fuse k).wait = d.wait := by unfold Dk.fuse; split <;> rfl
  have hwr : (d.fuse k).writes = d.writes := by unfold Dk.fuse; split <;> rfl
  have hok := ho.fuse hk
  have hfu : (d.fuse k).left ≠ 0 → max k (-1) = (d.fuse k).left := by
    unfold Dk.fuse
    split
    · rename_i e; intro h; exact absurd e h
    · intro _; rfl
  have T0 : ∀ x : Int, x = max k (-1) → k ≠ 0 → RefIs (w.setCell ⟨R, 3, none⟩ (.int .i64 x)) base R n (d.fuse k) (max k (-1)) ∧ Kr base w (w.setCell ⟨R, 3, none⟩ (.int .i64 x)) := fun x hx hk0 => by
    refine H.out.turn (grown_setCell _ _ _ _) hlast hwait hok hfu ⟨by omega, by omega⟩ (fun sl vw hh => ?_)
    have e : ((d.fuse k).left == 0) = (d.left == 0) := by
      unfold Dk.fuse
      split
      · rfl
      · rename_i e
        have : (max k (-1) == 0) = false := by simp; omega
        rw [this]; simpa using e
    rw [heap_setCell_same w R 3 _ _ _ hh, hx, hwr, e]
    rfl
  have T1 : k = 0 → RefIs ((w.setCell ⟨R, 3, none⟩ (.int .i64 0)).setCell ⟨R, 4, none⟩ (.bool true)) base R n (d.fuse k) (max k (-1)) ∧ Kr base w ((w.setCell ⟨R, 3, none⟩ (.int .i64 0)).setCell ⟨R, 4, none⟩ (.bool true)) := fun hk0 => by
    refine H.out.turn ((grown_setCell _ _ _ _).trans (grown_setCell _ _ _ _)) hlast hwait hok hfu ⟨by omega, by omega⟩ (fun sl vw hh => ?_)
    have e : ((d.fuse k).left == 0) = true := by
      unfold Dk.fuse
      split
      · rename_i e; rw [e]; rfl
      · rw [hk0]; rfl
    rw [heap_setCell_same _ R 4 _ _ _ (heap_setCell_same w R 3 _ _ _ hh), hwr, e, hk0]
    rfl
  have HT0 := hid T0
  have HT1 := hid T1
  clear ho hn hR hf hf0 hh b1 b2 hok hfu hlast hwait hwr T0 T1
  rcases (show k = 0 ∨ (k < 0 ∧ ¬ k = 0) ∨ (0 < k ∧ ¬ k = 0) by omega) with h0 | ⟨h0, h1⟩ | ⟨h0, h1⟩
  · subst h0
    have HT := hid (HT1.out rfl)
    clear HT1 HT0
    go_enter Try.func24, Try.ntmps24
    go_wp2
    all_goals
      go_end0
      exact ⟨⟨_, rfl⟩, HT.out⟩
  · have h2 : (k == 0) = false := by simpa using h1
    have HX := hid (show (-1 : Int) = max k (-1) by omega)
    have HY := hid h1
    have h3 : ¬ (-1 < k) := by omega
    have h4 : ¬ (-1 ≤ k) ∨ k = -1 := by omega
    clear h1
    go_enter Try.func24, Try.ntmps24
    go_wp2
    all_goals
      go_end0
      exact ⟨⟨_, rfl⟩, HT0.out _ (by omega) HY.out⟩
  · have h2 : (k == 0) = false := by simpa using h1
    have HY := hid h1
    clear h1
    go_enter Try.func24, Try.ntmps24
    go_wp2
    all_goals
      go_end0
      exact ⟨⟨_, rfl⟩, HT0.out _ (by omega) HY.out⟩

theorem rburn_any {w : World} {base R n : Nat} {d : Dk} {f : Int} (h : RefIs w base R n d f) (hd : d.left ≠ 0) :
    Calls Try.prog 35 #[.pointer (some ⟨R, 0, none⟩)] w fun e w' => (∃ v, e = .returned v) ∧ (∃ f', RefIs w' base R n ⟨d.last, d.wait, d.writes, burn d.left⟩ f') ∧ Kr base w w' := by
  have H := hid h
  obtain ⟨ho, hn, hR, hf, hf0, gs, cs, vw, hh, b1, b2⟩ := h
  have hc3 := cell_of_row w R 3 _ _ _ hh
  simp only [List.getElem?_toArray, List.getElem?_cons_succ, List.getElem?_cons_zero] at hc3
  have hfd := hf hd
  by_cases hpos : 0 < f
  · have HS := hid (rset_any H.out (k := f - 1) (by omega) (by omega))
    have HE := hid (show d.fuse (f - 1) = ⟨d.last, d.wait, d.writes, burn d.left⟩ by
      unfold Dk.fuse burn
      rw [if_neg hd, if_neg (by omega), hfd]
      have : max (d.left - 1) (-1) = d.left - 1 := by omega
      rw [this])
    clear ho hn hR hf hh b1 b2 hd hfd
    go_enter Try.func35, Try.ntmps35
    go_wp2_with (go_at_call 24; refine HS.out.mono ?_; rintro e w2 ⟨⟨v2, rfl⟩, hr2, hk2⟩)
    go_end0
    rw [HE.out] at hr2
    exact ⟨⟨_, rfl⟩, ⟨_, hr2⟩, hk2⟩
  · have HE := hid (show (⟨d.last, d.wait, d.writes, burn d.left⟩ : Dk) = d by
      unfold burn
      have : d.left = -1 := by omega
      rw [if_pos this, ← this])
    clear ho hn hR hf hh b1 b2 hd hfd
    go_enter Try.func35, Try.ntmps35
    go_wp2
    go_end0
    rw [HE.out]
    exact ⟨⟨_, rfl⟩, ⟨_, H.out⟩, Kr.refl _ _⟩

theorem rread_bad {w : World} {base R n : Nat} {d : Dk} {f : Int} (h : RefIs w base R n d f) {i : Int} (hi : ¬ (0 ≤ i ∧ i < n)) :
    Calls Try.prog 20 #[.pointer (some ⟨R, 0, none⟩), .int .i64 i] w fun e w' => e = .returned (.tuple #[strV [], .int .i64 1]) ∧ w' = w := by
  obtain ⟨ho, hn, hR, hf, hf0, gs, cs, vw, hh, b1, b2⟩ := h
  have hc0 := cell_of_row w R 0 _ _ _ hh
  simp only [List.getElem?_toArray, List.getElem?_cons_zero] at hc0
  clear ho hn hR hf hf0 hh b1 b2
  rcases (show i < 0 ∨ (¬ i < 0 ∧ (n : Int) ≤ i) by omega) with h0 | ⟨h0, h1⟩
  · clear hi
    go_enter Try.func20, Try.ntmps20
    go_wp2
    go_ret2
    exact ⟨rfl, rfl⟩
  · clear hi
    have hd : decide (i < 0) = false := by simpa using h0
    go_enter Try.func20, Try.ntmps20
    go_wp2
    go_ret2
    exact ⟨rfl, rfl⟩
theorem rread_dead {w : World} {base R n : Nat} {d : Dk} {f : Int} (h : RefIs w base R n d f) {i : Nat} (hi : i < n) (hd : d.left = 0) :
    Calls Try.prog 20 #[.pointer (some ⟨R, 0, none⟩), .int .i64 i] w fun e w' => e = .returned (.tuple #[strV [], .int .i64 50]) ∧ w' = w := by
  obtain ⟨ho, hn, hR, hf, hf0, gs, cs, vw, hh, b1, b2⟩ := h
  have hdd : (d.left == 0) = true := by simp [hd]
  rw [hdd] at hh
  have hc0 := cell_of_row w R 0 _ _ _ hh
  have hc4 := cell_of_row w R 4 _ _ _ hh
  simp only [List.getElem?_toArray, List.getElem?_cons_succ, List.getElem?_cons_zero] at hc0 hc4
  have h0 : ¬ ((i : Int) < 0) := by omega
  have h1 : (i : Int) < (n : Int) := by omega
  clear ho hn hR hf hf0 hh b1 b2 hd hdd
  go_enter Try.func20, Try.ntmps20
  go_wp2
  go_ret2
  exact ⟨rfl, rfl⟩
set_option maxRecDepth 8000 in
theorem rread_any {w : World} {base R n : Nat} {d : Dk} {f : Int} (h : RefIs w base R n d f) {i : Nat} (hi : i < n) (hd : d.left ≠ 0) (hwl : d.wait.length ≤ 1000000) :
    Calls Try.prog 20 #[.pointer (some ⟨R, 0, none⟩), .int .i64 i] w fun e w' => e = .returned (.tuple #[strV (d.now.getD i []), .int .i64 0]) ∧ w' = w := by
  obtain ⟨ho, hn, hR, hf, hf0, gs, cs, vw, hh, b1, b2⟩ := h
  obtain ⟨aw, cw, rfl, haw⟩ := slice_of b2
  rw [List.length_map] at hh b2 haw
  have hdd : (d.left == 0) = false := by simpa using hd
  rw [hdd] at hh
  have hc0 := cell_of_row w R 0 _ _ _ hh
  have hc1 := cell_of_row w R 1 _ _ _ hh
  have hc4 := cell_of_row w R 4 _ _ _ hh
  simp only [List.getElem?_toArray, List.getElem?_cons_succ, List.getElem?_cons_zero] at hc0 hc1 hc4
  have h0 : ¬ ((i : Int) < 0) := by omega
  have h1 : (i : Int) < (n : Int) := by omega
  have hlast : w.cell? ⟨gs, i, none⟩ = some (strV (d.last.getD i [])) := by
    rw [b1.cellAt i (by omega)]
    simp [List.getD, ho.len, hi]
  have HN : Hid (d.now.getD i [] = lastOf i (d.last.getD i []) d.wait) := hid (app_at _ _ _ (by rw [ho.len]; exact hi))
  have HW : Hid (∀ k, k < d.wait.length → ∃ gw x, aw = some ⟨gw, 0, none⟩ ∧ d.wait.take (k + 1) = d.wait.take k ++ [x] ∧ w.cell? ⟨gw, k * 2, none⟩ = some (.int .i64 x.1) ∧ w.cell? ⟨gw, k * 2 + 1, none⟩ = some (strV x.2)) := hid (fun k hk => by
    obtain ⟨gw, rfl⟩ := haw (by omega)
    have hr := b2.range (by simp) (i := k) (by simpa using hk)
    have e : (d.wait.map oneV).getD k [] = oneV (d.wait[k]) := by simp [List.getD, hk]
    rw [e] at hr
    exact ⟨gw, d.wait[k], rfl, List.take_succ_eq_append_getElem hk, hr 0 _ rfl, hr 1 _ rfl⟩)
  obtain ⟨len, hlen⟩ : ∃ len, len = d.wait.length := ⟨_, rfl⟩
  obtain ⟨S, hS⟩ : ∃ S, S = strV (d.last.getD i []) := ⟨_, rfl⟩
  rw [← hS] at hlast
  have HS := hid hS
  have HL := hid hlen
  rw [← hlen] at hc1 HW hwl
  clear ho hn hR hf hf0 hh b1 b2 hd hdd haw hlen hS
  go_enter Try.func20, Try.ntmps20
  go_wp2
  go_loopw [6] (fun v wr => wr = w ∧ ∃ j : Nat, j ≤ len ∧ v = .int .i64 ((j : Int) - 1) ∧ d.now.getD i [] = lastOf i (d.last.getD i []) (d.wait.take j)) (fun v _ => (intOf v + 1).toNat)
  case atStart => exact ⟨rfl, len, Nat.le_refl _, rfl, by rw [HN.out, HL.out, List.take_of_length_le (Nat.le_refl _)]⟩
  case round =>
    obtain ⟨rfl, j, hj, rfl, hnow⟩ := hrel
    cases j with
    | zero =>
      have HNO : Hid (d.now.getD i [] = d.last.getD i []) := hid (by simpa [lastOf] using hnow)
      clear hnow
      have e : (((0 : Nat) : Int) - 1) = -1 := by omega
      rw [e]
      go_wp2
      go_ret2
      exact ⟨by rw [HNO.out, HS.out]; rfl, rfl⟩
    | succ k =>
      have e : (((k + 1 : Nat) : Int) - 1) = (k : Int) := by omega
      rw [e]
      obtain ⟨gw, x, rfl, htk, hx0, hx1⟩ := HW.out k (by omega)
      rw [htk, lastOf_snoc] at hnow
      have hkI : (k : Int) < (len : Int) := by omega
      obtain ⟨T, hT⟩ : ∃ T, T = strV x.2 := ⟨_, rfl⟩
      rw [← hT] at hx1
      have HT := hid hT
      clear hT htk
      by_cases hxi : x.1 = i
      · rw [if_pos hxi] at hnow
        have HNO := hid hnow
        clear hnow
        rw [hxi] at hx0
        clear hxi
        go_wp2
        go_ret2
        exact ⟨by rw [HNO.out, HT.out]; rfl, rfl⟩
      · rw [if_neg hxi] at hnow
        have HNO := hid hnow
        have hne : ((x.1 : Int) == (i : Int)) = false := by simp; omega
        clear hnow hxi
        go_wp2
        go_roundw
        case rel => exact ⟨trivial, k, by omega, rfl, HNO.out⟩
        case measure => simp [intOf]
end Go.Proofs.Ytindjkgkdldooaa
