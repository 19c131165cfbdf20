/-
  Layer 5: what Dirty of a Pool gives that holds a page which the File has.
-/
import Derived.Test.YtkbnjniglngjgaaGreatDoorMP
namespace Go.Proofs.YtkbnjniglngjgaaGreatDoor
open Go.RowKit

set_option maxRecDepth 100000 in
theorem len64_none (w : World) : Calls Tryz.prog 107 #[.int .u64 0] w fun e w' => (∃ l, e = .returned (.int .i64 l)) ∧ w' = w := by
  go_enter Tryz.func107, Tryz.ntmps107
  go_wp2
  go_ret
  exact ⟨⟨_, rfl⟩, rfl⟩
theorem len_none (w : World) : Calls Tryz.prog 87 #[.int .u64 0] w fun e w' => (∃ l, e = .returned (.int .i64 l)) ∧ w' = w := by
  have H := hid (len64_none w)
  go_enter Tryz.func87, Tryz.ntmps87
  go_wp2_with (go_at_call 107; refine H.out.mono ?_; rintro e w2 ⟨⟨l, rfl⟩, hw⟩; have hw' := hw.symm; clear hw H; subst hw')
  go_ret
  exact ⟨⟨_, rfl⟩, rfl⟩
theorem insert_none (w : World) : Calls Tryz.prog 97 #[.slice none 0 0, .int .i64 0, .int .i64 0] w fun e w' => e = .returned (.tuple #[]) ∧ w' = w := by
  go_enter Tryz.func97, Tryz.ntmps97
  go_wp2
  go_loop [6, 7] (fun i _ => i = .int .i64 1) (fun _ _ => 0)
  case atStart => rfl
  case round =>
    obtain rfl := hrel
    go_wp2
    go_end0
    exact ⟨rfl, rfl⟩
theorem pdq_none (w : World) (l : Int) : Calls Tryz.prog 86 #[.slice none 0 0, .int .i64 0, .int .i64 0, .int .i64 l] w fun e w' => e = .returned (.tuple #[]) ∧ w' = w := by
  have H := hid (insert_none w)
  go_enter Tryz.func86, Tryz.ntmps86
  go_wp2
  go_loop [1, 2, 3, 8, 9, 10, 11, 12, 13, 14, 15, 16, 17] (fun x y z _ _ _ _ _ _ _ _ _ _ => x = .int .i64 0 ∧ y = .int .i64 0) (fun _ _ _ _ _ _ _ _ _ _ _ _ _ => 0)
  case atStart => exact ⟨rfl, rfl⟩
  case round =>
    obtain ⟨rfl, rfl⟩ := hrel
    go_wp2_with (go_at_call 97; refine H.out.mono ?_; rintro e w2 ⟨rfl, hw⟩; have hw' := hw.symm; clear hw H; subst hw')
    refine bodyPost_ret (v := .tuple #[]) (by simp [results, Tryz.results86, go_sem]) rfl ?_
    exact ⟨rfl, rfl⟩
theorem sort_none (w : World) : Calls Tryz.prog 66 #[.slice none 0 0] w fun e w' => e = .returned (.tuple #[]) ∧ w' = w := by
  have H := hid (len_none w)
  have HP := hid (fun l => pdq_none w l)
  go_enter Tryz.func66, Tryz.ntmps66
  go_wp2_with (first
    | (go_at_call 87; refine H.out.mono ?_; rintro e w2 ⟨⟨l, rfl⟩, hw⟩; have hw' := hw.symm; clear hw H; subst hw')
    | (go_at_call 86; refine (HP.out _).mono ?_; rintro e w2 ⟨rfl, hw⟩; have hw' := hw.symm; clear hw HP; subst hw'))
  go_end0
  exact ⟨rfl, rfl⟩
/-- A frame that holds nothing. -/
theorem dirty1_no {w : World} {g o : Nat} (h : w.cell? ⟨g, o, none⟩ = some (.bool false)) :
    Calls Tryz.prog 41 #[.pointer (some ⟨g, o, none⟩)] w fun e w' => e = .returned (.bool false) ∧ ∃ q, w' = w.drewN q := by
  go_enter Tryz.func41, Tryz.ntmps41
  go_wp2
  go_ret
  exact ⟨rfl, 0, rfl⟩
/-- A frame whose page the File has. -/
theorem dirty1_eq {w : World} {P F L g k : Nat} {f : Fr} (h : PlI w P F L g k f) (hh : f.held = true) (he : f.lsn = f.lsn2) {zs : List Int} (hx : Bs w f.s zs) (hy : Bs w f.s2 zs) :
    Calls Tryz.prog 41 #[.pointer (some ⟨g, 0, none⟩)] w fun e w' => e = .returned (.bool false) ∧ ∃ q, w' = w.drewN q := by
  have HD := hid (dirty_eq h he hx hy)
  have hd : (!decide (zs = zs)) = false := by simp
  rw [hd] at HD
  have a0 := h.at 0 (.bool true) (by rw [← hh]; rfl)
  clear h hx hy hd
  go_enter Tryz.func41, Tryz.ntmps41
  go_wp2_with (go_at_call 42; refine HD.out.mono ?_; rintro e w2 ⟨rfl, q, hw⟩; have HW := hid hw; clear hw HD)
  go_ret
  exact ⟨rfl, q, HW.out⟩
theorem numbers_none {w : World} {P F L g k : Nat} {f : Fr} (h : PlI w P F L g k f) (hh : f.held = true) (he : f.lsn = f.lsn2) {zs : List Int} (hx : Bs w f.s zs) (hy : Bs w f.s2 zs) :
    Calls Tryz.prog 40 #[.pointer (some ⟨P, 0, none⟩), .func (.func 41) #[] #[]] w fun e w' => e = .returned (.slice none 0 0) ∧ ∃ q, w' = w.drewN q := by
  have HC := hid (fun q => (h.below (below_drewN (Below.refl _ w) q)).cP)
  have HE := hid (fun q => dirty1_eq (h.below (below_drewN (Below.refl _ w) q)) hh he (hx.below (below_drewN (Below.refl _ w) q)) (hy.below (below_drewN (Below.refl _ w) q)))
  have HN := hid (fun q (j : Nat) (h1 : 1 ≤ j) (h2 : j < k + 1) => dirty1_no ((h.below (below_drewN (Below.refl _ w) q)).rest h1 h2))
  obtain ⟨c0, c1, c2⟩ := h.cP
  have hk := h.kk
  clear h hx hy hh he
  go_enter Tryz.func40, Tryz.ntmps40
  go_wp2
  go_loopw [5, 6, 7, 13] (fun l _ _ i wr => l = .slice none 0 0 ∧ ∃ j q : Nat, j ≤ k + 1 ∧ i = .int .i64 j ∧ wr = w.drewN q) (fun _ _ _ i _ => k + 1 - (intOf i).toNat)
  case atStart => exact ⟨rfl, 0, 0, by omega, rfl, rfl⟩
  case round =>
    obtain ⟨rfl, j, q, hj, rfl, rfl⟩ := hrel
    obtain ⟨b0, b1, b2⟩ := HC.out q
    by_cases hlt : j < k + 1
    · have hkI : (j : Int) < ((k + 1 : Nat) : Int) := by omega
      rcases Nat.eq_zero_or_pos j with rfl | hp
      · have HE' := hid (HE.out q)
        go_wp2_with (go_at_call 41; refine HE'.out.mono ?_; rintro e w2 ⟨rfl, q2, hw⟩; have HW := hid hw; clear hw HE')
        go_round
        case rel => exact ⟨rfl, 1, q + q2, by omega, by go_num, by rw [HW.out, World.drewN_drewN]⟩
        case measure => simp [intOf]
      · have HN' := hid (HN.out q j hp hlt)
        go_wp2_with (go_at_call 41; refine HN'.out.mono ?_; rintro e w2 ⟨rfl, q2, hw⟩; have HW := hid hw; clear hw HN')
        go_round
        case rel => exact ⟨rfl, j + 1, q + q2, by omega, by go_num, by rw [HW.out, World.drewN_drewN]⟩
        case measure => simp [intOf]; omega
    · have hkI : ¬ (j : Int) < ((k + 1 : Nat) : Int) := by omega
      have HS := hid (sort_none (w.drewN q))
      go_wp2_with (go_at_call 66; refine HS.out.mono ?_; rintro e w2 ⟨rfl, hw⟩; have hw' := hw.symm; clear hw HS; subst hw')
      go_ret
      exact ⟨rfl, q, rfl⟩
theorem dirty_none {w : World} {P F L g k : Nat} {f : Fr} (h : PlI w P F L g k f) (hh : f.held = true) (he : f.lsn = f.lsn2) {zs : List Int} (hx : Bs w f.s zs) (hy : Bs w f.s2 zs) :
    Calls Tryz.prog 23 #[.pointer (some ⟨P, 0, none⟩)] w fun e w' => e = .returned (.slice none 0 0) ∧ ∃ q, w' = w.drewN q := by
  have HN := hid (numbers_none h hh he hx hy)
  clear h hx hy hh he
  go_enter Tryz.func23, Tryz.ntmps23
  go_wp2_with (go_at_call 40; refine HN.out.mono ?_; rintro e w2 ⟨rfl, hw⟩; have HW := hid hw; clear hw HN)
  go_ret
  exact ⟨rfl, HW.out⟩
end Go.Proofs.YtkbnjniglngjgaaGreatDoor
