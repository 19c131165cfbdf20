/-
  What terrierlaw2.awake gives: true; Write where it is refused.
-/
import Derived.Test.YtindjkgkdldooaaDCrash
namespace Go.Proofs.Ytindjkgkdldooaa
open Go.RowKit

theorem write_bad {w : World} {base B n : Nat} {d : Dk} (h : DiskIs w base B n d) {i : Int} {ao : Option Addr} {len cap : Nat} (hbad : ¬ (0 ≤ i ∧ i < n) ∨ len ≠ 64) :
    Calls Try.prog 8 #[.pointer (some ⟨B, 0, none⟩), .int .i64 i, .slice ao len cap] w fun e w' => e = .returned (.int .i64 1) ∧ w' = w := by
  have HH := hid (has_any h i)
  clear h
  by_cases hi : 0 ≤ i ∧ i < (n : Int)
  · have hd : decide (0 ≤ i ∧ i < (n : Int)) = true := by simpa using hi
    have hl : len ≠ 64 := by rcases hbad with hb | hb; exact absurd hi hb; exact hb
    have hlI : ¬ ((len : Int) = 64) := by omega
    rw [hd] at HH
    clear hbad hi hd hl
    go_enter Try.func8, Try.ntmps8
    go_wp2_with (go_at_call 28; refine HH.out.mono ?_; rintro e w2 ⟨rfl, hw⟩; have hw' := hw.symm; clear hw; subst hw')
    go_ret
    exact ⟨rfl, rfl⟩
  · have hd : decide (0 ≤ i ∧ i < (n : Int)) = false := by simpa using hi
    rw [hd] at HH
    clear hbad hi hd
    go_enter Try.func8, Try.ntmps8
    go_wp2_with (go_at_call 28; refine HH.out.mono ?_; rintro e w2 ⟨rfl, hw⟩; have hw' := hw.symm; clear hw; subst hw')
    go_ret
    exact ⟨rfl, rfl⟩
theorem write_dead {w : World} {base B n : Nat} {d : Dk} (h : DiskIs w base B n d) {i : Int} (hi : 0 ≤ i ∧ i < n) (hd : d.left = 0) {ao : Option Addr} {cap : Nat} :
    Calls Try.prog 8 #[.pointer (some ⟨B, 0, none⟩), .int .i64 i, .slice ao 64 cap] w fun e w' => e = .returned (.int .i64 50) ∧ w' = w := by
  have HH := hid (has_any h i)
  have hd' : decide (0 ≤ i ∧ i < (n : Int)) = true := by simpa using hi
  have HD := hid (dead_any h)
  have hd2 : (d.left == 0) = true := by simpa using hd
  rw [hd'] at HH
  rw [hd2] at HD
  clear h hi hd hd' hd2
  go_enter Try.func8, Try.ntmps8
  go_wp2_with (first | (go_at_call 28; refine HH.out.mono ?_; rintro e w2 ⟨rfl, hw⟩; have hw' := hw.symm; clear hw; subst hw') | (go_at_call 27; refine HD.out.mono ?_; rintro e w2 ⟨rfl, hw⟩; have hw' := hw.symm; clear hw; subst hw'))
  go_ret
  exact ⟨rfl, rfl⟩

theorem has_sec {w : World} {base : Nat} {v : Value} {s : List Int} (h : w.ownsRow base 5 1 v 64 (secV s)) : Has w v s := has_of_own h (by omega)
theorem aw_now1 : ((Dk.new 8).write 0 (secL 7)).now.getD 0 [] = secL 7 := by simp [Dk.new, Dk.write, Dk.now, app]
theorem aw_now2 : (((Dk.new 8).write 0 (secL 7)).crash []).now.getD 0 [] = nought := by
  have e : kept [] ((Dk.new 8).write 0 (secL 7)).wait = [] := kept_nil _
  simp only [Dk.crash, Dk.now, e, app]
  simp [Dk.new, Dk.write, List.replicate_succ]
theorem Has.fresh {w w' : World} {v : Value} {s : List Int} (h : Has w v s) (hs : Sec s) (hb : Below w.heap.size w w') : Has w' v s := h.below (by rw [hs.1]; omega) hb

set_option maxHeartbeats 800000 in
theorem awake_any (w : World) :
    Calls Try.prog 17 #[] w fun e w' => e = .returned (.bool true) ∧ Below w.heap.size w w' := by
  have HN := hid (new_any 8 w (by omega))
  go_enter Try.func17, Try.ntmps17
  go_wp2_with (first
    | (go_at_call 7; refine HN.out.mono ?_; rintro e w1 ⟨B, rfl, hd1, hb1⟩; have HD1 := hid hd1; have HB1 := hid hb1; clear HN hd1 hb1; have HS1 := hid (sector_any 7 w1))
    | (go_at_call 9; refine HS1.out.mono ?_; rintro e w2 ⟨g2, rfl, ho2, hb2⟩; have HD2 := hid (HD1.out.below hb2); have HB2 := hid (HB1.out.trans (hb2.mono HB1.out.size)); have HW := hid (write_any HD2.out (i := 0) (by omega) (by decide) (sec_secL 7) (has_sec ho2) (by decide) (by decide)); clear HD1 HB1 HS1 ho2 hb2)
    | (go_at_call 8; refine HW.out.mono ?_; rintro e w3 ⟨rfl, hd3, hk3⟩; have HD3 := hid hd3; have HB3 := hid (HB2.out.trans hk3.below); have HR := hid (read_any hd3 (i := 0) (by omega) (by decide)); clear HD2 HB2 HW hd3 hk3)
    | (go_at_call 15; refine HR.out.mono ?_; rintro e w4 ⟨v4, rfl, ho4, hb4⟩; rw [aw_now1] at ho4; have HO4 := hid ho4; have HB4 := hid (HB3.out.trans (hb4.mono HB3.out.size)); have HC := hid (crash_any (HD3.out.below hb4) (by decide) (ints_nil w4) (by decide)); clear HD3 HB3 HR ho4 hb4)
    | (go_at_call 16; refine HC.out.mono ?_; rintro e w5 ⟨⟨v5, rfl⟩, hd5, hk5⟩; have HD5 := hid hd5; have HB5 := hid (HB4.out.trans hk5.below); have HH5 := hid (own_same HO4.out (fun k hk => hk5.keep k _ _ _ (own_heap HO4.out hk).choose_spec (by decide) (by decide) (by decide))); have HR5 := hid (read_any hd5 (i := 0) (by omega) (by decide)); clear HO4 HB4 HC hd5 hk5)
    | (go_at_call 15; refine HR5.out.mono ?_; rintro e w6 ⟨v6, rfl, ho6, hb6⟩; rw [aw_now2] at ho6; have HO6 := hid ho6; have HH6 := hid (own_below HH5.out hb6); have HB6 := hid (HB5.out.trans (hb6.mono HB5.out.size)); clear HD5 HB5 HH5 HR5 ho6 hb6))
  obtain ⟨S7, hS7⟩ : ∃ S, S = strOfNums (secL 7) := ⟨_, rfl⟩
  obtain ⟨S0, hS0⟩ : ∃ S, S = strOfNums nought := ⟨_, rfl⟩
  have HS7 := hid hS7
  have HS0 := hid hS0
  have hcA := (has_sec HH6.out.drew).conv
  have hcB := (has_sec HO6.out.drew).conv
  rw [← hS7] at hcA
  rw [← hS0] at hcB
  clear hS7 hS0
  go_region_held (fun w' => (convert 28 9 v4).run Try.prog w' = .ok (.string S7) w' ∧ (convert 28 9 v6).run Try.prog w' = .ok (.string S0) w') (first | exact ⟨hcA, hcB⟩ | exact ⟨hcA7, hcB7⟩ | exact ⟨hcA8, hcB8⟩) (first
    | (go_at_call 9; refine (sector_any 7 w6.drew).mono ?_; rintro e w7 ⟨g7, rfl, ho7, hb7⟩; have HB7 := hid (HB6.out.drew.trans (hb7.mono HB6.out.size)); have hcA7 := (has_sec (own_below HH6.out.drew hb7)).conv; have hcB7 := (has_sec (own_below HO6.out.drew hb7)).conv; have hcS7 := (has_sec ho7).conv; have HO7 := hid (own_below HO6.out.drew hb7); have HH7 := hid (own_below HH6.out.drew hb7); rw [← HS7.out] at hcA7 hcS7; rw [← HS0.out] at hcB7; clear ho7 hb7)
    | (go_at_call 26; refine (nought_any w7).mono ?_; rintro e w8 ⟨rfl, hb8⟩; have HB8 := hid (HB7.out.trans (hb8.mono HB7.out.size)); have hcB8 := (has_sec (own_below HO7.out hb8)).conv; have hcA8 := (has_sec (own_below HH7.out hb8)).conv; rw [← HS7.out] at hcA8; rw [← HS0.out] at hcB8 ⊢; clear hb8))
  all_goals
    go_wp2
    go_ret
    exact ⟨rfl, HB8.out⟩
end Go.Proofs.Ytindjkgkdldooaa
