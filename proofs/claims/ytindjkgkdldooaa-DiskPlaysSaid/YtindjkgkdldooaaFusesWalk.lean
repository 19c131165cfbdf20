/-
  DiskFuses: the walk.
-/
import Derived.Test.YtindjkgkdldooaaDAwake
namespace Go.Proofs.Ytindjkgkdldooaa
open Go.RowKit

theorem i64_and31 (n : Int) : bits .and .i64 n 31 = n % 32 := by
  have h31 : (BitVec.ofInt 64 31).toNat = 2 ^ 5 - 1 := by decide
  have key : (BitVec.ofInt 64 n &&& BitVec.ofInt 64 31).toNat = (n % ((2 ^ 64 : Nat) : Int)).toNat % 2 ^ 5 := by
    rw [BitVec.toNat_and, BitVec.toNat_ofInt, h31, Nat.and_two_pow_sub_one_eq_mod]
  show IntKind.i64.wrap ((BitVec.ofInt 64 n &&& BitVec.ofInt 64 31).toNat : Nat) = n % 32
  rw [key, IntKind.wrap_i64]
  omega

/-- The slice v holds the Booleans bs. -/
def Bools (w : World) (v : Value) (bs : List Bool) : Prop :=
  ∃ ao cap, v = .slice ao bs.length cap ∧ (1 ≤ bs.length → ∃ b off, ao = some ⟨b, off, none⟩ ∧ ∀ j, j < bs.length → w.cell? ⟨b, off + j, none⟩ = some (.bool (bs.getD j false)))

theorem burn_pos {l : Int} (h : 0 < l) : burn l = l - 1 := by unfold burn; rw [if_neg (by omega)]

/-- How the disk stands behind so many acts. -/
def FuI (w : World) (B N k : Nat) (wr : World) : Prop :=
  ∃ d : Dk, DiskIs wr w.heap.size B 8 d ∧ d.left = ((N - k : Nat) : Int) ∧ d.wait.length ≤ k ∧ d.writes ≤ k ∧ Below w.heap.size w wr

set_option maxRecDepth 8000 in
set_option maxHeartbeats 1600000 in
theorem diskFuses_walk (w : World) (n : Int) (_hn0 : -9223372036854775808 ≤ n) (_hn1 : n ≤ 9223372036854775807) (v : Value) (bs : List Bool) (h : Bools w v bs) :
    Calls Try.prog 6 #[.int .i64 n, v] w fun e w' => e = .returned (.bool true) ∧ Below w.heap.size w w' := by
  obtain ⟨ao, cap, rfl, hcell⟩ := h
  have HC := hid hcell
  clear hcell
  obtain ⟨len, hlen⟩ : ∃ len, len = bs.length := ⟨_, rfl⟩
  rw [← hlen] at HC ⊢
  clear hlen
  obtain ⟨N, hN⟩ : ∃ N : Nat, bits .and .i64 n 31 = (N : Int) := ⟨(n % 32).toNat, by rw [i64_and31]; omega⟩
  have hN31 : N ≤ 31 := by rw [i64_and31] at hN; omega
  have HN := hid (new_any 8 w (by omega))
  go_enter Try.func6, Try.ntmps6
  go_wp2_with (first
    | (go_at_call 7; refine HN.out.mono ?_; rintro e w1 ⟨B, rfl, hd1, hb1⟩; have HB1 := hid hb1; have HF := hid (fuse_any hd1 (k := (N : Int)) (by omega) (by omega)); clear HN hd1 hb1)
    | (go_at_call 23; refine HF.out.mono ?_; rintro e w2 ⟨⟨v2, rfl⟩, hd2, hk2⟩; have HI := hid (show FuI w B N 0 w2 from ⟨_, hd2, by { unfold Dk.fuse; rw [if_neg (by decide)]; show max (N : Int) (-1) = _; omega }, by { unfold Dk.fuse; rw [if_neg (by decide)]; exact Nat.le_refl _ }, by { unfold Dk.fuse; rw [if_neg (by decide)]; exact Int.le_refl _ }, HB1.out.trans hk2.below⟩); clear HF HB1 hd2 hk2))
  go_loopw [7, 8] (fun i _ wr => ∃ k : Nat, k ≤ len ∧ k ≤ 60 ∧ i = .int .i64 k ∧ FuI w B N k wr) (fun i _ _ => 60 - (intOf i).toNat)
  case atStart => exact ⟨0, Nat.zero_le _, by omega, rfl, HI.out⟩
  case round =>
    obtain ⟨k, hkl, hk60, rfl, hI⟩ := hrel
    clear HI
    by_cases hlt : k < len ∧ k < 60
    · obtain ⟨b, off, rfl, hx⟩ := HC.out (by omega)
      obtain ⟨d, hd, hleft, hwt, hwr, hbw⟩ := hI
      have hbwr : wr.cell? ⟨b, off + k, none⟩ = some (.bool (bs.getD k false)) := by
        rw [hbw.cell (p := ⟨b, off + k, none⟩) (lt_of_cell (hx k hlt.1))]; exact hx k hlt.1
      have hltL : (k : Int) < (len : Int) := by omega
      have hlt60 : (k : Int) < 60 := by omega
      obtain ⟨r, hrem, hr8⟩ : ∃ r : Nat, (k : Int) % 8 = (r : Int) ∧ r < 8 := ⟨k % 8, by omega, by omega⟩
      clear hx
      by_cases hkN : k < N
      · have hkNI : (k : Int) < (N : Int) := by omega
        have hl0 : d.left ≠ 0 := by omega
        have hl1 : 0 < d.left := by omega
        by_cases hb : bs.getD k false = true
        · rw [hb] at hbwr
          have HF := hid (flush_any hd hl0 (by omega))
          have HE := hid (show d.flush.left = ((N - (k + 1) : Nat) : Int) by show burn d.left = _; rw [burn_pos hl1]; omega)
          have HBW := hid hbw
          clear hd hleft hwt hb hl0 hl1 hbw
          go_wp2_with (go_at_call 10; refine HF.out.mono ?_; rintro e w3 ⟨rfl, hd3, hk3⟩)
          go_roundw
          case rel => exact ⟨k + 1, by omega, by omega, by go_num, d.flush, hd3, HE.out, by simp [Dk.flush], by have : d.flush.writes = d.writes := rfl; omega, HBW.out.trans hk3.below⟩
          case measure => simp [intOf]; omega
        · have hb' : bs.getD k false = false := by simpa using hb
          rw [hb'] at hbwr
          have HS := hid (sector_any (k : Int) wr)
          have HE := hid (show (d.write r (secL k)).left = ((N - (k + 1) : Nat) : Int) by show burn d.left = _; rw [burn_pos hl1]; omega)
          have HBW := hid hbw
          have HDK := hid hd
          have HL0 := hid hl0
          clear hd hleft hb hb' hl0 hl1 hbw
          go_wp2_with (first
            | (go_at_call 9; refine HS.out.mono ?_; rintro e w3 ⟨g3, rfl, ho3, hb3⟩; have HW := hid (write_any (HDK.out.below hb3) (i := r) hr8 HL0.out (sec_secL k) (has_sec ho3) (by omega) (by omega)); have HB3 := hid (HBW.out.trans (hb3.mono HBW.out.size)); clear ho3 hb3 HS)
            | (go_at_call 8; refine HW.out.mono ?_; rintro e w4 ⟨rfl, hd4, hk4⟩))
          go_roundw
          case rel => exact ⟨k + 1, by omega, by omega, by go_num, _, hd4, HE.out, by simp [Dk.write]; omega, by show d.writes + 1 ≤ _; omega, HB3.out.trans hk4.below⟩
          case measure => simp [intOf]; omega
      · have hkNI : ¬ ((k : Int) < (N : Int)) := by omega
        have hl0 : d.left = 0 := by omega
        by_cases hb : bs.getD k false = true
        · rw [hb] at hbwr
          have HF := hid (flush_dead hd hl0)
          have HE := hid (show d.left = ((N - (k + 1) : Nat) : Int) by omega)
          have HBW := hid hbw
          have HDK := hid hd
          clear hd hleft hb hl0 hbw
          go_wp2_with (go_at_call 10; refine HF.out.mono ?_; rintro e w3 ⟨rfl, hb3⟩)
          go_roundw
          case rel => exact ⟨k + 1, by omega, by omega, by go_num, d, HDK.out.below hb3, HE.out, by omega, by omega, HBW.out.trans (hb3.mono HBW.out.size)⟩
          case measure => simp [intOf]; omega
        · have hb' : bs.getD k false = false := by simpa using hb
          rw [hb'] at hbwr
          have HS := hid (sector_any (k : Int) wr)
          have HE := hid (show d.left = ((N - (k + 1) : Nat) : Int) by omega)
          have HBW := hid hbw
          have HDK := hid hd
          have HL0 := hid hl0
          clear hd hleft hb hb' hl0 hbw
          go_wp2_with (first
            | (go_at_call 9; refine HS.out.mono ?_; rintro e w3 ⟨g3, rfl, ho3, hb3⟩; have HW := hid (write_dead (HDK.out.below hb3) (i := (r : Int)) (by omega) HL0.out (ao := some ⟨g3, 0, none⟩) (cap := 64)); have HD3 := hid (HDK.out.below hb3); have HB3 := hid (HBW.out.trans (hb3.mono HBW.out.size)); clear ho3 hb3 HS)
            | (go_at_call 8; refine HW.out.mono ?_; rintro e w4 ⟨rfl, hw4⟩; have hw4' := hw4.symm; clear hw4; subst hw4'))
          go_roundw
          case rel => exact ⟨k + 1, by omega, by omega, by go_num, d, HD3.out, HE.out, by omega, by omega, HB3.out⟩
          case measure => simp [intOf]; omega
    · obtain ⟨d, hd, hleft, hwt, hwr, hbw⟩ := hI
      have HD1 := hid (dead_any hd)
      have hdl : (d.left == 0) = decide (N ≤ k) := by
        by_cases h : N ≤ k
        · have : d.left = 0 := by omega
          simp [h, this]
        · have : d.left ≠ 0 := by omega
          simp [h, this]
      rw [hdl] at HD1
      have HCR := hid (crash_any hd (by omega) (ints_nil wr) (by decide))
      have HBW := hid hbw
      clear hd hleft hdl hbw
      have HS1 := hid (fun wx => sector_any 1 wx)
      rcases (show (len : Int) ≤ 60 ∧ len = k ∨ (60 : Int) < (len : Int) ∧ k = 60 by omega) with ⟨hle, rfl⟩ | ⟨hgt, rfl⟩
      · go_wp2_with (first
          | (go_at_call 27; refine HD1.out.mono ?_; rintro e w3 ⟨rfl, hw3⟩; have hw3' := hw3.symm; clear hw3 HD1; subst hw3')
          | (go_at_call 16; refine HCR.out.mono ?_; rintro e w4 ⟨⟨v4, rfl⟩, hd4, hk4⟩; have HB4 := hid (HBW.out.trans hk4.below); have HD4 := hid hd4; have HDD := hid (dead_any hd4); clear HCR hd4 hk4 HBW)
          | (go_at_call 27; refine HDD.out.mono ?_; rintro e w5 ⟨rfl, hw5⟩; have hw5' := hw5.symm; clear hw5 HDD; subst hw5')
          | (go_at_call 9; refine (HS1.out w4).mono ?_; rintro e w6 ⟨g6, rfl, ho6, hb6⟩; have HW := hid (write_any (HD4.out.below hb6) (i := 0) (by omega) (by simp [Dk.crash]) (sec_secL 1) (has_sec ho6) (by simp [Dk.crash]) (show d.writes ≤ 1000000000 by omega)); have HB6 := hid (HB4.out.trans (hb6.mono HB4.out.size)); clear HS1 HB4 HD4 ho6 hb6)
          | (go_at_call 8; refine HW.out.mono ?_; rintro e w7 ⟨rfl, hd7, hk7⟩; have HF7 := hid (flush_any hd7 (by simp [Dk.write, Dk.crash, burn]) (by simp [Dk.write, Dk.crash])); have HB7 := hid (HB6.out.trans hk7.below); clear HW HB6 hd7 hk7)
          | (go_at_call 10; refine HF7.out.mono ?_; rintro e w8 ⟨rfl, hd8, hk8⟩; have HB8 := hid (HB7.out.trans hk8.below); clear HF7 HB7 hd8 hk8)
          | (go_at_call 17; refine (awake_any w8).mono ?_; rintro e w9 ⟨rfl, hb9⟩))
        go_ret
        exact ⟨rfl, HB8.out.trans (hb9.mono HB8.out.size)⟩
      · have hN60 : decide (N ≤ 60) = true := by simp; omega
        rw [hN60] at HD1
        have hNI : (N : Int) ≤ 60 := by omega
        clear hN60
        go_wp2_with (first
          | (go_at_call 27; refine HD1.out.mono ?_; rintro e w3 ⟨rfl, hw3⟩; have hw3' := hw3.symm; clear hw3 HD1; subst hw3')
          | (go_at_call 16; refine HCR.out.mono ?_; rintro e w4 ⟨⟨v4, rfl⟩, hd4, hk4⟩; have HB4 := hid (HBW.out.trans hk4.below); have HD4 := hid hd4; have HDD := hid (dead_any hd4); clear HCR hd4 hk4 HBW)
          | (go_at_call 27; refine HDD.out.mono ?_; rintro e w5 ⟨rfl, hw5⟩; have hw5' := hw5.symm; clear hw5 HDD; subst hw5')
          | (go_at_call 9; refine (HS1.out w4).mono ?_; rintro e w6 ⟨g6, rfl, ho6, hb6⟩; have HW := hid (write_any (HD4.out.below hb6) (i := 0) (by omega) (by simp [Dk.crash]) (sec_secL 1) (has_sec ho6) (by simp [Dk.crash]) (show d.writes ≤ 1000000000 by omega)); have HB6 := hid (HB4.out.trans (hb6.mono HB4.out.size)); clear HS1 HB4 HD4 ho6 hb6)
          | (go_at_call 8; refine HW.out.mono ?_; rintro e w7 ⟨rfl, hd7, hk7⟩; have HF7 := hid (flush_any hd7 (by simp [Dk.write, Dk.crash, burn]) (by simp [Dk.write, Dk.crash])); have HB7 := hid (HB6.out.trans hk7.below); clear HW HB6 hd7 hk7)
          | (go_at_call 10; refine HF7.out.mono ?_; rintro e w8 ⟨rfl, hd8, hk8⟩; have HB8 := hid (HB7.out.trans hk8.below); clear HF7 HB7 hd8 hk8)
          | (go_at_call 17; refine (awake_any w8).mono ?_; rintro e w9 ⟨rfl, hb9⟩))
        go_ret
        exact ⟨rfl, HB8.out.trans (hb9.mono HB8.out.size)⟩
end Go.Proofs.Ytindjkgkdldooaa
