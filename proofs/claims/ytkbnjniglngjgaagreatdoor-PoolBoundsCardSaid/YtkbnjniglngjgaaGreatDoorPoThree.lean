/-
  Layer 5: what Put, Get and Evict give in terrierlaw5.PoolBounds, whatever the page.
-/
import Derived.Test.YtkbnjniglngjgaaGreatDoorPoAwakeW
namespace Go.Proofs.YtkbnjniglngjgaaGreatDoor
open Go.RowKit

/-- A Pool of the law that holds the page, as the File has it. -/
def HeldSt (wx : World) (base O P F L g k B : Nat) (no : Int) : Prop := OwI wx O F L P ∧ ∃ (m : Nat) (s s2 : Value), no = m ∧ m < 8 ∧ PW wx base P F L g k B 224 0 8 144 80 (Dk.new 224).flush Lg.fresh ⟨true, true, m, 0, s, m, 0, s2⟩ ∧ wx.ownsRow 0 5 1 s 480 (secV (zeros 480)) ∧ wx.ownsRow 0 5 1 s2 480 (secV (zeros 480))
/-- .. that holds none. -/
def NoneSt (wx : World) (base O P F L g k B : Nat) : Prop := OwI wx O F L P ∧ PW wx base P F L g k B 224 0 8 144 80 (Dk.new 224).flush Lg.fresh Fr.none
theorem fresh_fetch {m : Nat} (h : m < 8) : OkAt (secs (Dk.new 224).flush.now (0 + m * 8) 8) m ∧ fetchP (secs (Dk.new 224).flush.now (0 + m * 8) 8) m = ⟨m, 0, zeros 480⟩ := by
  have hst : FSt (Dk.new 224).flush.now 0 8 (fun _ => none) := by rw [flush_now]; exact pnew_st (by omega) (by omega)
  exact hst.fetch h
theorem put_all {w : World} {base O P F L g k B N : Nat} {no lsn : Int} {a : Option Addr} {c : Nat} (hs : NoneSt w base O P F L g k B) (hgb : base ≤ g) (h0 : 0 ≤ lsn) (hN : N ≤ 1023) (ho : w.ownsRow 0 5 1 (.slice a N c) N (secV (zeros N))) :
    Calls Tryz.prog 6 #[.pointer (some ⟨P, 0, none⟩), .agg #[.int .i64 no, .int .u64 lsn, .slice a N c]] w fun e w' => e = .returned (.int .i64 (if (0 ≤ no ∧ no < 8) ∧ N = 480 ∧ lsn < 1 then 0 else 1)) ∧ OwI w' O F L P ∧ (NoneSt w' base O P F L g k B ∨ HeldSt w' base O P F L g k B no) ∧ Below base w w' := by
  by_cases hgd : (0 ≤ no ∧ no < 8) ∧ N = 480 ∧ lsn < 1
  · rw [if_pos hgd]
    obtain ⟨⟨h1, h2⟩, rfl, h3⟩ := hgd
    obtain rfl : lsn = 0 := by omega
    obtain ⟨m, rfl⟩ : ∃ m : Nat, no = m := ⟨no.toNat, by omega⟩
    have hf := fresh_fetch (m := m) (by omega)
    refine (put_new (no := m) (lsn := 0) (zs := zeros 480) hs.2 rfl (by omega) (by decide) (by rw [d0_left]; decide) (by omega) hf.1 hf.2 (bs_own ho (By.zeros 480) (by rw [zeros_len]; omega)) (zeros_len 480)).mono ?_
    rintro e w' ⟨s', s2, rfl, q1, q2, q3, q4⟩
    have hO := hs.1.kx hs.2.pl q4
    exact ⟨rfl, hO, .inr ⟨hO, m, s', s2, rfl, by omega, q3, own_mono q1 (Nat.zero_le _), own_mono q2 (Nat.zero_le _)⟩, q4.below hgb hs.2.lo.1.base_le⟩
  · rw [if_neg hgd]
    refine (put_bad hs.2 (by omega) (show putBad 8 no N lsn (Lg.fresh.first + Lg.fresh.recs.length) from ?_)).mono ?_
    · have e1 : ((Lg.fresh.first + Lg.fresh.recs.length : Nat) : Int) = 1 := by decide
      unfold putBad
      rw [e1]
      omega
    · rintro e w' ⟨rfl, hb⟩
      exact ⟨rfl, hs.1.below hb, .inl ⟨hs.1.below hb, hs.2.below hb⟩, hb.mono hs.2.lo.1.base_le⟩
theorem get_all {w : World} {base O P F L g k B : Nat} {no : Int} (hs : NoneSt w base O P F L g k B ∨ HeldSt w base O P F L g k B no) (hgb : base ≤ g) :
    Calls Tryz.prog 7 #[.pointer (some ⟨P, 0, none⟩), .int .i64 no] w fun e w' => ∃ (x y : Int) (a : Option Addr) (n c : Nat), e = .returned (.tuple #[.agg #[.int .i64 x, .int .u64 y, .slice a n c], .int .i64 (if 0 ≤ no ∧ no < 8 then 0 else 1)]) ∧ OwI w' O F L P ∧ ((¬ (0 ≤ no ∧ no < 8) ∧ NoneSt w' base O P F L g k B) ∨ HeldSt w' base O P F L g k B no) ∧ Below base w w' := by
  rcases hs with hs | ⟨hO, m, s, s2, rfl, hm, hp, h1, h2⟩
  · by_cases hin : 0 ≤ no ∧ no < 8
    · rw [if_pos hin]
      obtain ⟨m, rfl⟩ : ∃ m : Nat, no = m := ⟨no.toNat, by omega⟩
      have hf := fresh_fetch (m := m) (by omega)
      refine (get_file (no := m) hs.2 rfl (by omega) (by rw [d0_left]; decide) (by omega) hf.1 hf.2 (By.zeros 480) (zeros_len 480)).mono ?_
      rintro e w' ⟨s, s', rfl, q1, q2, q3, q4⟩
      obtain ⟨a, n, c, rfl⟩ := own_slice q1
      have hO := hs.1.kx hs.2.pl q4
      exact ⟨_, _, a, n, c, rfl, hO, .inr ⟨hO, m, s, s, rfl, by omega, q3, own_mono q2 (Nat.zero_le _), own_mono q2 (Nat.zero_le _)⟩, q4.below hgb hs.2.lo.1.base_le⟩
    · rw [if_neg hin]
      refine (get_bad hs.2.pl hs.2.fi hin).mono ?_
      rintro e w' ⟨rfl, hb⟩
      exact ⟨_, _, _, _, _, rfl, hs.1.below hb, .inl ⟨hin, hs.1.below hb, hs.2.below hb⟩, hb.mono hs.2.lo.1.base_le⟩
  · rw [if_pos (by omega)]
    refine (get_held (zs := zeros 480) hp hm (by rw [zeros_len]; exact h1) (By.zeros 480) (by rw [zeros_len]; omega)).mono ?_
    rintro e w' ⟨s', rfl, q1, q2, q3⟩
    obtain ⟨a, n, c, rfl⟩ := own_slice q1
    have hO' := hO.kx hp.pl q3
    exact ⟨_, _, a, n, c, rfl, hO', .inr ⟨hO', m, s, s2, rfl, hm, q2, own_kx h1 hp.pl q3, own_kx h2 hp.pl q3⟩, q3.below hgb hp.lo.1.base_le⟩
theorem evict_all {w : World} {base O P F L g k B : Nat} {no : Int} (hs : (¬ (0 ≤ no ∧ no < 8) ∧ NoneSt w base O P F L g k B) ∨ HeldSt w base O P F L g k B no) (hgb : base ≤ g) :
    Calls Tryz.prog 8 #[.pointer (some ⟨P, 0, none⟩), .int .i64 no] w fun e w' => e = .returned (.int .i64 (if 0 ≤ no ∧ no < 8 then 0 else 1)) ∧ Below base w w' := by
  rcases hs with ⟨hin, hs⟩ | ⟨hO, m, s, s2, rfl, hm, hp, h1, h2⟩
  · rw [if_neg hin]
    refine (evict_bad hs.2.pl hs.2.fi hin).mono ?_
    rintro e w' ⟨rfl, rfl⟩
    exact ⟨rfl, Below.refl _ _⟩
  · rw [if_pos (by omega)]
    have b1 := bs_own h1 (By.zeros 480) (by rw [zeros_len]; omega)
    have b2 := bs_own h2 (By.zeros 480) (by rw [zeros_len]; omega)
    have hsv := save_clean hp.pl rfl b1 b2
    have hle := hp.lo.1.base_le
    have hc : Calls Tryz.prog 35 #[.pointer (some ⟨P, 0, none⟩), .pointer (some ⟨g, 0, none⟩)] w fun e w' => e = .returned (.int .i64 0) ∧ (∃ f2, PlI w' P F L g k f2) ∧ (Below base w w' ∧ base ≤ w'.heap.size) := hsv.mono fun e w' ⟨h, q, hq⟩ => by
      have hb : Below w.heap.size w w' := by rw [hq]; exact below_drewN (Below.refl _ w) q
      exact ⟨h, ⟨_, hp.pl.below hb⟩, hb.mono hle, Nat.le_trans hle hb.size⟩
    refine (evict_of (Q := fun w' => Below base w w' ∧ base ≤ w'.heap.size) hp.pl hp.fi rfl rfl hm hc).mono ?_
    rintro e w' ⟨rfl, w1, ⟨hb1, hb2⟩, _, hk⟩
    exact ⟨rfl, hb1.trans (hk.below hgb hb2)⟩
end Go.Proofs.YtkbnjniglngjgaaGreatDoor
