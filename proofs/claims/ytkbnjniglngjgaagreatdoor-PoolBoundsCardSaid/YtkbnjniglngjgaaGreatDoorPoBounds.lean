/-
  Layer 5: what terrierlaw5.PoolBounds gives: true.
-/
import Derived.Test.YtkbnjniglngjgaaGreatDoorPoThree
namespace Go.Proofs.YtkbnjniglngjgaaGreatDoor
open Go.RowKit

theorem i64_and1023 (n : Int) : bits .and .i64 n 1023 = n % 1024 := by
  have h31 : (BitVec.ofInt 64 1023).toNat = 2 ^ 10 - 1 := by decide
  have key : (BitVec.ofInt 64 n &&& BitVec.ofInt 64 1023).toNat = (n % ((2 ^ 64 : Nat) : Int)).toNat % 2 ^ 10 := by
    rw [BitVec.toNat_and, BitVec.toNat_ofInt, h31, Nat.and_two_pow_sub_one_eq_mod]
  show IntKind.i64.wrap ((BitVec.ofInt 64 n &&& BitVec.ofInt 64 1023).toNat : Nat) = n % 1024
  rw [key, IntKind.wrap_i64]
  omega
theorem st_below {w w' : World} {base O P F L g k B : Nat} {no : Int} (hs : (¬ (0 ≤ no ∧ no < 8) ∧ NoneSt w base O P F L g k B) ∨ HeldSt w base O P F L g k B no) (hb : Below w.heap.size w w') : (¬ (0 ≤ no ∧ no < 8) ∧ NoneSt w' base O P F L g k B) ∨ HeldSt w' base O P F L g k B no := by
  rcases hs with ⟨hin, hs⟩ | ⟨hO, m, s, s2, e, hm, hp, h1, h2⟩
  · exact .inl ⟨hin, hs.1.below hb, hs.2.below hb⟩
  · exact .inr ⟨hO.below hb, m, s, s2, e, hm, hp.below hb, own_bl h1 hb, own_bl h2 hb⟩
/-- What New answers. -/
theorem ponew_all {w : World} {F L : Nat} (N : Int) : Calls Tryz.prog 5 #[.pointer (some ⟨F, 0, none⟩), .pointer (some ⟨L, 0, none⟩), .int .i64 N] w fun e w' => ∃ pv : Option Addr, e = .returned (.tuple #[.pointer pv, .int .i64 (if 1 ≤ N ∧ N ≤ 64 then 0 else 1)]) ∧ (pv = none ↔ ¬ (1 ≤ N ∧ N ≤ 64)) ∧ Below w.heap.size w w' := by
  by_cases h : 1 ≤ N ∧ N ≤ 64
  · have e : N = (((N - 1).toNat + 1 : Nat) : Int) := by omega
    rw [if_pos h]
    have := ponew_any (w := w) (F := F) (L := L) (N - 1).toNat (by omega)
    rw [← e] at this
    refine this.mono ?_
    rintro e w' ⟨P, g, rfl, _, _, _, hb⟩
    exact ⟨_, rfl, by simp [h], hb⟩
  · rw [if_neg h]
    refine (ponew_bad (.inr (.inr h))).mono ?_
    rintro e w' ⟨rfl, rfl⟩
    exact ⟨_, rfl, by simp [h], Below.refl _ _⟩
set_option maxRecDepth 8000 in
set_option maxHeartbeats 3200000 in
theorem poolBounds_walk (w : World) (fr : Int) (hf0 : -9223372036854775808 ≤ fr) (hf1 : fr ≤ 9223372036854775807) (no : Int) (hn0 : -9223372036854775808 ≤ no) (hn1 : no ≤ 9223372036854775807) (lo : Int) (_hl0 : -9223372036854775808 ≤ lo) (_hl1 : lo ≤ 9223372036854775807) (lsn : Int) (hs0 : 0 ≤ lsn) (hs1 : lsn ≤ 18446744073709551615) (ht : TabOk w) :
    Calls Tryz.prog 3 #[.int .i64 fr, .int .i64 no, .int .i64 lo, .int .u64 lsn] w fun e w' => e = .returned (.bool true) ∧ Below w.heap.size w w' := by
  have hg := ht.lt
  have HM : Hid (Calls Tryz.prog 4 #[.int .i64 3] w fun e w' => ∃ O F L P g B, e = .returned (.pointer (some ⟨O, 0, none⟩)) ∧ OwI w' O F L P ∧ PW w' w.heap.size P F L g 2 B 224 0 8 144 80 (Dk.new 224).flush Lg.fresh Fr.none ∧ w.heap.size ≤ g ∧ Below w.heap.size w w') := made_any w ht 2 (by omega)
  have HT := hid ht
  clear ht
  go_enter Tryz.func3, Tryz.ntmps3
  go_upto_region 4 with (go_at_call 4; refine HM.out.mono ?_; rintro e w1 ⟨O, F, L, P, g, B, rfl, hO1, hp1, hg1, hb1⟩; have HO1 := hid hO1; have HP1 := hid hp1; have HB1 := hid hb1; have HG := hid hg1; clear HM hO1 hp1 hg1 hb1)
  have HC1 := hid (fun wx (hb : Below w1.heap.size w1 wx) => And.intro (HO1.out.below hb).cells.1 (HO1.out.below hb).cells.2.1)
  have S1 := HC1.out _ (Below.refl _ w1).drew
  have HNW := hid (ponew_all (w := w1.drew) (F := F) (L := L) fr)
  obtain ⟨E, hE⟩ : ∃ E : Int, E = if 1 ≤ fr ∧ fr ≤ 64 then 0 else 1 := ⟨_, rfl⟩
  rw [← hE] at HNW
  have HE := hid hE
  clear hE
  go_cut [10, 11] from 25 to 37 (fun v10 v11 wx => ∃ pv : Option Addr, v10 = .pointer pv ∧ v11 = .int .i64 E ∧ (pv = none ↔ ¬ (1 ≤ fr ∧ fr ≤ 64)) ∧ Below w1.heap.size w1 wx)
  case first =>
    go_region_held (fun w' => w'.cell? ⟨O, 1, none⟩ = some (.pointer (some ⟨F, 0, none⟩)) ∧ w'.cell? ⟨O, 2, none⟩ = some (.pointer (some ⟨L, 0, none⟩))) (first | exact S1 | exact S2) (first
      | (go_at_call 5; refine HNW.out.mono ?_; rintro e w2 ⟨pv, rfl, hpv, hb2⟩; have HB2 := hid (show Below w1.heap.size w1 w2 from (Below.refl _ w1).drew.trans hb2); have S2 := HC1.out _ HB2.out; have HPV := hid hpv; clear hb2 hpv HNW))
    all_goals
      go_wp2
      go_meet
      exact ⟨pv, rfl, rfl, HPV.out, HB2.out⟩
  case rest =>
    obtain ⟨pv, rfl, rfl, hpv, hbc⟩ := hcut
    have HPV := hid hpv
    have HBC := hid hbc
    clear hpv hbc S1 HC1 HNW
    go_upto_region 5 with fail
    go_cut [53] from 38 to 52 (fun v wx => v = .bool false ∧ wx = wc)
    case first =>
      have hE := HE.out
      have hpv := HPV.out
      by_cases h1 : 1 ≤ fr
      · by_cases h2 : fr ≤ 64
        · rw [if_pos ⟨h1, h2⟩] at hE
          subst hE
          cases pv with
          | none => exact absurd ⟨h1, h2⟩ (hpv.1 rfl)
          | some pa =>
            clear hpv
            go_wp2
            go_meet
            exact ⟨rfl, rfl⟩
        · rw [if_neg (by omega)] at hE
          subst hE
          obtain rfl := hpv.2 (by omega)
          clear hpv
          go_wp2
          go_meet
          exact ⟨rfl, rfl⟩
      · rw [if_neg (by omega)] at hE
        subst hE
        obtain rfl := hpv.2 (by omega)
        clear hpv
        go_wp2
        go_meet
        exact ⟨rfl, rfl⟩
    case rest =>
      obtain ⟨rfl, rfl⟩ := hcut
      have hOC := HO1.out.below HBC.out
      obtain ⟨c1, c2, c3⟩ := hOC.cells
      have HN1 := hid (ponew_bad (w := wc) (fv := none) (lv := some ⟨L, 0, none⟩) (N := 3) (.inl rfl))
      have HN2 := hid (ponew_bad (w := wc) (fv := some ⟨F, 0, none⟩) (lv := none) (N := 3) (.inr (.inl rfl)))
      go_upto_region 10 with (go_at_call 5; first | (refine HN1.out.mono ?_; rintro e w3 ⟨rfl, hw⟩; have hw' := hw.symm; clear hw HN1; subst hw') | (refine HN2.out.mono ?_; rintro e w3 ⟨rfl, hw⟩; have hw' := hw.symm; clear hw HN2; subst hw'))
      obtain ⟨N, hN⟩ : ∃ N : Nat, bits .and .i64 lo 1023 = (N : Int) ∧ N ≤ 1023 := ⟨(lo % 1024).toNat, by rw [i64_and1023]; omega, by omega⟩
      rw [hN.1]
      have hNl := hN.2
      obtain ⟨i0, hi, hz0, hz1, hz2⟩ := info_parts info5
      obtain ⟨C, hC⟩ : ∃ C, C = madeCells #[Value.int .u8 0] N := ⟨_, rfl⟩
      have hmk : ∀ wx : World, (Instr.makeSlice 38 (.int .i64 (N : Int)) (.int .i64 (N : Int))).run Tryz.prog wx = .ok (.slice (some ⟨wx.heap.size, 0, none⟩) N N) (wx.alloc (.cells C 5)) := fun wx => by
        have := run_make (P := Tryz.prog) wx 38 5 i0 _ Tryz.underlying38 hi hz0 .i64 .i64 N N (by omega) (by omega) (by rw [hz2]; omega) (by omega)
        rw [hz1] at this
        rw [this, hC]
        simp [Value.cells]
      obtain ⟨gd, hgd⟩ : ∃ gd : Prop, gd = ((0 ≤ no ∧ no < 8) ∧ N = 480 ∧ lsn < 1) := ⟨_, rfl⟩
      have hpC := HP1.out.below HBC.out
      have HBW := hid (HB1.out.trans (HBC.out.mono HB1.out.size))
      have hbA : Below wc.heap.size wc (wc.drew.alloc (.cells C 5)) := (Below.refl _ wc).drew.alloc (Nat.le_refl _) _
      have HPU : Hid (Calls Tryz.prog 6 #[.pointer (some ⟨P, 0, none⟩), .agg #[.int .i64 no, .int .u64 lsn, .slice (some ⟨wc.heap.size, 0, none⟩) N N]] (wc.drew.alloc (.cells C 5)) fun e w' => e = .returned (.int .i64 (if (0 ≤ no ∧ no < 8) ∧ N = 480 ∧ lsn < 1 then 0 else 1)) ∧ OwI w' O F L P ∧ (NoneSt w' w.heap.size O P F L g 2 B ∨ HeldSt w' w.heap.size O P F L g 2 B no) ∧ Below w.heap.size (wc.drew.alloc (.cells C 5)) w') :=
        put_all (w := wc.drew.alloc (.cells C 5)) ⟨hOC.below hbA, hpC.below hbA⟩ HG.out hs0 hNl (by rw [hC]; exact own_mono (bs_made wc.drew N (by omega)) (Nat.zero_le _))
      have HC2 := hid (fun wx (hb : Below wc.heap.size wc wx) => (hOC.below hb).cells.2.2)
      have S1 := HC2.out _ (Below.refl _ wc).drew
      have S1a := fun o => HC2.out (wc.drew.alloc o) ((Below.refl _ wc).drew.alloc (Nat.le_refl _) _)
      have HBA := hid (HBW.out.trans (hbA.mono HBW.out.size))
      obtain ⟨PF, hPF⟩ : ∃ PF : Int, PF = if (0 ≤ no ∧ no < 8) ∧ N = 480 ∧ lsn < 1 then 0 else 1 := ⟨_, rfl⟩
      rw [← hPF] at HPU
      have HPF := hid hPF
      clear hPF hgd gd hC hi hz0 hz1 hz2 hpC hOC hbA c1 c2 c3 HE HPV
      go_cut [16] from 72 to 81 (fun v wx => v = .int .i64 PF ∧ OwI wx O F L P ∧ (NoneSt wx w.heap.size O P F L g 2 B ∨ HeldSt wx w.heap.size O P F L g 2 B no) ∧ Below w.heap.size w wx)
      case first =>
        go_region_held (fun w' => w'.cell? ⟨O, 3, none⟩ = some (.pointer (some ⟨P, 0, none⟩))) (first | exact S1 | exact S1a _ | exact S4) (first
          | (go_at_call 6; refine HPU.out.mono ?_; rintro e w4 ⟨rfl, hO4, hs4, hb4⟩; have S4 := hO4.cells.2.2; have HX4 := hid (And.intro hO4 (And.intro hs4 (HBA.out.trans hb4))); clear hO4 hs4 hb4 HPU))
        all_goals
          go_wp2
          go_meet
          exact ⟨rfl, HX4.out⟩
      case rest =>
        obtain ⟨rfl, hO4, hs4, hb4⟩ := hcut
        have HGE := hid (get_all hs4 HG.out)
        obtain ⟨c1, c2, c3⟩ := hO4.cells
        have HB4 := hid hb4
        obtain ⟨IN, hIN⟩ : ∃ IN : Int, IN = if 0 ≤ no ∧ no < 8 then 0 else 1 := ⟨_, rfl⟩
        rw [← hIN] at HGE
        have HIN := hid hIN
        clear hO4 hs4 hb4 hIN S1 S1a HC2 HPU
        go_upto_region 11 with fail
        go_cut [17] from 82 to 95 (fun v wx => v = .bool (PF == 0) ∧ wx = wc)
        case first =>
          have hPF := HPF.out
          by_cases h1 : 0 ≤ no
          · by_cases h2 : no < 8
            · by_cases h3 : N = 480
              · subst h3
                by_cases h4 : lsn < 1
                · rw [if_pos ⟨⟨h1, h2⟩, rfl, h4⟩] at hPF
                  subst hPF
                  go_wp2
                  go_meet
                  exact ⟨rfl, rfl⟩
                · rw [if_neg (by omega)] at hPF
                  subst hPF
                  go_wp2
                  go_meet
                  exact ⟨rfl, rfl⟩
              · rw [if_neg (by omega)] at hPF
                subst hPF
                have h5 : ¬ (N : Int) = 480 := by omega
                go_wp2
                go_meet
                exact ⟨rfl, rfl⟩
            · rw [if_neg (by omega)] at hPF
              subst hPF
              go_wp2
              go_meet
              exact ⟨rfl, rfl⟩
          · rw [if_neg (by omega)] at hPF
            subst hPF
            go_wp2
            go_meet
            exact ⟨rfl, rfl⟩
        case rest =>
          obtain ⟨rfl, rfl⟩ := hcut
          have HEV := hid (fun (wx : World) hs => (evict_all (w := wx) (base := w.heap.size) (O := O) (P := P) (F := F) (L := L) (g := g) (k := 2) (B := B) (no := no) hs HG.out))
          rw [← HIN.out] at HEV
          go_upto_region 14 with (first
            | (go_at_call 7; refine HGE.out.mono ?_; rintro e w5 ⟨x5, y5, a5, n5, k5, rfl, hO5, hs5, hb5⟩; obtain ⟨w6, hw6⟩ : ∃ w6, w5.alloc (.cells #[.int .i64 0, .int .u64 0, .slice none 0 0] 40) = w6 := ⟨_, rfl⟩; obtain ⟨V, hV⟩ : ∃ V, ((w6.setCell ⟨w5.heap.size, 0, none⟩ (.int .i64 x5)).setCell ⟨w5.heap.size, 1, none⟩ (.int .u64 y5)).setCell ⟨w5.heap.size, 2, none⟩ (.slice a5 n5 k5) = V := ⟨_, rfl⟩; obtain ⟨hbV, hBV, hb6⟩ := box3 hw6 hV; obtain ⟨d0, d1, d2, f0, f1, f2⟩ := box_cells hb6; obtain ⟨e1, e2, e3⟩ := (hO5.below hBV).cells; have HE5 := hid (HEV.out V (st_below hs5 hBV)); have HBV := hid (HB4.out.trans (hb5.trans (hBV.mono (by have := HB4.out.size; have := hb5.size; omega)))); clear hO5 hs5 hb5 hbV hBV hb6 HGE c1 c2 c3)
            | (go_at_call 8; refine HE5.out.mono ?_; rintro e w7 ⟨rfl, hb7⟩; have HB7 := hid (HBV.out.trans hb7); clear hb7 HE5 HEV e1 e2 e3 d0 d1 d2 f0 f1 f2))
          go_cut [21] from 111 to 116 (fun v wx => v = .bool (IN == 0) ∧ wx = w7)
          case first =>
            have hIN := HIN.out
            by_cases h1 : 0 ≤ no
            · by_cases h2 : no < 8
              · rw [if_pos ⟨h1, h2⟩] at hIN
                subst hIN
                go_wp2
                go_meet
                exact ⟨rfl, rfl⟩
              · rw [if_neg (by omega)] at hIN
                subst hIN
                go_wp2
                go_meet
                exact ⟨rfl, rfl⟩
            · rw [if_neg (by omega)] at hIN
              subst hIN
              go_wp2
              go_meet
              exact ⟨rfl, rfl⟩
          case rest =>
            obtain ⟨rfl, rfl⟩ := hcut
            have HAW := hid (poawake_any wc (tab_kd HT.out hg HB7.out))
            have hPF : PF = 0 ∨ PF = 1 := by rw [HPF.out]; split <;> simp
            have hIN : IN = 0 ∨ IN = 1 := by rw [HIN.out]; split <;> simp
            clear HPF HIN
            rcases hPF with rfl | rfl <;> rcases hIN with rfl | rfl
            all_goals
              go_wp2_with (go_at_call 9; refine HAW.out.mono ?_; rintro e w8 ⟨rfl, hb8⟩; have HB8 := hid hb8; clear hb8 HAW)
              go_ret
              exact ⟨rfl, HB7.out.trans (HB8.out.mono HB7.out.size)⟩
end Go.Proofs.YtkbnjniglngjgaaGreatDoor
