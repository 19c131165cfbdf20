/-
  LogRounds: the walk.
-/
import Derived.Test.YthhlbhnogcfnjaaDoorLRMem
import Derived.Test.YthhlbhnogcfnjaaDoorWAwake
import Derived.Test.YthhlbhnogcfnjaaDoorMB
import Derived.Deep.RegionHeld3
namespace Go.Proofs.YthhlbhnogcfnjaaDoor
open Go.RowKit Go.Shelf

theorem and255 (n : Int) : bits .and .i64 n 255 = (((n % 256).toNat : Nat) : Int) := by
  have h31 : (BitVec.ofInt 64 255).toNat = 2 ^ 8 - 1 := by decide
  have key : (BitVec.ofInt 64 n &&& BitVec.ofInt 64 255).toNat = (n % ((2 ^ 64 : Nat) : Int)).toNat % 2 ^ 8 := by
    rw [BitVec.toNat_and, BitVec.toNat_ofInt, h31, Nat.and_two_pow_sub_one_eq_mod]
  show IntKind.i64.wrap ((BitVec.ofInt 64 n &&& BitVec.ofInt 64 255).toNat : Nat) = _
  rw [key, IntKind.wrap_i64]
  omega
theorem and3 (n : Int) : bits .and .i64 n 3 = (((n % 4).toNat : Nat) : Int) := by
  have h31 : (BitVec.ofInt 64 3).toNat = 2 ^ 2 - 1 := by decide
  have key : (BitVec.ofInt 64 n &&& BitVec.ofInt 64 3).toNat = (n % ((2 ^ 64 : Nat) : Int)).toNat % 2 ^ 2 := by
    rw [BitVec.toNat_and, BitVec.toNat_ofInt, h31, Nat.and_two_pow_sub_one_eq_mod]
  show IntKind.i64.wrap ((BitVec.ofInt 64 n &&& BitVec.ofInt 64 3).toNat : Nat) = _
  rw [key, IntKind.wrap_i64]
  omega
theorem and7 (n : Int) : bits .and .i64 n 7 = (((n % 8).toNat : Nat) : Int) := by
  have h31 : (BitVec.ofInt 64 7).toNat = 2 ^ 3 - 1 := by decide
  have key : (BitVec.ofInt 64 n &&& BitVec.ofInt 64 7).toNat = (n % ((2 ^ 64 : Nat) : Int)).toNat % 2 ^ 3 := by
    rw [BitVec.toNat_and, BitVec.toNat_ofInt, h31, Nat.and_two_pow_sub_one_eq_mod]
  show IntKind.i64.wrap ((BitVec.ofInt 64 n &&& BitVec.ofInt 64 7).toNat : Nat) = _
  rw [key, IntKind.wrap_i64]
  omega

/-- Where the Log's first record is, and what lasts, behind j records, cut at each E-th. -/
structure LrB (E j c i0 : Nat) : Prop where
  c1 : 1 ≤ c
  ci : c ≤ max 1 j
  oo : i0 ≤ j
  m0 : j / E * E ≤ i0
  mc : j / E * E ≤ c
theorem div_top {E j : Nat} (hE : 1 ≤ E ∧ E ≤ 4) : j < j / E * E + E := by
  obtain ⟨h1, h2⟩ := hE
  rcases (show E = 1 ∨ E = 2 ∨ E = 3 ∨ E = 4 by omega) with rfl | rfl | rfl | rfl <;> omega
theorem LrB.start (E : Nat) : LrB E 0 1 0 := ⟨by omega, by omega, by omega, by simp, by simp⟩
theorem LrB.num {E j c i0 T : Nat} (h : LrB E j c i0) (hE : 1 ≤ E ∧ E ≤ 4) (hT : T ≤ 255) (hj : j ≤ 60) : LrN T c j i0 := by
  have h1 := h.c1; have h2 := h.ci; have h3 := h.oo; have h4 := h.m0; have h5 := h.mc; have h6 := div_top (j := j) hE
  exact ⟨hT, hj, h1, by omega, h3, by omega, by omega⟩
theorem LrB.num1 {E j c i0 T : Nat} (h : LrB E j c i0) (hE : 1 ≤ E ∧ E ≤ 4) (hT : T ≤ 255) (hj : j + 1 ≤ 60) : LrN T c (j + 1) i0 := by
  have h1 := h.c1; have h2 := h.ci; have h3 := h.oo; have h4 := h.m0; have h5 := h.mc; have h6 := div_top (j := j) hE
  exact ⟨hT, hj, h1, by omega, by omega, by omega, by omega⟩
theorem LrB.no {E j c i0 : Nat} (h : LrB E j c i0) (hE : 1 ≤ E ∧ E ≤ 4) (hm : ¬ (j + 1) % E = 0) : LrB E (j + 1) c i0 := by
  have e : (j + 1) / E * E = j / E * E := by
    obtain ⟨h1, h2⟩ := hE
    rcases (show E = 1 ∨ E = 2 ∨ E = 3 ∨ E = 4 by omega) with rfl | rfl | rfl | rfl <;> omega
  exact ⟨h.c1, by have := h.ci; omega, by have := h.oo; omega, by rw [e]; exact h.m0, by rw [e]; exact h.mc⟩
theorem LrB.yes {E j : Nat} : LrB E (j + 1) (j + 1) (j + 1) :=
  ⟨by omega, by omega, Nat.le_refl _, Nat.div_mul_le_self _ _, Nat.div_mul_le_self _ _⟩
theorem LrB.all {E j c i0 : Nat} (h : LrB E j c i0) : LrB E j c j := ⟨h.c1, h.ci, Nat.le_refl _, Nat.div_mul_le_self _ _, h.mc⟩

theorem rec_argR {w w' : World} {g T j : Nat} (h : w'.ownsRow w.heap.size 5 1 (.slice (some ⟨g, 0, none⟩) T T) T (secV (recL j T))) (hT : T ≤ 255) : ArgBs w.heap.size w' (.slice (some ⟨g, 0, none⟩) T T) (recL j T) := by
  refine ⟨bs_of_own h (recL_by _ _) (by rw [recL_len]; omega), fun b e => ?_⟩
  obtain ⟨c, hc⟩ := own_heap h e
  exact ⟨own_base h b e, lt_of_heap hc⟩
theorem StrRow.lastR {W : World} {base : Nat} {ao : Option Addr} {cap m T c k : Nat} (h : StrRow W base (.slice ao m cap) (rcs T c m)) (hm : m = k + 1) : ∃ g, ao = some ⟨g, 0, none⟩ ∧ W.cell? ⟨g, k, none⟩ = some (.string (strOfNums (recL (c + k) T))) := by
  rcases h.2 with ⟨e, h0⟩ | ⟨g, cap', cur, e, _⟩
  · injection e with _ e2 _
    omega
  · injection e with e1 _ _
    subst e1
    refine ⟨g, rfl, ?_⟩
    have h' : W.ownsRow base 9 1 (.slice (some ⟨g, 0, none⟩) m cap) m ((rcs T c m).map fun r => Value.string (strOfNums r)) := by
      have := h
      unfold StrRow at this
      rwa [rcs_len] at this
    have h2 := h'.cellAt k (by omega)
    rw [List.getElem?_map] at h2
    have h3 : (rcs T c m)[k]? = some (recL (c + k) T) := by simp [rcs, hm]
    rw [h3] at h2
    exact h2
/-- What is told of a Log whose last record is the number i, and what its last string and Next are then. -/
theorem LrI.tellR {w W : World} {T c i i0 L B N : Nat} (h : LrI w T c i i0 L B N W) (_hn : LrN T c i i0) (hci : c ≤ i) :
    Calls Tryd.prog 12 #[.pointer (some ⟨L, 0, none⟩)] W fun e w' => ∃ g cap m k, e = .returned (.tuple #[.slice (some ⟨g, 0, none⟩) m cap, .bool true]) ∧ Hid (m = i + 1 - c ∧ k = i - c) ∧ Hid (LrI w T c i i0 L B N w') ∧ w'.cell? ⟨g, k, none⟩ = some (.string (strOfNums (recL i T))) ∧
      Hid (∀ V, Below w'.heap.size w' V → Calls Tryd.prog 13 #[.pointer (some ⟨L, 0, none⟩)] V fun e V' => e = .returned (.int .u64 ((i + 1 : Nat) : Int)) ∧ ∃ q, V' = V.drewN q) := by
  refine h.tell.mono ?_
  rintro e w' ⟨ao, cap, rfl, hS, hI⟩
  obtain ⟨g, rfl, hc⟩ := hS.lastR (k := i - c) (by omega)
  rw [show c + (i - c) = i by omega] at hc
  refine ⟨g, cap, _, _, rfl, ⟨rfl, rfl⟩, hI, hc, fun V hV => ?_⟩
  obtain ⟨d, hl, _⟩ := hI.log
  have := lnext_any (hl.below hV)
  rwa [lgR_recs, show (lgR T c i i0).first + (i + 1 - c) = i + 1 by show c + (i + 1 - c) = i + 1; omega] at this
theorem LrI.firstR {w W : World} {T c i i0 L B N : Nat} (h : LrI w T c i i0 L B N W) : Calls Tryd.prog 9 #[.pointer (some ⟨L, 0, none⟩)] W fun e w' => e = .returned (.int .u64 (c : Int)) ∧ w' = W := by
  obtain ⟨d, hl, _⟩ := h.log
  exact lfirst_any hl

set_option maxRecDepth 100000 in
set_option maxHeartbeats 8000000 in
theorem logRounds_core (w : World) (T E C : Nat) (lo ea cr : Int) (hlo : bits .and .i64 lo 255 = (T : Int)) (hea : bits .and .i64 ea 3 = ((E - 1 : Nat) : Int)) (hcr : bits .and .i64 cr 7 = ((C - 2 : Nat) : Int)) (hT : T ≤ 255) (hE : 1 ≤ E ∧ E ≤ 4) (hC : 2 ≤ C ∧ C ≤ 9) (HT : Hid (TabOk w)) :
    Calls Tryd.prog 3 #[.int .i64 lo, .int .i64 ea, .int .i64 cr] w fun e w' => e = .returned (.bool true) ∧ Below w.heap.size w w' := by
  have HNW := hid (new_any 64 w (by omega))
  have hg := HT.out.lt
  have hsame := conv_same
  have hE1 : ((E - 1 : Nat) : Int) + 1 = (E : Int) := by omega
  have hC2 : ((C - 2 : Nat) : Int) + 2 = (C : Int) := by omega
  have hwE : IntKind.i64.wrap (((E - 1 : Nat) : Int) + 1) = (E : Int) := by rw [IntKind.wrap_i64]; omega
  have hwC : IntKind.i64.wrap (((C - 2 : Nat) : Int) + 2) = (C : Int) := by rw [IntKind.wrap_i64]; omega
  generalize ((E - 1 : Nat) : Int) = E1 at hea hE1 hwE
  generalize ((C - 2 : Nat) : Int) = C2 at hcr hC2 hwC
  clear hE1 hC2
  go_enter Tryd.func3, Tryd.ntmps3
  go_wp2_with (first
    | (go_at_call 4; refine HNW.out.mono ?_; rintro e w1 ⟨B, rfl, hd1, hb1⟩; have HO := hid (lopen_new (at' := 0) (sc := 40) hd1 (by omega) (HT.out.below hb1 (Nat.le_refl _)) hg); have HB1 := hid hb1; clear HNW hd1 hb1)
    | (go_at_call 5; refine HO.out.mono ?_; rintro e w2 ⟨L0, rfl, hl2, hk2, hLs⟩; have HI0 := hid (LrI.start (T := T) hl2 (HB1.out.trans hk2.below)); clear HO hl2 hk2 hLs HB1))
  go_loopw [9, 11, 12, 13, 14, 15] (fun lv iv _ _ _ _ wr => ∃ i L c i0 : Nat, 1 ≤ i ∧ i ≤ 61 ∧ lv = .pointer (some ⟨L, 0, none⟩) ∧ iv = .int .i64 (i : Int) ∧ Hid (LrB E (i - 1) c i0) ∧ Hid (LrI w T c (i - 1) i0 L B (100 * (i - 1)) wr)) (fun _ iv _ _ _ _ _ => 61 - (intOf iv).toNat)
  case atStart => exact ⟨1, L0, 1, 0, by omega, by omega, rfl, rfl, LrB.start E, HI0.out⟩
  case round =>
    obtain ⟨i, L, c, i0, hi1, hi2, rfl, rfl, HB, HI⟩ := hrel
    clear HI0
    by_cases hlt : i ≤ 60
    · have hltI : (i : Int) ≤ 60 := by omega
      have hiw : IntKind.u64.wrap (i : Int) = (i : Int) := PlainAid.u64_nonneg (by omega) (by omega)
      have hi1w : IntKind.i64.wrap ((i : Int) + 1) = (i : Int) + 1 := by rw [IntKind.wrap_i64]; omega
      have hi1u : IntKind.u64.wrap ((i : Int) + 1) = (i : Int) + 1 := PlainAid.u64_nonneg (by omega) (by omega)
      have hEn : ¬ (E : Int) = 0 := by omega
      have hEb : ((E : Int) == 0) = false := by simp; omega
      have hCn : ¬ (C : Int) = 0 := by omega
      have hCb : ((C : Int) == 0) = false := by simp; omega
      have hwE1 : IntKind.i64.wrap ((E : Int) + 1) = (E : Int) + 1 := by rw [IntKind.wrap_i64]; omega
      have hmE : Int.tmod (i : Int) (E : Int) = ((i % E : Nat) : Int) := rfl
      have hmC : Int.tmod (i : Int) (C : Int) = ((i % C : Nat) : Int) := rfl
      have hji : i - 1 + 1 = i := by omega
      obtain ⟨rE, hrE⟩ : ∃ rE, i % E = rE := ⟨_, rfl⟩
      obtain ⟨rC, hrC⟩ : ∃ rC, i % C = rC := ⟨_, rfl⟩
      rw [hrE] at hmE
      rw [hrC] at hmC
      have HRE := hid hrE
      have HRC := hid (rec_any i T wr (by omega) (by omega))
      have HAP : Hid (∀ w3 g3, w3.ownsRow wr.heap.size 5 1 (.slice (some ⟨g3, 0, none⟩) T T) T (secV (recL i T)) → Below wr.heap.size wr w3 → Calls Tryd.prog 6 #[.pointer (some ⟨L, 0, none⟩), .slice (some ⟨g3, 0, none⟩) T T] w3 fun e w' => e = .returned (.tuple #[.int .u64 (i : Int), .int .i64 0]) ∧ LrI w T c i i0 L B (100 * (i - 1)) w') := fun w3 g3 hown hb3 => by
        have := HI.out.app (HB.out.num hE hT (by omega)) (HB.out.num1 hE hT (by omega)) HT.out hb3 (v := .slice (some ⟨g3, 0, none⟩) T T) (by rw [hji]; exact rec_argR hown hT)
        rwa [hji] at this
      obtain ⟨S, hS⟩ : ∃ S, strOfNums (recL i T) = S := ⟨_, rfl⟩
      have HSS := hid hS
      have HJI := hid hji
      clear hrE hrC hS hji
      by_cases hE0 : rE = 0
      · have hE0b : ((rE : Int) == 0) = true := by simp; omega
        by_cases hC0 : rC = 0
        · have hC0b : ((rC : Int) == 0) = true := by simp; omega
          have HBN : Hid (LrB E i i i) := (by have h := LrB.yes (E := E) (j := i - 1); rwa [HJI.out] at h)
          have HN1 : Hid (LrN T c i i0) := (by have h := HB.out.num1 hE hT (by omega); rwa [HJI.out] at h)
          have HN2 := hid (HBN.out.num (T := T) hE hT hlt)
          have HN3 := hid (HBN.out.all.num (T := T) hE hT hlt)
          have HCI : Hid (i ≤ i) := (by have := HBN.out.ci; rw [Hid]; omega)
          go_upto_region 27 with (first
            | (go_at_call 7; refine HRC.out.mono ?_; rintro e w3 ⟨g3, rfl, hown, hb3⟩; have HAQ := hid (HAP.out w3 g3 hown hb3); clear HRC HAP hown hb3)
            | (go_at_call 6; refine HAQ.out.mono ?_; rintro e w4 ⟨rfl, hI4⟩; have HCU := hid (hI4.cut HN1.out (by have := HB.out.ci; have := HJI.out; omega) (by omega) HT.out); clear HAQ hI4)
            | (go_at_call 8; refine HCU.out.mono ?_; rintro e w5 ⟨rfl, hI5⟩; have HI5 := hid hI5; have HFS := hid hI5.firstR; clear HCU hI5)
            | (go_at_call 9; refine HFS.out.mono ?_; rintro e w6 ⟨rfl, hw6⟩; have hw6' := hw6.symm; clear hw6 HFS; subst hw6'; have HIc := hid (HI5.out.more (N' := 100 * (i - 1) + 41) (by omega)); have HFL := hid (HIc.out.flush HN2.out (by omega) HT.out); clear HI5)
            | (go_at_call 10; refine HFL.out.mono ?_; rintro e w7 ⟨rfl, hI7⟩; have HCR := hid hI7.crash; clear HFL hI7)
            | (go_at_call 11; refine HCR.out.mono ?_; rintro e w8 ⟨⟨v8, rfl⟩, hC8⟩; have HOP := hid (hC8.open HN3.out HCI.out HT.out); clear HCR hC8)
            | (go_at_call 5; refine HOP.out.mono ?_; rintro e w9 ⟨L9, rfl, hI9⟩; have HTL := hid (hI9.tellR HN3.out HCI.out); clear HOP hI9)
            | (go_at_call 12; refine HTL.out.mono ?_; rintro e wT ⟨gT, cT, m, k, rfl, HMK, HIT, hcT, HNT⟩; clear HTL))
          have hmk : m = k + 1 := by have := HCI.out; have := HMK.out; omega
          have hmb : m ≤ E := (by have := HBN.out.mc; have := div_top (j := i) hE; have := HMK.out; omega)
          rw [HSS.out] at hcT
          have hm0 : ¬ (m : Int) = 0 := by omega
          have hm0b : ((m : Int) == 0) = false := by simp; omega
          have hmE' : ¬ ((E : Int) + 1 < (m : Int)) := by omega
          have hmEd : decide ((E : Int) + 1 < (m : Int)) = false := by simp; omega
          have hmw : IntKind.i64.wrap ((m : Int) - 1) = (k : Int) := by rw [IntKind.wrap_i64]; omega
          have hkm : (k : Int) < (m : Int) := by omega
          have hcd : wT.drew.cell? ⟨gT, k, none⟩ = some (.string S) := hcT
          have HR2 := hid (rec_any i T wT.drew (by omega) (by omega))
          have hgT : gT < wT.heap.size := lt_of_cell hcT
          clear hmk
          go_region_held (fun w' => w'.cell? ⟨gT, k, none⟩ = some (.string S)) (first | exact hcd | exact HCN.out | exact HCK.out) (first
            | (go_at_call 7; refine HR2.out.mono ?_; rintro e w10 ⟨g10, rfl, hown, hb10⟩; have HB10 := hid (show Below wT.heap.size wT w10 from (Below.refl _ wT).drew.trans hb10); have HCK := hid (show w10.cell? ⟨gT, k, none⟩ = some (.string S) from (HB10.out.cell (p := ⟨gT, k, none⟩) hgT).trans hcT); have hcv : (convert 32 9 (.slice (some ⟨g10, 0, none⟩) T T)).run Tryd.prog w10 = .ok (.string S) w10 := (by rw [← HSS.out]; exact (bs_of_own hown (recL_by _ _) (by rw [recL_len]; omega)).conv); have HNY := hid (HNT.out w10 HB10.out); clear hown hb10 HR2)
            | (go_at_call 13; refine HNY.out.mono ?_; rintro e w11 ⟨rfl, hq⟩; have HB11 : Hid (Below wT.heap.size wT w11) := (by obtain ⟨qd, rfl⟩ := hq; exact below_drewN HB10.out qd); have HCN := hid (show w11.cell? ⟨gT, k, none⟩ = some (.string S) from (HB11.out.cell (p := ⟨gT, k, none⟩) hgT).trans hcT); clear hq HNY))
          all_goals
            go_wp2
            go_roundw
            case rel => exact ⟨i + 1, L9, i, i, by omega, by omega, rfl, by go_num, HBN.out.all, (HIT.out.keep HB11.out).more (by omega)⟩
            case measure => simp [intOf]; omega
        · have hC0b : ((rC : Int) == 0) = false := by simp; omega
          have HBN : Hid (LrB E i i i) := (by have h := LrB.yes (E := E) (j := i - 1); rwa [HJI.out] at h)
          have HN1 : Hid (LrN T c i i0) := (by have h := HB.out.num1 hE hT (by omega); rwa [HJI.out] at h)
          have HN2 := hid (HBN.out.num (T := T) hE hT hlt)
          have HCI : Hid (i ≤ i) := (by have := HBN.out.ci; rw [Hid]; omega)
          go_upto_region 27 with (first
            | (go_at_call 7; refine HRC.out.mono ?_; rintro e w3 ⟨g3, rfl, hown, hb3⟩; have HAQ := hid (HAP.out w3 g3 hown hb3); clear HRC HAP hown hb3)
            | (go_at_call 6; refine HAQ.out.mono ?_; rintro e w4 ⟨rfl, hI4⟩; have HCU := hid (hI4.cut HN1.out (by have := HB.out.ci; have := HJI.out; omega) (by omega) HT.out); clear HAQ hI4)
            | (go_at_call 8; refine HCU.out.mono ?_; rintro e w5 ⟨rfl, hI5⟩; have HI5 := hid hI5; have HFS := hid hI5.firstR; clear HCU hI5)
            | (go_at_call 9; refine HFS.out.mono ?_; rintro e w6 ⟨rfl, hw6⟩; have hw6' := hw6.symm; clear hw6 HFS; subst hw6'; have HIc := hid (HI5.out.more (N' := 100 * (i - 1) + 41) (by omega)); have HTL := hid (HIc.out.tellR HN2.out HCI.out); clear HI5)
            | (go_at_call 12; refine HTL.out.mono ?_; rintro e wT ⟨gT, cT, m, k, rfl, HMK, HIT, hcT, HNT⟩; clear HTL))
          have hmk : m = k + 1 := by have := HCI.out; have := HMK.out; omega
          have hmb : m ≤ E := (by have := HBN.out.mc; have := div_top (j := i) hE; have := HMK.out; omega)
          rw [HSS.out] at hcT
          have hm0 : ¬ (m : Int) = 0 := by omega
          have hm0b : ((m : Int) == 0) = false := by simp; omega
          have hmE' : ¬ ((E : Int) + 1 < (m : Int)) := by omega
          have hmEd : decide ((E : Int) + 1 < (m : Int)) = false := by simp; omega
          have hmw : IntKind.i64.wrap ((m : Int) - 1) = (k : Int) := by rw [IntKind.wrap_i64]; omega
          have hkm : (k : Int) < (m : Int) := by omega
          have hcd : wT.drew.cell? ⟨gT, k, none⟩ = some (.string S) := hcT
          have HR2 := hid (rec_any i T wT.drew (by omega) (by omega))
          have hgT : gT < wT.heap.size := lt_of_cell hcT
          clear hmk
          go_region_held (fun w' => w'.cell? ⟨gT, k, none⟩ = some (.string S)) (first | exact hcd | exact HCN.out | exact HCK.out) (first
            | (go_at_call 7; refine HR2.out.mono ?_; rintro e w10 ⟨g10, rfl, hown, hb10⟩; have HB10 := hid (show Below wT.heap.size wT w10 from (Below.refl _ wT).drew.trans hb10); have HCK := hid (show w10.cell? ⟨gT, k, none⟩ = some (.string S) from (HB10.out.cell (p := ⟨gT, k, none⟩) hgT).trans hcT); have hcv : (convert 32 9 (.slice (some ⟨g10, 0, none⟩) T T)).run Tryd.prog w10 = .ok (.string S) w10 := (by rw [← HSS.out]; exact (bs_of_own hown (recL_by _ _) (by rw [recL_len]; omega)).conv); have HNY := hid (HNT.out w10 HB10.out); clear hown hb10 HR2)
            | (go_at_call 13; refine HNY.out.mono ?_; rintro e w11 ⟨rfl, hq⟩; have HB11 : Hid (Below wT.heap.size wT w11) := (by obtain ⟨qd, rfl⟩ := hq; exact below_drewN HB10.out qd); have HCN := hid (show w11.cell? ⟨gT, k, none⟩ = some (.string S) from (HB11.out.cell (p := ⟨gT, k, none⟩) hgT).trans hcT); clear hq HNY))
          all_goals
            go_wp2
            go_roundw
            case rel => exact ⟨i + 1, L, i, i, by omega, by omega, rfl, by go_num, HBN.out, (HIT.out.keep HB11.out).more (by omega)⟩
            case measure => simp [intOf]; omega
      · have hE0b : ((rE : Int) == 0) = false := by simp; omega
        by_cases hC0 : rC = 0
        · have hC0b : ((rC : Int) == 0) = true := by simp; omega
          have HBN : Hid (LrB E i c i0) := (by have h := HB.out.no hE (by rw [HJI.out, HRE.out]; omega); rwa [HJI.out] at h)
          have HN1 : Hid (LrN T c i i0) := (by have h := HB.out.num1 hE hT (by omega); rwa [HJI.out] at h)
          have HN2 := hid (HBN.out.num (T := T) hE hT hlt)
          have HN3 := hid (HBN.out.all.num (T := T) hE hT hlt)
          have HCI : Hid (c ≤ i) := (by have := HBN.out.ci; rw [Hid]; omega)
          go_upto_region 27 with (first
            | (go_at_call 7; refine HRC.out.mono ?_; rintro e w3 ⟨g3, rfl, hown, hb3⟩; have HAQ := hid (HAP.out w3 g3 hown hb3); clear HRC HAP hown hb3)
            | (go_at_call 6; refine HAQ.out.mono ?_; rintro e w4 ⟨rfl, hI4⟩; have HIc := hid (hI4.more (N' := 100 * (i - 1) + 41) (by omega)); have HFL := hid (HIc.out.flush HN2.out (by omega) HT.out); clear HAQ hI4)
            | (go_at_call 10; refine HFL.out.mono ?_; rintro e w7 ⟨rfl, hI7⟩; have HCR := hid hI7.crash; clear HFL hI7)
            | (go_at_call 11; refine HCR.out.mono ?_; rintro e w8 ⟨⟨v8, rfl⟩, hC8⟩; have HOP := hid (hC8.open HN3.out HCI.out HT.out); clear HCR hC8)
            | (go_at_call 5; refine HOP.out.mono ?_; rintro e w9 ⟨L9, rfl, hI9⟩; have HTL := hid (hI9.tellR HN3.out HCI.out); clear HOP hI9)
            | (go_at_call 12; refine HTL.out.mono ?_; rintro e wT ⟨gT, cT, m, k, rfl, HMK, HIT, hcT, HNT⟩; clear HTL))
          have hmk : m = k + 1 := by have := HCI.out; have := HMK.out; omega
          have hmb : m ≤ E := (by have := HBN.out.mc; have := div_top (j := i) hE; have := HMK.out; omega)
          rw [HSS.out] at hcT
          have hm0 : ¬ (m : Int) = 0 := by omega
          have hm0b : ((m : Int) == 0) = false := by simp; omega
          have hmE' : ¬ ((E : Int) + 1 < (m : Int)) := by omega
          have hmEd : decide ((E : Int) + 1 < (m : Int)) = false := by simp; omega
          have hmw : IntKind.i64.wrap ((m : Int) - 1) = (k : Int) := by rw [IntKind.wrap_i64]; omega
          have hkm : (k : Int) < (m : Int) := by omega
          have hcd : wT.drew.cell? ⟨gT, k, none⟩ = some (.string S) := hcT
          have HR2 := hid (rec_any i T wT.drew (by omega) (by omega))
          have hgT : gT < wT.heap.size := lt_of_cell hcT
          clear hmk
          go_region_held (fun w' => w'.cell? ⟨gT, k, none⟩ = some (.string S)) (first | exact hcd | exact HCN.out | exact HCK.out) (first
            | (go_at_call 7; refine HR2.out.mono ?_; rintro e w10 ⟨g10, rfl, hown, hb10⟩; have HB10 := hid (show Below wT.heap.size wT w10 from (Below.refl _ wT).drew.trans hb10); have HCK := hid (show w10.cell? ⟨gT, k, none⟩ = some (.string S) from (HB10.out.cell (p := ⟨gT, k, none⟩) hgT).trans hcT); have hcv : (convert 32 9 (.slice (some ⟨g10, 0, none⟩) T T)).run Tryd.prog w10 = .ok (.string S) w10 := (by rw [← HSS.out]; exact (bs_of_own hown (recL_by _ _) (by rw [recL_len]; omega)).conv); have HNY := hid (HNT.out w10 HB10.out); clear hown hb10 HR2)
            | (go_at_call 13; refine HNY.out.mono ?_; rintro e w11 ⟨rfl, hq⟩; have HB11 : Hid (Below wT.heap.size wT w11) := (by obtain ⟨qd, rfl⟩ := hq; exact below_drewN HB10.out qd); have HCN := hid (show w11.cell? ⟨gT, k, none⟩ = some (.string S) from (HB11.out.cell (p := ⟨gT, k, none⟩) hgT).trans hcT); clear hq HNY))
          all_goals
            go_wp2
            go_roundw
            case rel => exact ⟨i + 1, L9, c, i, by omega, by omega, rfl, by go_num, HBN.out.all, (HIT.out.keep HB11.out).more (by omega)⟩
            case measure => simp [intOf]; omega
        · have hC0b : ((rC : Int) == 0) = false := by simp; omega
          have HBN : Hid (LrB E i c i0) := (by have h := HB.out.no hE (by rw [HJI.out, HRE.out]; omega); rwa [HJI.out] at h)
          have HN1 : Hid (LrN T c i i0) := (by have h := HB.out.num1 hE hT (by omega); rwa [HJI.out] at h)
          have HN2 := hid (HBN.out.num (T := T) hE hT hlt)
          have HCI : Hid (c ≤ i) := (by have := HBN.out.ci; rw [Hid]; omega)
          go_upto_region 27 with (first
            | (go_at_call 7; refine HRC.out.mono ?_; rintro e w3 ⟨g3, rfl, hown, hb3⟩; have HAQ := hid (HAP.out w3 g3 hown hb3); clear HRC HAP hown hb3)
            | (go_at_call 6; refine HAQ.out.mono ?_; rintro e w4 ⟨rfl, hI4⟩; have HIc := hid (hI4.more (N' := 100 * (i - 1) + 41) (by omega)); have HTL := hid (HIc.out.tellR HN2.out HCI.out); clear HAQ hI4)
            | (go_at_call 12; refine HTL.out.mono ?_; rintro e wT ⟨gT, cT, m, k, rfl, HMK, HIT, hcT, HNT⟩; clear HTL))
          have hmk : m = k + 1 := by have := HCI.out; have := HMK.out; omega
          have hmb : m ≤ E := (by have := HBN.out.mc; have := div_top (j := i) hE; have := HMK.out; omega)
          rw [HSS.out] at hcT
          have hm0 : ¬ (m : Int) = 0 := by omega
          have hm0b : ((m : Int) == 0) = false := by simp; omega
          have hmE' : ¬ ((E : Int) + 1 < (m : Int)) := by omega
          have hmEd : decide ((E : Int) + 1 < (m : Int)) = false := by simp; omega
          have hmw : IntKind.i64.wrap ((m : Int) - 1) = (k : Int) := by rw [IntKind.wrap_i64]; omega
          have hkm : (k : Int) < (m : Int) := by omega
          have hcd : wT.drew.cell? ⟨gT, k, none⟩ = some (.string S) := hcT
          have HR2 := hid (rec_any i T wT.drew (by omega) (by omega))
          have hgT : gT < wT.heap.size := lt_of_cell hcT
          clear hmk
          go_region_held (fun w' => w'.cell? ⟨gT, k, none⟩ = some (.string S)) (first | exact hcd | exact HCN.out | exact HCK.out) (first
            | (go_at_call 7; refine HR2.out.mono ?_; rintro e w10 ⟨g10, rfl, hown, hb10⟩; have HB10 := hid (show Below wT.heap.size wT w10 from (Below.refl _ wT).drew.trans hb10); have HCK := hid (show w10.cell? ⟨gT, k, none⟩ = some (.string S) from (HB10.out.cell (p := ⟨gT, k, none⟩) hgT).trans hcT); have hcv : (convert 32 9 (.slice (some ⟨g10, 0, none⟩) T T)).run Tryd.prog w10 = .ok (.string S) w10 := (by rw [← HSS.out]; exact (bs_of_own hown (recL_by _ _) (by rw [recL_len]; omega)).conv); have HNY := hid (HNT.out w10 HB10.out); clear hown hb10 HR2)
            | (go_at_call 13; refine HNY.out.mono ?_; rintro e w11 ⟨rfl, hq⟩; have HB11 : Hid (Below wT.heap.size wT w11) := (by obtain ⟨qd, rfl⟩ := hq; exact below_drewN HB10.out qd); have HCN := hid (show w11.cell? ⟨gT, k, none⟩ = some (.string S) from (HB11.out.cell (p := ⟨gT, k, none⟩) hgT).trans hcT); clear hq HNY))
          all_goals
            go_wp2
            go_roundw
            case rel => exact ⟨i + 1, L, c, i0, by omega, by omega, rfl, by go_num, HBN.out, (HIT.out.keep HB11.out).more (by omega)⟩
            case measure => simp [intOf]; omega
    · have hltI : ¬ ((i : Int) ≤ 60) := by omega
      have HAW := hid (lawake_any wr (HT.out.below HI.out.below (Nat.le_refl _)))
      have HBE := hid HI.out.below
      clear HI HB
      go_wp2_with (first
        | (go_at_call 14; refine HAW.out.mono ?_; rintro e wA ⟨rfl, hbA⟩; have HBA := hid (HBE.out.trans (hbA.mono HBE.out.size)); clear HAW hbA))
      go_ret
      exact ⟨rfl, HBA.out⟩
theorem logRounds_walk (w : World) (lo : Int) (_h0 : -9223372036854775808 ≤ lo) (_h1 : lo ≤ 9223372036854775807) (ea : Int) (_h2 : -9223372036854775808 ≤ ea) (_h3 : ea ≤ 9223372036854775807) (cr : Int) (_h4 : -9223372036854775808 ≤ cr) (_h5 : cr ≤ 9223372036854775807) (ht : TabOk w) :
    Calls Tryd.prog 3 #[.int .i64 lo, .int .i64 ea, .int .i64 cr] w fun e w' => e = .returned (.bool true) ∧ Below w.heap.size w w' :=
  logRounds_core w (lo % 256).toNat ((ea % 4).toNat + 1) ((cr % 8).toNat + 2) lo ea cr (and255 lo) (by rw [and3, Nat.add_sub_cancel]) (by rw [and7, Nat.add_sub_cancel]) (by omega) (by omega) (by omega) ht
end Go.Proofs.YthhlbhnogcfnjaaDoor
