/-
  SegGrids: how many points of a small grid are on both.
-/
import Derived.Test.YtepnjknblppfcaaMG
import Derived.Test.YtepnjknblppfcaaRLaw
import Derived.Deep.RegionLaw
import Derived.Deep.RegionHeld3
import Derived.Deep.CutRange
namespace Go.Proofs.Ytepnjknblppfcaa

def bothP (a b c d p : Pp) : Bool := on2 a b p && on2 c d p
def endP (a b c d p : Pp) : Bool := (eqp p a || eqp p b) && (eqp p c || eqp p d)
/-- How many of the first m. -/
def cnt (f : Nat → Bool) : Nat → Nat
  | 0 => 0
  | m + 1 => cnt f m + (f m).toNat
theorem cnt_le (f : Nat → Bool) : ∀ m, cnt f m ≤ m
  | 0 => Nat.le_refl _
  | m + 1 => by
    have := cnt_le f m
    unfold cnt
    cases f m <;> simp <;> omega
theorem cnt_zero {f : Nat → Bool} : ∀ {m : Nat}, (∀ i, i < m → f i = false) → cnt f m = 0
  | 0, _ => rfl
  | m + 1, h => by
    unfold cnt
    rw [cnt_zero (fun i hi => h i (by omega)), h m (by omega)]
    rfl
theorem cnt_mem {f : Nat → Bool} : ∀ {m i : Nat}, i < m → f i = true → 1 ≤ cnt f m
  | 0, i, h, _ => by omega
  | m + 1, i, h, hf => by
    unfold cnt
    by_cases e : i = m
    · subst e
      rw [hf]
      simp
    · have := cnt_mem (m := m) (i := i) (by omega) hf
      omega
theorem cnt_one {f : Nat → Bool} : ∀ {m : Nat}, (∀ i j, i < m → j < m → f i = true → f j = true → i = j) → cnt f m ≤ 1
  | 0, _ => Nat.zero_le _
  | m + 1, h => by
    unfold cnt
    cases hf : f m with
    | false =>
      have := cnt_one (m := m) (fun i j hi hj => h i j (by omega) (by omega))
      simp
      exact this
    | true =>
      rw [cnt_zero (fun i hi => ?_)]
      · simp
      · cases hi' : f i with
        | false => rfl
        | true =>
          have := h i m (by omega) (by omega) hi' hf
          omega
theorem cnt_two {f : Nat → Bool} : ∀ {m i j : Nat}, i < j → j < m → f i = true → f j = true → 2 ≤ cnt f m
  | 0, i, j, _, h, _, _ => by omega
  | m + 1, i, j, h, h', hi, hj => by
    unfold cnt
    by_cases e : j = m
    · subst e
      have := cnt_mem (m := j) h hi
      rw [hj]
      simp
      omega
    · have := cnt_two (m := m) h (by omega) hi hj
      omega

/-- The points of the grid, column by column. -/
def gpt (m : Nat) : Pp := (((m / 8 : Nat) : Int), ((m % 8 : Nat) : Int))
theorem gpt_inj {m k : Nat} (h : gpt m = gpt k) : m = k := by
  unfold gpt at h
  injection h with h1 h2
  omega
def InG (p : Pp) : Prop := 0 ≤ p.1 ∧ p.1 < 8 ∧ 0 ≤ p.2 ∧ p.2 < 8
theorem gpt_of {p : Pp} (h : InG p) : ∃ m, m < 64 ∧ gpt m = p := by
  obtain ⟨h1, h2, h3, h4⟩ := h
  refine ⟨p.1.toNat * 8 + p.2.toNat, by omega, ?_⟩
  unfold gpt
  exact Prod.ext (by dsimp only; omega) (by dsimp only; omega)

def GridSays (k : Int) (n e : Nat) : Prop := (k = 0 ∧ n = 0) ∨ (k = 1 ∧ n = 1 ∧ e = 1) ∨ (k = 2 ∧ n = 1 ∧ e = 0) ∨ (k = 3 ∧ n ≤ 1 ∧ e = 0) ∨ (k = 4 ∧ 2 ≤ n)
theorem grid_says {a b c d : Pp} (ha : InG a) (hb : InG b) (hc : InG c) (hd : InG d) :
    GridSays (relP a b c d) (cnt (fun m => bothP a b c d (gpt m)) 64) (cnt (fun m => bothP a b c d (gpt m) && endP a b c d (gpt m)) 64) := by
  have sa : on2 c d a = true → bothP a b c d a = true := fun h => by unfold bothP; rw [on_left, h]; rfl
  have sb : on2 c d b = true → bothP a b c d b = true := fun h => by unfold bothP; rw [on_right, h]; rfl
  have sc : on2 a b c = true → bothP a b c d c = true := fun h => by unfold bothP; rw [on_left, h]; rfl
  have sd : on2 a b d = true → bothP a b c d d = true := fun h => by unfold bothP; rw [on_right, h]; rfl
  have huniq : flags a b c d = false → ∀ p q, bothP a b c d p = true → bothP a b c d q = true → p = q := fun hf p q hp hq => by
    unfold bothP at hp hq
    simp only [Bool.and_eq_true] at hp hq
    refine Classical.byContradiction fun hne => ?_
    rw [common_two hne hp.1 hq.1 hp.2 hq.2] at hf
    cases hf
  have hone : flags a b c d = false → cnt (fun m => bothP a b c d (gpt m)) 64 ≤ 1 := fun hf => cnt_one fun i j _ _ hi hj => gpt_inj (huniq hf _ _ hi hj)
  have hend : ∀ p, bothP a b c d p = true → endP a b c d p = true → (eqp a c || eqp a d || eqp b c || eqp b d) = true ∧ anyS a b c d = true := fun p hp he => by
    unfold endP at he
    simp only [Bool.and_eq_true, Bool.or_eq_true, eqp_iff] at he
    unfold bothP at hp
    simp only [Bool.and_eq_true] at hp
    unfold anyS
    simp only [Bool.or_eq_true, eqp_iff]
    rcases he.1 with rfl | rfl
    · exact ⟨by rcases he.2 with e | e <;> simp [e], .inl (.inl (.inl hp.2))⟩
    · exact ⟨by rcases he.2 with e | e <;> simp [e], .inl (.inl (.inr hp.2))⟩
  have hmem : ∀ p, InG p → bothP a b c d p = true → 1 ≤ cnt (fun m => bothP a b c d (gpt m)) 64 := fun p hp h => by
    obtain ⟨m, hm, rfl⟩ := gpt_of hp
    exact cnt_mem hm h
  unfold GridSays
  rw [relP_flags]
  cases hf : flags a b c d with
  | true =>
    refine .inr (.inr (.inr (.inr ⟨rfl, ?_⟩)))
    have two : ∀ p q, InG p → InG q → bothP a b c d p = true → bothP a b c d q = true → eqp p q = false → 2 ≤ cnt (fun m => bothP a b c d (gpt m)) 64 := fun p q hp hq h1 h2 hne => by
      obtain ⟨i, hi, rfl⟩ := gpt_of hp
      obtain ⟨j, hj, rfl⟩ := gpt_of hq
      have hij : i ≠ j := fun e => by rw [e, eqp_self] at hne; cases hne
      rcases Nat.lt_or_gt_of_ne hij with h | h
      · exact cnt_two h hj h1 h2
      · exact cnt_two h hi h2 h1
    unfold flags twoB at hf
    simp only [Bool.or_eq_true, Bool.and_eq_true, Bool.not_eq_true'] at hf
    rcases hf with ((((⟨⟨h1, h2⟩, h3⟩ | ⟨⟨h1, h2⟩, h3⟩) | ⟨⟨h1, h2⟩, h3⟩) | ⟨⟨h1, h2⟩, h3⟩) | ⟨⟨h1, h2⟩, h3⟩) | ⟨⟨h1, h2⟩, h3⟩
    · exact two a b ha hb (sa h1) (sb h2) h3
    · exact two a c ha hc (sa h1) (sc h2) h3
    · exact two a d ha hd (sa h1) (sd h2) h3
    · exact two b c hb hc (sb h1) (sc h2) h3
    · exact two b d hb hd (sb h1) (sd h2) h3
    · exact two c d hc hd (sc h1) (sd h2) h3
  | false =>
    have h1 := hone hf
    cases hs : anyS a b c d with
    | true =>
      obtain ⟨p, hp, hpb⟩ : ∃ p, InG p ∧ bothP a b c d p = true := by
        unfold anyS at hs
        simp only [Bool.or_eq_true] at hs
        rcases hs with ((h | h) | h) | h
        · exact ⟨a, ha, sa h⟩
        · exact ⟨b, hb, sb h⟩
        · exact ⟨c, hc, sc h⟩
        · exact ⟨d, hd, sd h⟩
      have h2 := hmem p hp hpb
      cases he : (eqp a c || eqp a d || eqp b c || eqp b d) with
      | true =>
        refine .inr (.inl ⟨rfl, by omega, ?_⟩)
        obtain ⟨q, hq, hqb, hqe⟩ : ∃ q, InG q ∧ bothP a b c d q = true ∧ endP a b c d q = true := by
          simp only [Bool.or_eq_true, eqp_iff] at he
          rcases he with ((h | h) | h) | h
          · exact ⟨a, ha, sa (by rw [h]; exact on_left _ _), by unfold endP; rw [eqp_self, h, eqp_self]; simp⟩
          · exact ⟨a, ha, sa (by rw [h]; exact on_right _ _), by unfold endP; rw [eqp_self, h, eqp_self]; simp⟩
          · exact ⟨b, hb, sb (by rw [h]; exact on_left _ _), by unfold endP; rw [eqp_self b, h, eqp_self]; simp⟩
          · exact ⟨b, hb, sb (by rw [h]; exact on_right _ _), by unfold endP; rw [eqp_self b, h, eqp_self]; simp⟩
        obtain ⟨i, hi, rfl⟩ := gpt_of hq
        have g1 := cnt_mem (f := fun m => bothP a b c d (gpt m) && endP a b c d (gpt m)) hi (by simp only [hqb, hqe, Bool.and_self])
        have g2 := cnt_one (f := fun m => bothP a b c d (gpt m) && endP a b c d (gpt m)) (m := 64) fun i j _ _ hi hj => by
          simp only [Bool.and_eq_true] at hi hj
          exact gpt_inj (huniq hf _ _ hi.1 hj.1)
        omega
      | false =>
        refine .inr (.inr (.inl ⟨rfl, by omega, cnt_zero fun i _ => ?_⟩))
        cases hx : bothP a b c d (gpt i) && endP a b c d (gpt i) with
        | false => rfl
        | true =>
          simp only [Bool.and_eq_true] at hx
          rw [(hend _ hx.1 hx.2).1] at he
          cases he
    | false =>
      have h0 : cnt (fun m => bothP a b c d (gpt m) && endP a b c d (gpt m)) 64 = 0 := cnt_zero fun i _ => by
        cases hx : bothP a b c d (gpt i) && endP a b c d (gpt i) with
        | false => rfl
        | true =>
          simp only [Bool.and_eq_true] at hx
          rw [(hend _ hx.1 hx.2).2] at hs
          cases hs
      cases hx : crs a b c d with
      | true => exact .inr (.inr (.inr (.inl ⟨rfl, h1, h0⟩)))
      | false =>
        refine .inl ⟨rfl, cnt_zero fun i _ => ?_⟩
        cases hb' : bothP a b c d (gpt i) with
        | false => rfl
        | true =>
          unfold bothP at hb'
          simp only [Bool.and_eq_true] at hb'
          rw [common_cross hb'.1 hb'.2 hs] at hx
          cases hx
end Go.Proofs.Ytepnjknblppfcaa

namespace Go.Proofs.Ytepnjknblppfcaa

theorem relB_none : ∀ sa sb sc sd ab ac ad bc bd cd x : Bool, relB sa sb sc sd ab ac ad bc bd cd x = 0 → sa = false ∧ sb = false ∧ sc = false ∧ sd = false ∧ x = false := by decide +kernel
theorem relB_next : ∀ sa sd ad x : Bool, relB sa true true sd false false ad true false false x = 1 → sa = false ∧ sd = false := by decide +kernel
theorem relB_shut : ∀ sb sc bc x : Bool, relB true sb sc true false false true bc false false x = 1 → sb = false ∧ sc = false := by decide +kernel
theorem eqp_no {a b : Pp} (h : a ≠ b) : eqp a b = false := by
  cases e : eqp a b with
  | false => rfl
  | true => exact absurd (eqp_iff.1 e) h
/-- Sides that have nothing in common. -/
theorem rel_apart {a b c d : Pp} (h : relP a b c d = 0) : on2 c d a = false ∧ on2 c d b = false ∧ on2 a b c = false ∧ on2 a b d = false ∧ ¬ Xs a b c d := by
  obtain ⟨h1, h2, h3, h4, h5⟩ := relB_none _ _ _ _ _ _ _ _ _ _ _ h
  refine ⟨h1, h2, h3, h4, fun k => ?_⟩
  obtain ⟨k1, k2⟩ := k
  have hab : a ≠ b := fun e => by
    subst e
    have : ar a a c = 0 := by rw [← ar_rot, ar_aba]
    rw [this] at k1
    have e0 : sgn 0 = 0 := by decide
    rw [e0, Int.zero_mul] at k1
    omega
  have hcd : c ≠ d := fun e => by
    subst e
    have : ar c c a = 0 := by rw [← ar_rot, ar_aba]
    rw [this] at k2
    have e0 : sgn 0 = 0 := by decide
    rw [e0, Int.zero_mul] at k2
    omega
  unfold crs at h5
  rw [eqp_no hab, eqp_no hcd, decide_eq_true (show tr2 a b c * tr2 a b d < 0 from k1), decide_eq_true (show tr2 c d a * tr2 c d b < 0 from k2)] at h5
  cases h5
/-- A side and the next one. -/
theorem rel_next {a b c : Pp} (hab : a ≠ b) (hbc : b ≠ c) (h : relP a b b c = 1) : on2 b c a = false ∧ on2 a b c = false := by
  unfold relP at h
  rw [on_left, on_right, eqp_no hab, eqp_self, eqp_no hbc] at h
  exact relB_next _ _ _ _ h
/-- The first side and the last one. -/
theorem rel_shut {a b d : Pp} (hab : a ≠ b) (hda : d ≠ a) (h : relP a b d a = 1) : on2 d a b = false ∧ on2 a b d = false := by
  unfold relP at h
  rw [on_left, on_right, eqp_no hab, eqp_self, eqp_no hda, eqp_no (fun e => hda e.symm), eqp_no (fun e => hab e.symm)] at h
  exact relB_shut _ _ _ _ h

theorem okL_pairs {ps : List Pp} (h : okL ps = true) : (∀ i, i < ps.length - 1 → clP (lpt ps i) ≠ clP (lpt ps (i + 1))) ∧ ∀ i k, i < k → k < ps.length - 1 → sgR ps ps i k = wantL ps i k := by
  unfold okL simpleL at h
  simp only [Bool.and_eq_true] at h
  obtain ⟨_, hs, hp⟩ := h
  refine ⟨fun i hi e => ?_, fun i k hik hk => ?_⟩
  · have q := List.all_eq_true.1 hs i (List.mem_range.2 hi)
    rw [eqp_iff.2 e] at q
    cases q
  · have q := List.all_eq_true.1 (List.all_eq_true.1 hp i (List.mem_range.2 (by omega))) k (List.mem_range.2 hk)
    rw [Bool.or_eq_true, decide_eq_true_eq, beq_iff_eq] at q
    rcases q with q | q
    · omega
    · exact q
theorem simple4 {a b c d : Pp} (ha : In8 a) (hb : In8 b) (hc : In8 c) (hd : In8 d) (h : okL [a, b, c, d, a] = true) : S4 a b c d := by
  obtain ⟨hst, hpr⟩ := okL_pairs h
  have hcl : closedL [a, b, c, d, a] = true := by
    unfold closedL
    show (decide (3 ≤ 5) && eqp (clP a) (clP a)) = true
    rw [eqp_self]
    rfl
  have d0 : a ≠ b := fun k => hst 0 (by show 0 < 4; decide) (show clP a = clP b by rw [k])
  have d1 : b ≠ c := fun k => hst 1 (by show 1 < 4; decide) (show clP b = clP c by rw [k])
  have d2 : c ≠ d := fun k => hst 2 (by show 2 < 4; decide) (show clP c = clP d by rw [k])
  have d3 : d ≠ a := fun k => hst 3 (by show 3 < 4; decide) (show clP d = clP a by rw [k])
  have r01 : relP a b b c = 1 := by
    have q := hpr 0 1 (by decide) (by show 1 < 4; decide)
    rw [show wantL [a, b, c, d, a] 0 1 = 1 from if_pos (.inl rfl)] at q
    have e : sgR [a, b, c, d, a] [a, b, c, d, a] 0 1 = relP (clP a) (clP b) (clP b) (clP c) := rfl
    rw [e, clP_in8 ha, clP_in8 hb, clP_in8 hc] at q
    exact q
  have r02 : relP a b c d = 0 := by
    have q := hpr 0 2 (by decide) (by show 2 < 4; decide)
    rw [show wantL [a, b, c, d, a] 0 2 = 0 from if_neg (fun e => by rcases e with e | ⟨e1, e2, _⟩ <;> first | (revert e; decide) | (revert e1; decide) | (revert e2; show ¬ 3 = 4; decide))] at q
    have e : sgR [a, b, c, d, a] [a, b, c, d, a] 0 2 = relP (clP a) (clP b) (clP c) (clP d) := rfl
    rw [e, clP_in8 ha, clP_in8 hb, clP_in8 hc, clP_in8 hd] at q
    exact q
  have r03 : relP a b d a = 1 := by
    have q := hpr 0 3 (by decide) (by show 3 < 4; decide)
    rw [show wantL [a, b, c, d, a] 0 3 = 1 from if_pos (.inr ⟨rfl, rfl, by show 2 < 4; decide, hcl⟩)] at q
    have e : sgR [a, b, c, d, a] [a, b, c, d, a] 0 3 = relP (clP a) (clP b) (clP d) (clP a) := rfl
    rw [e, clP_in8 ha, clP_in8 hb, clP_in8 hd] at q
    exact q
  have r12 : relP b c c d = 1 := by
    have q := hpr 1 2 (by decide) (by show 2 < 4; decide)
    rw [show wantL [a, b, c, d, a] 1 2 = 1 from if_pos (.inl rfl)] at q
    have e : sgR [a, b, c, d, a] [a, b, c, d, a] 1 2 = relP (clP b) (clP c) (clP c) (clP d) := rfl
    rw [e, clP_in8 hb, clP_in8 hc, clP_in8 hd] at q
    exact q
  have r13 : relP b c d a = 0 := by
    have q := hpr 1 3 (by decide) (by show 3 < 4; decide)
    rw [show wantL [a, b, c, d, a] 1 3 = 0 from if_neg (fun e => by rcases e with e | ⟨e1, e2, _⟩ <;> first | (revert e; decide) | (revert e1; decide) | (revert e2; show ¬ 4 = 4; decide))] at q
    have e : sgR [a, b, c, d, a] [a, b, c, d, a] 1 3 = relP (clP b) (clP c) (clP d) (clP a) := rfl
    rw [e, clP_in8 hb, clP_in8 hc, clP_in8 hd, clP_in8 ha] at q
    exact q
  have r23 : relP c d d a = 1 := by
    have q := hpr 2 3 (by decide) (by show 3 < 4; decide)
    rw [show wantL [a, b, c, d, a] 2 3 = 1 from if_pos (.inl rfl)] at q
    have e : sgR [a, b, c, d, a] [a, b, c, d, a] 2 3 = relP (clP c) (clP d) (clP d) (clP a) := rfl
    rw [e, clP_in8 hc, clP_in8 hd, clP_in8 ha] at q
    exact q
  obtain ⟨n01, n02⟩ := rel_next d0 d1 r01
  obtain ⟨a021, a022, a023, a024, a025⟩ := rel_apart r02
  obtain ⟨m1, m2⟩ := rel_shut d0 d3 r03
  obtain ⟨n11, n12⟩ := rel_next d1 d2 r12
  obtain ⟨a131, a132, a133, a134, a135⟩ := rel_apart r13
  obtain ⟨n21, n22⟩ := rel_next d2 d3 r23
  exact ⟨a023, m2, a133, a134, n22, n11, a131, n21, a025, a135⟩
theorem simple5 {a b c d e : Pp} (ha : In8 a) (hb : In8 b) (hc : In8 c) (hd : In8 d) (he : In8 e) (h : okL [a, b, c, d, e, a] = true) : S5 a b c d e := by
  obtain ⟨hst, hpr⟩ := okL_pairs h
  have hcl : closedL [a, b, c, d, e, a] = true := by
    unfold closedL
    show (decide (3 ≤ 6) && eqp (clP a) (clP a)) = true
    rw [eqp_self]
    rfl
  have d0 : a ≠ b := fun k => hst 0 (by show 0 < 5; decide) (show clP a = clP b by rw [k])
  have d1 : b ≠ c := fun k => hst 1 (by show 1 < 5; decide) (show clP b = clP c by rw [k])
  have d2 : c ≠ d := fun k => hst 2 (by show 2 < 5; decide) (show clP c = clP d by rw [k])
  have d3 : d ≠ e := fun k => hst 3 (by show 3 < 5; decide) (show clP d = clP e by rw [k])
  have d4 : e ≠ a := fun k => hst 4 (by show 4 < 5; decide) (show clP e = clP a by rw [k])
  have r01 : relP a b b c = 1 := by
    have q := hpr 0 1 (by decide) (by show 1 < 5; decide)
    rw [show wantL [a, b, c, d, e, a] 0 1 = 1 from if_pos (.inl rfl)] at q
    have e : sgR [a, b, c, d, e, a] [a, b, c, d, e, a] 0 1 = relP (clP a) (clP b) (clP b) (clP c) := rfl
    rw [e, clP_in8 ha, clP_in8 hb, clP_in8 hc] at q
    exact q
  have r02 : relP a b c d = 0 := by
    have q := hpr 0 2 (by decide) (by show 2 < 5; decide)
    rw [show wantL [a, b, c, d, e, a] 0 2 = 0 from if_neg (fun e => by rcases e with e | ⟨e1, e2, _⟩ <;> first | (revert e; decide) | (revert e1; decide) | (revert e2; show ¬ 3 = 5; decide))] at q
    have e : sgR [a, b, c, d, e, a] [a, b, c, d, e, a] 0 2 = relP (clP a) (clP b) (clP c) (clP d) := rfl
    rw [e, clP_in8 ha, clP_in8 hb, clP_in8 hc, clP_in8 hd] at q
    exact q
  have r03 : relP a b d e = 0 := by
    have q := hpr 0 3 (by decide) (by show 3 < 5; decide)
    rw [show wantL [a, b, c, d, e, a] 0 3 = 0 from if_neg (fun e => by rcases e with e | ⟨e1, e2, _⟩ <;> first | (revert e; decide) | (revert e1; decide) | (revert e2; show ¬ 4 = 5; decide))] at q
    have e : sgR [a, b, c, d, e, a] [a, b, c, d, e, a] 0 3 = relP (clP a) (clP b) (clP d) (clP e) := rfl
    rw [e, clP_in8 ha, clP_in8 hb, clP_in8 hd, clP_in8 he] at q
    exact q
  have r04 : relP a b e a = 1 := by
    have q := hpr 0 4 (by decide) (by show 4 < 5; decide)
    rw [show wantL [a, b, c, d, e, a] 0 4 = 1 from if_pos (.inr ⟨rfl, rfl, by show 2 < 5; decide, hcl⟩)] at q
    have e : sgR [a, b, c, d, e, a] [a, b, c, d, e, a] 0 4 = relP (clP a) (clP b) (clP e) (clP a) := rfl
    rw [e, clP_in8 ha, clP_in8 hb, clP_in8 he] at q
    exact q
  have r12 : relP b c c d = 1 := by
    have q := hpr 1 2 (by decide) (by show 2 < 5; decide)
    rw [show wantL [a, b, c, d, e, a] 1 2 = 1 from if_pos (.inl rfl)] at q
    have e : sgR [a, b, c, d, e, a] [a, b, c, d, e, a] 1 2 = relP (clP b) (clP c) (clP c) (clP d) := rfl
    rw [e, clP_in8 hb, clP_in8 hc, clP_in8 hd] at q
    exact q
  have r13 : relP b c d e = 0 := by
    have q := hpr 1 3 (by decide) (by show 3 < 5; decide)
    rw [show wantL [a, b, c, d, e, a] 1 3 = 0 from if_neg (fun e => by rcases e with e | ⟨e1, e2, _⟩ <;> first | (revert e; decide) | (revert e1; decide) | (revert e2; show ¬ 4 = 5; decide))] at q
    have e : sgR [a, b, c, d, e, a] [a, b, c, d, e, a] 1 3 = relP (clP b) (clP c) (clP d) (clP e) := rfl
    rw [e, clP_in8 hb, clP_in8 hc, clP_in8 hd, clP_in8 he] at q
    exact q
  have r14 : relP b c e a = 0 := by
    have q := hpr 1 4 (by decide) (by show 4 < 5; decide)
    rw [show wantL [a, b, c, d, e, a] 1 4 = 0 from if_neg (fun e => by rcases e with e | ⟨e1, e2, _⟩ <;> first | (revert e; decide) | (revert e1; decide) | (revert e2; show ¬ 5 = 5; decide))] at q
    have e : sgR [a, b, c, d, e, a] [a, b, c, d, e, a] 1 4 = relP (clP b) (clP c) (clP e) (clP a) := rfl
    rw [e, clP_in8 hb, clP_in8 hc, clP_in8 he, clP_in8 ha] at q
    exact q
  have r23 : relP c d d e = 1 := by
    have q := hpr 2 3 (by decide) (by show 3 < 5; decide)
    rw [show wantL [a, b, c, d, e, a] 2 3 = 1 from if_pos (.inl rfl)] at q
    have e : sgR [a, b, c, d, e, a] [a, b, c, d, e, a] 2 3 = relP (clP c) (clP d) (clP d) (clP e) := rfl
    rw [e, clP_in8 hc, clP_in8 hd, clP_in8 he] at q
    exact q
  have r24 : relP c d e a = 0 := by
    have q := hpr 2 4 (by decide) (by show 4 < 5; decide)
    rw [show wantL [a, b, c, d, e, a] 2 4 = 0 from if_neg (fun e => by rcases e with e | ⟨e1, e2, _⟩ <;> first | (revert e; decide) | (revert e1; decide) | (revert e2; show ¬ 5 = 5; decide))] at q
    have e : sgR [a, b, c, d, e, a] [a, b, c, d, e, a] 2 4 = relP (clP c) (clP d) (clP e) (clP a) := rfl
    rw [e, clP_in8 hc, clP_in8 hd, clP_in8 he, clP_in8 ha] at q
    exact q
  have r34 : relP d e e a = 1 := by
    have q := hpr 3 4 (by decide) (by show 4 < 5; decide)
    rw [show wantL [a, b, c, d, e, a] 3 4 = 1 from if_pos (.inl rfl)] at q
    have e : sgR [a, b, c, d, e, a] [a, b, c, d, e, a] 3 4 = relP (clP d) (clP e) (clP e) (clP a) := rfl
    rw [e, clP_in8 hd, clP_in8 he, clP_in8 ha] at q
    exact q
  obtain ⟨n01, n02⟩ := rel_next d0 d1 r01
  obtain ⟨a021, a022, a023, a024, a025⟩ := rel_apart r02
  obtain ⟨a031, a032, a033, a034, a035⟩ := rel_apart r03
  obtain ⟨m1, m2⟩ := rel_shut d0 d4 r04
  obtain ⟨n11, n12⟩ := rel_next d1 d2 r12
  obtain ⟨a131, a132, a133, a134, a135⟩ := rel_apart r13
  obtain ⟨a141, a142, a143, a144, a145⟩ := rel_apart r14
  obtain ⟨n21, n22⟩ := rel_next d2 d3 r23
  obtain ⟨a241, a242, a243, a244, a245⟩ := rel_apart r24
  obtain ⟨n31, n32⟩ := rel_next d3 d4 r34
  exact ⟨a023, a033, m2, a133, a143, a144, a243, a244, n11, n32, a131, n21, a141, a241, n31, a025, a035, a135, a145, a245⟩

/-- A sum over the grid, column by column. -/
theorem sN_cols (f : Pp → Int) : ∀ k : Nat, sN (k * 8) (fun m => f (gpt m)) = sN k fun x => sN 8 fun y => f ((x : Int), (y : Int))
  | 0 => rfl
  | k + 1 => by
    rw [show (k + 1) * 8 = k * 8 + 8 by omega, sN_add, sN_cols f k]
    show _ = sN k _ + sN 8 _
    congr 1
    refine sN_congr fun y hy => ?_
    show f (gpt (k * 8 + y)) = _
    unfold gpt
    rw [show (k * 8 + y) / 8 = k by omega, show (k * 8 + y) % 8 = y by omega]
theorem phi_count (v : Nat → Int) : ∀ m : Nat, sN m (fun i => phi (v i)) = 2 * (cnt (fun i => v i == 1) m : Int) + (cnt (fun i => v i == 0) m : Int)
  | 0 => rfl
  | m + 1 => by
    have h := phi_count v m
    have e1 : cnt (fun i => v i == 1) (m + 1) = cnt (fun i => v i == 1) m + (v m == 1).toNat := rfl
    have e2 : cnt (fun i => v i == 0) (m + 1) = cnt (fun i => v i == 0) m + (v m == 0).toNat := rfl
    have e3 : sN (m + 1) (fun i => phi (v i)) = sN m (fun i => phi (v i)) + phi (v m) := rfl
    rw [e1, e2, e3, h]
    unfold phi
    by_cases g1 : v m = 1
    · rw [if_pos g1, g1]
      show _ = 2 * ((cnt _ m + 1 : Nat) : Int) + ((cnt _ m + 0 : Nat) : Int)
      omega
    · have f1 : (v m == 1) = false := by simpa using g1
      rw [if_neg g1, f1]
      by_cases g2 : v m = 0
      · have f2 : (v m == 0) = true := by simpa using g2
        rw [if_pos g2, f2]
        show _ = 2 * ((cnt _ m + 0 : Nat) : Int) + ((cnt _ m + 1 : Nat) : Int)
        omega
      · have f2 : (v m == 0) = false := by simpa using g2
        rw [if_neg g2, f2]
        show _ = 2 * ((cnt _ m + 0 : Nat) : Int) + ((cnt _ m + 0 : Nat) : Int)
        omega
theorem pk_count (l : List Pp) : pk l = 2 * (cnt (fun m => insideL l (gpt m) == 1) 64 : Int) + (cnt (fun m => insideL l (gpt m) == 0) 64 : Int) := by
  rw [← phi_count (fun m => insideL l (gpt m)) 64]
  exact (sN_cols (fun p => phi (insideL l p)) 8).symm
theorem area4_is {a b c d : Pp} (ha : In8 a) (hb : In8 b) (hc : In8 c) (hd : In8 d) : areaL [a, b, c, d] = A4 a b c d := by
  have hq : ∀ i, ringQ [a, b, c, d] i = clP (lpt [a, b, c, d] i) := fun _ => rfl
  unfold areaL areaR
  simp only [List.length_cons, List.length_nil, Nat.reduceAdd, sN, Nat.reduceMod, hq]
  show 0 + crossI (clP a) (clP b) + crossI (clP b) (clP c) + crossI (clP c) (clP d) + crossI (clP d) (clP a) = _
  rw [clP_in8 ha, clP_in8 hb, clP_in8 hc, clP_in8 hd]
  unfold A4 ar area crossI
  grind
/-- What the law asks. -/
theorem grid4_says {a b c d : Pp} (ha : In8 a) (hb : In8 b) (hc : In8 c) (hd : In8 d) (h : okL [a, b, c, d, a] = true) : max (areaL [a, b, c, d]) (-areaL [a, b, c, d]) = 2 * (cnt (fun m => insideL [a, b, c, d] (gpt m) == 1) 64 : Int) + (cnt (fun m => insideL [a, b, c, d] (gpt m) == 0) 64 : Int) - 2 := by
  have q := pick_four ha hb hc hd (simple4 ha hb hc hd h)
  unfold Ok4 at q
  rw [area4_is ha hb hc hd, ← pk_count, q]
  omega
theorem area5_is {a b c d e : Pp} (ha : In8 a) (hb : In8 b) (hc : In8 c) (hd : In8 d) (he : In8 e) : areaL [a, b, c, d, e] = A5 a b c d e := by
  have hq : ∀ i, ringQ [a, b, c, d, e] i = clP (lpt [a, b, c, d, e] i) := fun _ => rfl
  unfold areaL areaR
  simp only [List.length_cons, List.length_nil, Nat.reduceAdd, sN, Nat.reduceMod, hq]
  show 0 + crossI (clP a) (clP b) + crossI (clP b) (clP c) + crossI (clP c) (clP d) + crossI (clP d) (clP e) + crossI (clP e) (clP a) = _
  rw [clP_in8 ha, clP_in8 hb, clP_in8 hc, clP_in8 hd, clP_in8 he]
  unfold A5 ar area crossI
  grind
/-- What the law asks. -/
theorem grid5_says {a b c d e : Pp} (ha : In8 a) (hb : In8 b) (hc : In8 c) (hd : In8 d) (he : In8 e) (h : okL [a, b, c, d, e, a] = true) : max (areaL [a, b, c, d, e]) (-areaL [a, b, c, d, e]) = 2 * (cnt (fun m => insideL [a, b, c, d, e] (gpt m) == 1) 64 : Int) + (cnt (fun m => insideL [a, b, c, d, e] (gpt m) == 0) 64 : Int) - 2 := by
  have q := pick_five ha hb hc hd he (simple5 ha hb hc hd he h)
  unfold Ok5 at q
  rw [area5_is ha hb hc hd he, ← pk_count, q]
  omega
end Go.Proofs.Ytepnjknblppfcaa

namespace Go.Proofs.Ytepnjknblppfcaa
open Go.RowKit Go.Sort

/-- An append whose run is known, at a step of a region that draws its order. -/
theorem step_append_grid {P : Program} {ops : Array Oper} {o : Oper} {a : Act} {ts : Array Value} {w w' : World} {K : Act → World → Prop} {Q : Exit → Act → World → Prop} {E : Prop} (hg : o.guard = none) (s x : Operand) (t : TypeId) (hop : o.op = Op.call { callee := Callee.builtin Builtin.append, args := #[s, x], argTypes := #[t, t] }) {v u v' : Value} (hs : a.eval s = v) (hx : a.eval x = u)
    (hrun : (Builtin.append_ #[t, t] o.type #[v, u]).run P w = .ok v' w') (hK : K (a.put o.dst v') w') : if Region.wanted o (yielded ops ts) = true then Oper.wp P o a w K Q else E := by
  have hw : Region.wanted o (yielded ops ts) = true := by simp [Region.wanted, hg]
  rw [if_pos hw]
  unfold Oper.wp
  rw [show (execOp a.eval o).run P w = .ok (.value v') w' by simp [execOp, hop, resolve, invoke, builtin, hs, hx, hrun, Result.andThen]]
  exact hK
theorem at_grid {C : Prop} {inst : Decidable C} {P : Program} {o : Oper} {a : Act} {K : Act → World → Prop} {Q : Exit → Act → World → Prop} {E : Prop} (w : World) (h : @ite Prop C inst (Oper.wp P o a w K Q) E) : @ite Prop C inst (Oper.wp P o a w K Q) E := h
theorem cell_grid {w w' : World} {b i : Nat} {v : Value} (h : w.cell? ⟨b, i, none⟩ = some v) (hb : Below w.heap.size w w') : w'.cell? ⟨b, i, none⟩ = some v :=
  (hb.cell (p := ⟨b, i, none⟩) (World.block_lt_of_cell? w _ h)).trans h
theorem cnt_grid (f : Nat → Bool) (m : Nat) : cnt f (m + 1) = cnt f m + (f m).toNat := rfl
theorem gpt_grid {i j : Nat} (h : j < 8) : gpt (i * 8 + j) = ((i : Int), (j : Int)) := by
  unfold gpt
  exact Prod.ext (by dsimp only; omega) (by dsimp only; omega)
theorem Src.kept {w w' : World} {b n cap : Nat} {ps : List Pp} (h : Src w (.slice (some ⟨b, 0, none⟩) n cap) ps) (hk : w'.heap[b]? = w.heap[b]?) : Src w' (.slice (some ⟨b, 0, none⟩) n cap) ps := by
  rcases h with ⟨h, _⟩ | ⟨b', off, cap', e, h1, hc⟩
  · cases h
  · injection e with e1 e2 e3
    injection e1 with e1
    injection e1 with e4 e5
    subst e2 e3 e4 e5
    refine .inr ⟨b, 0, cap, rfl, h1, fun k p hk' => ?_⟩
    obtain ⟨z0, z1⟩ := hc k p hk'
    unfold World.cell? at *
    simp only [hk]
    exact ⟨z0, z1⟩
end Go.Proofs.Ytepnjknblppfcaa
