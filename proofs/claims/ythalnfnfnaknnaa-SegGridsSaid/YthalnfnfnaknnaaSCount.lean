/-
  SegGrids: how many points of a small grid are on both.
-/
import Derived.Test.YthalnfnfnaknnaaSGrid
namespace Go.Proofs.Ythalnfnfnaknnaa

def bothP (a b c d p : Pp) : Bool := on2 a b p && on2 c d p
def endP (a b c d p : Pp) : Bool := (eqp p a || eqp p b) && (eqp p c || eqp p d)
/-- How many of the first m. -/
def cnt (f : Nat → Bool) : Nat → Nat
  | 0 => 0
  | m + 1 => cnt f m + (f m).toNat
theorem cnt_le (f : Nat → Bool) : ∀ m, cnt f m ≤ m
  | 0 => Nat.le_refl _
  | m + 1 => by
    have := cnt_le f m
    unfold cnt
    cases f m <;> simp <;> omega
theorem cnt_zero {f : Nat → Bool} : ∀ {m : Nat}, (∀ i, i < m → f i = false) → cnt f m = 0
  | 0, _ => rfl
  | m + 1, h => by
    unfold cnt
    rw [cnt_zero (fun i hi => h i (by omega)), h m (by omega)]
    rfl
theorem cnt_mem {f : Nat → Bool} : ∀ {m i : Nat}, i < m → f i = true → 1 ≤ cnt f m
  | 0, i, h, _ => by omega
  | m + 1, i, h, hf => by
    unfold cnt
    by_cases e : i = m
    · subst e
      rw [hf]
      simp
    · have := cnt_mem (m := m) (i := i) (by omega) hf
      omega
theorem cnt_one {f : Nat → Bool} : ∀ {m : Nat}, (∀ i j, i < m → j < m → f i = true → f j = true → i = j) → cnt f m ≤ 1
  | 0, _ => Nat.zero_le _
  | m + 1, h => by
    unfold cnt
    cases hf : f m with
    | false =>
      have := cnt_one (m := m) (fun i j hi hj => h i j (by omega) (by omega))
      simp
      exact this
    | true =>
      rw [cnt_zero (fun i hi => ?_)]
      · simp
      · cases hi' : f i with
        | false => rfl
        | true =>
          have := h i m (by omega) (by omega) hi' hf
          omega
theorem cnt_two {f : Nat → Bool} : ∀ {m i j : Nat}, i < j → j < m → f i = true → f j = true → 2 ≤ cnt f m
  | 0, i, j, _, h, _, _ => by omega
  | m + 1, i, j, h, h', hi, hj => by
    unfold cnt
    by_cases e : j = m
    · subst e
      have := cnt_mem (m := j) h hi
      rw [hj]
      simp
      omega
    · have := cnt_two (m := m) h (by omega) hi hj
      omega

/-- The points of the grid, column by column. -/
def gpt (m : Nat) : Pp := (((m / 8 : Nat) : Int), ((m % 8 : Nat) : Int))
theorem gpt_inj {m k : Nat} (h : gpt m = gpt k) : m = k := by
  unfold gpt at h
  injection h with h1 h2
  omega
def InG (p : Pp) : Prop := 0 ≤ p.1 ∧ p.1 < 8 ∧ 0 ≤ p.2 ∧ p.2 < 8
theorem gpt_of {p : Pp} (h : InG p) : ∃ m, m < 64 ∧ gpt m = p := by
  obtain ⟨h1, h2, h3, h4⟩ := h
  refine ⟨p.1.toNat * 8 + p.2.toNat, by omega, ?_⟩
  unfold gpt
  exact Prod.ext (by dsimp only; omega) (by dsimp only; omega)

def GridSays (k : Int) (n e : Nat) : Prop := (k = 0 ∧ n = 0) ∨ (k = 1 ∧ n = 1 ∧ e = 1) ∨ (k = 2 ∧ n = 1 ∧ e = 0) ∨ (k = 3 ∧ n ≤ 1 ∧ e = 0) ∨ (k = 4 ∧ 2 ≤ n)
theorem grid_says {a b c d : Pp} (ha : InG a) (hb : InG b) (hc : InG c) (hd : InG d) :
    GridSays (relP a b c d) (cnt (fun m => bothP a b c d (gpt m)) 64) (cnt (fun m => bothP a b c d (gpt m) && endP a b c d (gpt m)) 64) := by
  have sa : on2 c d a = true → bothP a b c d a = true := fun h => by unfold bothP; rw [on_left, h]; rfl
  have sb : on2 c d b = true → bothP a b c d b = true := fun h => by unfold bothP; rw [on_right, h]; rfl
  have sc : on2 a b c = true → bothP a b c d c = true := fun h => by unfold bothP; rw [on_left, h]; rfl
  have sd : on2 a b d = true → bothP a b c d d = true := fun h => by unfold bothP; rw [on_right, h]; rfl
  have huniq : flags a b c d = false → ∀ p q, bothP a b c d p = true → bothP a b c d q = true → p = q := fun hf p q hp hq => by
    unfold bothP at hp hq
    simp only [Bool.and_eq_true] at hp hq
    refine Classical.byContradiction fun hne => ?_
    rw [common_two hne hp.1 hq.1 hp.2 hq.2] at hf
    cases hf
  have hone : flags a b c d = false → cnt (fun m => bothP a b c d (gpt m)) 64 ≤ 1 := fun hf => cnt_one fun i j _ _ hi hj => gpt_inj (huniq hf _ _ hi hj)
  have hend : ∀ p, bothP a b c d p = true → endP a b c d p = true → (eqp a c || eqp a d || eqp b c || eqp b d) = true ∧ anyS a b c d = true := fun p hp he => by
    unfold endP at he
    simp only [Bool.and_eq_true, Bool.or_eq_true, eqp_iff] at he
    unfold bothP at hp
    simp only [Bool.and_eq_true] at hp
    unfold anyS
    simp only [Bool.or_eq_true, eqp_iff]
    rcases he.1 with rfl | rfl
    · exact ⟨by rcases he.2 with e | e <;> simp [e], .inl (.inl (.inl hp.2))⟩
    · exact ⟨by rcases he.2 with e | e <;> simp [e], .inl (.inl (.inr hp.2))⟩
  have hmem : ∀ p, InG p → bothP a b c d p = true → 1 ≤ cnt (fun m => bothP a b c d (gpt m)) 64 := fun p hp h => by
    obtain ⟨m, hm, rfl⟩ := gpt_of hp
    exact cnt_mem hm h
  unfold GridSays
  rw [relP_flags]
  cases hf : flags a b c d with
  | true =>
    refine .inr (.inr (.inr (.inr ⟨rfl, ?_⟩)))
    have two : ∀ p q, InG p → InG q → bothP a b c d p = true → bothP a b c d q = true → eqp p q = false → 2 ≤ cnt (fun m => bothP a b c d (gpt m)) 64 := fun p q hp hq h1 h2 hne => by
      obtain ⟨i, hi, rfl⟩ := gpt_of hp
      obtain ⟨j, hj, rfl⟩ := gpt_of hq
      have hij : i ≠ j := fun e => by rw [e, eqp_self] at hne; cases hne
      rcases Nat.lt_or_gt_of_ne hij with h | h
      · exact cnt_two h hj h1 h2
      · exact cnt_two h hi h2 h1
    unfold flags twoB at hf
    simp only [Bool.or_eq_true, Bool.and_eq_true, Bool.not_eq_true'] at hf
    rcases hf with ((((⟨⟨h1, h2⟩, h3⟩ | ⟨⟨h1, h2⟩, h3⟩) | ⟨⟨h1, h2⟩, h3⟩) | ⟨⟨h1, h2⟩, h3⟩) | ⟨⟨h1, h2⟩, h3⟩) | ⟨⟨h1, h2⟩, h3⟩
    · exact two a b ha hb (sa h1) (sb h2) h3
    · exact two a c ha hc (sa h1) (sc h2) h3
    · exact two a d ha hd (sa h1) (sd h2) h3
    · exact two b c hb hc (sb h1) (sc h2) h3
    · exact two b d hb hd (sb h1) (sd h2) h3
    · exact two c d hc hd (sc h1) (sd h2) h3
  | false =>
    have h1 := hone hf
    cases hs : anyS a b c d with
    | true =>
      obtain ⟨p, hp, hpb⟩ : ∃ p, InG p ∧ bothP a b c d p = true := by
        unfold anyS at hs
        simp only [Bool.or_eq_true] at hs
        rcases hs with ((h | h) | h) | h
        · exact ⟨a, ha, sa h⟩
        · exact ⟨b, hb, sb h⟩
        · exact ⟨c, hc, sc h⟩
        · exact ⟨d, hd, sd h⟩
      have h2 := hmem p hp hpb
      cases he : (eqp a c || eqp a d || eqp b c || eqp b d) with
      | true =>
        refine .inr (.inl ⟨rfl, by omega, ?_⟩)
        obtain ⟨q, hq, hqb, hqe⟩ : ∃ q, InG q ∧ bothP a b c d q = true ∧ endP a b c d q = true := by
          simp only [Bool.or_eq_true, eqp_iff] at he
          rcases he with ((h | h) | h) | h
          · exact ⟨a, ha, sa (by rw [h]; exact on_left _ _), by unfold endP; rw [eqp_self, h, eqp_self]; simp⟩
          · exact ⟨a, ha, sa (by rw [h]; exact on_right _ _), by unfold endP; rw [eqp_self, h, eqp_self]; simp⟩
          · exact ⟨b, hb, sb (by rw [h]; exact on_left _ _), by unfold endP; rw [eqp_self b, h, eqp_self]; simp⟩
          · exact ⟨b, hb, sb (by rw [h]; exact on_right _ _), by unfold endP; rw [eqp_self b, h, eqp_self]; simp⟩
        obtain ⟨i, hi, rfl⟩ := gpt_of hq
        have g1 := cnt_mem (f := fun m => bothP a b c d (gpt m) && endP a b c d (gpt m)) hi (by simp only [hqb, hqe, Bool.and_self])
        have g2 := cnt_one (f := fun m => bothP a b c d (gpt m) && endP a b c d (gpt m)) (m := 64) fun i j _ _ hi hj => by
          simp only [Bool.and_eq_true] at hi hj
          exact gpt_inj (huniq hf _ _ hi.1 hj.1)
        omega
      | false =>
        refine .inr (.inr (.inl ⟨rfl, by omega, cnt_zero fun i _ => ?_⟩))
        cases hx : bothP a b c d (gpt i) && endP a b c d (gpt i) with
        | false => rfl
        | true =>
          simp only [Bool.and_eq_true] at hx
          rw [(hend _ hx.1 hx.2).1] at he
          cases he
    | false =>
      have h0 : cnt (fun m => bothP a b c d (gpt m) && endP a b c d (gpt m)) 64 = 0 := cnt_zero fun i _ => by
        cases hx : bothP a b c d (gpt i) && endP a b c d (gpt i) with
        | false => rfl
        | true =>
          simp only [Bool.and_eq_true] at hx
          rw [(hend _ hx.1 hx.2).2] at hs
          cases hs
      cases hx : crs a b c d with
      | true => exact .inr (.inr (.inr (.inl ⟨rfl, h1, h0⟩)))
      | false =>
        refine .inl ⟨rfl, cnt_zero fun i _ => ?_⟩
        cases hb' : bothP a b c d (gpt i) with
        | false => rfl
        | true =>
          unfold bothP at hb'
          simp only [Bool.and_eq_true] at hb'
          rw [common_cross hb'.1 hb'.2 hs] at hx
          cases hx
end Go.Proofs.Ythalnfnfnaknnaa
