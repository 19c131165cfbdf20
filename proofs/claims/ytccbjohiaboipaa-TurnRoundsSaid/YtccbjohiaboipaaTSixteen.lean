/-
  Sixteen directions that stand round a point: who is met first is told by their places.
-/
import Derived.Test.YtccbjohiaboipaaTTurn
namespace Go.Proofs.Ytccbjohiaboipaa

def all16 : List Pp := [(1, 0), (2, 1), (1, 1), (1, 2), (0, 1), (-1, 2), (-1, 1), (-2, 1), (-1, 0), (-2, -1), (-1, -1), (-1, -2), (0, -1), (1, -2), (1, -1), (2, -1)]
def dir16 (r : Nat) : Pp := all16.getD r (0, 0)
/-- How far it is from i on, turning to the left. -/
def far16 (i a : Nat) : Nat := (a + 16 - i) % 16
theorem none16 : ∀ r, r < 16 → noneD (dir16 r) = false := by decide +kernel
theorem small16 : ∀ r, r < 16 → -2 ≤ (dir16 r).1 ∧ (dir16 r).1 ≤ 2 ∧ -2 ≤ (dir16 r).2 ∧ (dir16 r).2 ≤ 2 := by decide +kernel
theorem same16 : ∀ r, r < 16 → ∀ s, s < 16 → cmpD (dir16 r) (dir16 s) = 0 → r = s := by decide +kernel
theorem self16 : ∀ r, r < 16 → cmpD (dir16 r) (dir16 r) = 0 := by decide +kernel
def after16B : Bool := (List.range 16).all fun i => (List.range 16).all fun a => (List.range 16).all fun b => a == i || b == i || (decide (afterD (dir16 i) (dir16 a) (dir16 b) < 0) == decide (far16 i a < far16 i b) && decide (0 < afterD (dir16 i) (dir16 a) (dir16 b)) == decide (far16 i b < far16 i a))
theorem after16_all : after16B = true := by decide +kernel
theorem after16 (i : Nat) (hi : i < 16) (a : Nat) (ha : a < 16) (b : Nat) (hb : b < 16) (hai : a ≠ i) (hbi : b ≠ i) : (afterD (dir16 i) (dir16 a) (dir16 b) < 0 ↔ far16 i a < far16 i b) ∧ (0 < afterD (dir16 i) (dir16 a) (dir16 b) ↔ far16 i b < far16 i a) := by
  have h := List.all_eq_true.1 (List.all_eq_true.1 (List.all_eq_true.1 after16_all i (List.mem_range.2 hi)) a (List.mem_range.2 ha)) b (List.mem_range.2 hb)
  simp only [Bool.or_eq_true, Bool.and_eq_true, beq_iff_eq, decide_eq_decide] at h
  rcases h with (h | h) | h
  · exact absurd h hai
  · exact absurd h hbi
  · exact h
theorem back16 : ∀ i, i < 16 → ∀ a, a < 16 → a ≠ i → far16 a i + far16 i a = 16 := by decide +kernel

theorem map16_at {rs : List Nat} {k r : Nat} (h : rs[k]? = some r) : (rs.map dir16).getD k (0, 0) = dir16 r := by
  rw [List.getD_eq_getElem?_getD, List.getElem?_map, h]
  rfl
/-- One place more, by the places in the round. -/
def upF (rs : List Nat) (i best k : Nat) : Nat := if k = i then best else if best = i ∨ far16 (rs.getD i 0) (rs.getD k 0) < far16 (rs.getD i 0) (rs.getD best 0) then k else best
def downF (rs : List Nat) (i best k : Nat) : Nat := if k = i then best else if best = i ∨ far16 (rs.getD k 0) (rs.getD i 0) < far16 (rs.getD best 0) (rs.getD i 0) then k else best
theorem getD_nat {rs : List Nat} {k r : Nat} (h : rs[k]? = some r) : rs.getD k 0 = r := by
  rw [List.getD_eq_getElem?_getD, h]
  rfl
theorem step16 {rs : List Nat} (hn : rs.Nodup) (hr : ∀ r ∈ rs, r < 16) {i best k : Nat} (hi : i < rs.length) (hb : best < rs.length) (hk : k < rs.length) :
    stepF (rs.map dir16) i (dir16 (rs.getD i 0)) 1 best k = upF rs i best k ∧ stepF (rs.map dir16) i (dir16 (rs.getD i 0)) (-1) best k = downF rs i best k := by
  obtain ⟨ri, hri⟩ : ∃ r, rs[i]? = some r := ⟨_, List.getElem?_eq_getElem hi⟩
  obtain ⟨rb, hrb⟩ : ∃ r, rs[best]? = some r := ⟨_, List.getElem?_eq_getElem hb⟩
  obtain ⟨rk, hrk⟩ : ∃ r, rs[k]? = some r := ⟨_, List.getElem?_eq_getElem hk⟩
  have li := hr ri (List.mem_of_getElem? hri)
  have lb := hr rb (List.mem_of_getElem? hrb)
  have lk := hr rk (List.mem_of_getElem? hrk)
  have inj : ∀ {x y : Nat} {r : Nat}, rs[x]? = some r → rs[y]? = some r → x = y := by
    intro x y r hx hy
    have hxl := (List.getElem?_eq_some_iff.1 hx).1
    have hyl := (List.getElem?_eq_some_iff.1 hy).1
    refine (List.getElem_inj (h₀ := hxl) (h₁ := hyl) hn).1 ?_
    rw [List.getElem?_eq_getElem hxl] at hx
    rw [List.getElem?_eq_getElem hyl] at hy
    exact (Option.some.inj hx).trans (Option.some.inj hy).symm
  unfold stepF upF downF
  rw [map16_at hrk, map16_at hrb, getD_nat hri, getD_nat hrb, getD_nat hrk, none16 rk lk]
  by_cases hki : k = i
  · have e : rk = ri := by
      rw [hki, hri] at hrk
      exact (Option.some.inj hrk).symm
    rw [if_pos hki, if_pos hki, e, self16 ri li]
    simp
  · have hne : rk ≠ ri := fun e => hki (inj hrk (e ▸ hri))
    have hc : ¬ (false = true ∨ cmpD (dir16 rk) (dir16 ri) = 0) := by
      rintro (h | h)
      · cases h
      · exact hne (same16 rk lk ri li h)
    rw [if_neg hki, if_neg hki, if_neg hc, if_neg hc]
    by_cases hbi : best = i
    · rw [if_pos (.inl hbi), if_pos (.inl hbi), if_pos (.inl hbi), if_pos (.inl hbi)]
      exact ⟨rfl, rfl⟩
    · have hnb : rb ≠ ri := fun e => hbi (inj hrb (e ▸ hri))
      obtain ⟨a1, a2⟩ := after16 ri li rk lk rb lb hne hnb
      have b1 := back16 ri li rk lk hne
      have b2 := back16 ri li rb lb hnb
      refine ⟨?_, ?_⟩
      · by_cases hx : far16 ri rk < far16 ri rb
        · rw [if_pos (.inr (by rw [Int.one_mul]; exact a1.2 hx)), if_pos (.inr hx)]
        · rw [if_neg (by rw [Int.one_mul]; exact fun h => h.elim hbi fun h => hx (a1.1 h)), if_neg (fun h => h.elim hbi hx)]
      · by_cases hx : far16 rk ri < far16 rb ri
        · rw [if_pos (.inr (by have := a2.2 (by omega); omega)), if_pos (.inr hx)]
        · rw [if_neg (fun h => h.elim hbi fun h => hx (by have := a2.1 (by omega); omega)), if_neg (fun h => h.elim hbi hx)]
theorem upF_lt {rs : List Nat} {i best k n : Nat} (hb : best < n) (hk : k < n) : upF rs i best k < n ∧ downF rs i best k < n := by
  unfold upF downF
  constructor <;> (split <;> (try split) <;> assumption)
end Go.Proofs.Ytccbjohiaboipaa
