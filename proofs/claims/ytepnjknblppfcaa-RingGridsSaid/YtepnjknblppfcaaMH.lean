/-
  Triangles, and how often a ray to the right and one to the left meet their sides, counted with signs.
-/
import Derived.Test.YtepnjknblppfcaaRPlain
namespace Go.Proofs.Ytepnjknblppfcaa

/-- Twice the area of a triangle, above 0 if it turns to the left. -/
def ar (a b c : Pp) : Int := area a.1 a.2 b.1 b.2 c.1 c.2
theorem ar_rot (a b c : Pp) : ar b c a = ar a b c := by unfold ar area; grind
theorem ar_swap (a b c : Pp) : ar b a c = -ar a b c := by unfold ar area; grind
theorem ar_aba (a b : Pp) : ar a b a = 0 := by unfold ar area; grind
theorem ar_abb (a b : Pp) : ar a b b = 0 := by unfold ar area; grind
theorem ar_sum (a b c p : Pp) : ar b c p + ar c a p + ar a b p = ar a b c := by unfold ar area; grind
theorem ar_ys (a b c p : Pp) : ar b c p * (a.2 - p.2) + ar c a p * (b.2 - p.2) + ar a b p * (c.2 - p.2) = 0 := by unfold ar area; grind
/-- Three vectors from o. -/
theorem ar_gp (o i j k p : Pp) : ar o i j * ar o k p + ar o j k * ar o i p + ar o k i * ar o j p = 0 := by unfold ar area; grind

/-- A side is met going up, with p at its left, or going down, with p at its right. -/
def cw (ya yb t : Int) : Int := if ya ≤ 0 ∧ 0 < yb ∧ 0 < t then 1 else if yb ≤ 0 ∧ 0 < ya ∧ t < 0 then -1 else 0
theorem cw_anti (ya yb t : Int) : cw yb ya (-t) = -cw ya yb t := by
  unfold cw
  split <;> split <;> (try split) <;> omega
theorem cw_zero (ya yb : Int) : cw ya yb 0 = 0 := by
  unfold cw
  rw [if_neg (by omega), if_neg (by omega)]
theorem cw_up {t : Int} (h : 0 < t) (ya yb : Int) : cw ya yb t = if ya ≤ 0 ∧ 0 < yb then 1 else 0 := by
  unfold cw
  by_cases g : ya ≤ 0 ∧ 0 < yb
  · rw [if_pos ⟨g.1, g.2, h⟩, if_pos g]
  · rw [if_neg (fun e => g ⟨e.1, e.2.1⟩), if_neg (by omega), if_neg g]
def ce (a b p : Pp) : Int := cw (a.2 - p.2) (b.2 - p.2) (ar a b p)
def cf (a b p : Pp) : Int := cw (p.2 - a.2) (p.2 - b.2) (ar a b p)
def om (a b p : Pp) : Int := ce a b p + cf a b p
theorem ce_anti (a b p : Pp) : ce b a p = -ce a b p := by unfold ce; rw [ar_swap]; exact cw_anti _ _ _
theorem cf_anti (a b p : Pp) : cf b a p = -cf a b p := by unfold cf; rw [ar_swap]; exact cw_anti _ _ _
/-- The three sides of a triangle, to the right, to the left, both. -/
def w3 (a b c p : Pp) : Int := ce a b p + ce b c p + ce c a p
def v3 (a b c p : Pp) : Int := cf a b p + cf b c p + cf c a p
def o3 (a b c p : Pp) : Int := w3 a b c p + v3 a b c p

theorem pk_mem (x : Int) : sgn x ∈ ([-1, 0, 1] : List Int) := by
  unfold sgn
  split
  · simp
  · split <;> simp
theorem pk_pos {x : Int} : 0 < sgn x ↔ 0 < x := by
  unfold sgn
  split
  · omega
  · split <;> omega
theorem pk_lt {x : Int} : sgn x < 0 ↔ x < 0 := by
  unfold sgn
  split
  · omega
  · split <;> omega
theorem pk_sgn_mul (x y : Int) : sgn (x * y) = sgn x * sgn y := by
  rcases Int.lt_trichotomy x 0 with hx | hx | hx
  · rcases Int.lt_trichotomy y 0 with hy | hy | hy
    · have := Int.mul_pos_of_neg_of_neg hx hy
      unfold sgn
      rw [if_neg (by omega), if_pos this, if_pos hx, if_pos hy]
      rfl
    · subst hy
      rw [Int.mul_zero]
      show (0 : Int) = sgn x * 0
      omega
    · have := Int.mul_neg_of_neg_of_pos hx hy
      unfold sgn
      rw [if_pos this, if_pos hx, if_neg (by omega), if_pos hy]
      rfl
  · subst hx
    rw [Int.zero_mul]
    show (0 : Int) = 0 * sgn y
    omega
  · rcases Int.lt_trichotomy y 0 with hy | hy | hy
    · have := Int.mul_neg_of_pos_of_neg hx hy
      unfold sgn
      rw [if_pos this, if_neg (by omega), if_pos hx, if_pos hy]
      rfl
    · subst hy
      rw [Int.mul_zero]
      show (0 : Int) = sgn x * 0
      omega
    · have := Int.mul_pos hx hy
      unfold sgn
      rw [if_neg (by omega), if_pos this, if_neg (by omega), if_pos hx, if_neg (by omega), if_pos hy]
      rfl
theorem cw_sgn (ya yb t : Int) : cw (sgn ya) (sgn yb) (sgn t) = cw ya yb t := by
  unfold cw
  have h1 : sgn ya ≤ 0 ↔ ya ≤ 0 := by have := @pk_pos ya; omega
  have h2 : sgn yb ≤ 0 ↔ yb ≤ 0 := by have := @pk_pos yb; omega
  simp only [h1, h2, pk_pos, pk_lt]
/-- Three numbers that sum up to nought: one is above it just if one is below. -/
def mix (x y z : Int) : Bool := (decide (0 < x) || decide (0 < y) || decide (0 < z)) == (decide (x < 0) || decide (y < 0) || decide (z < 0))
theorem mix_sum {x y z : Int} (h : x + y + z = 0) : mix (sgn x) (sgn y) (sgn z) = true := by
  unfold mix
  simp only [pk_pos, pk_lt]
  rw [beq_iff_eq, Bool.eq_iff_iff]
  simp only [Bool.or_eq_true, decide_eq_true_eq]
  omega

/-- What the signs at a point tell of a triangle that turns to the left. -/
def triOk (ya yb yc ta tb tc : Int) : Bool :=
  !mix (ta * ya) (tb * yb) (tc * yc) || (decide (ya = 0) && decide (yb = 0) && decide (yc = 0)) || !(decide (0 < ta) || decide (0 < tb) || decide (0 < tc)) ||
    (let w := cw ya yb tc + cw yb yc ta + cw yc ya tb
     let v := cw (-ya) (-yb) tc + cw (-yb) (-yc) ta + cw (-yc) (-ya) tb
     if ta < 0 ∨ tb < 0 ∨ tc < 0 then decide (w = 0) && decide (v = 0)
     else if 0 < ta ∧ 0 < tb ∧ 0 < tc then decide (w = 1) && decide (v = 1)
     else if 0 < ta ∧ 0 < tb then decide (w + v = 1) && decide (w = if 0 < ya ∨ (ya = 0 ∧ 0 < yc) then 1 else 0)
     else true)
theorem triAll : (([-1, 0, 1] : List Int).all fun ya => ([-1, 0, 1] : List Int).all fun yb => ([-1, 0, 1] : List Int).all fun yc => ([-1, 0, 1] : List Int).all fun ta => ([-1, 0, 1] : List Int).all fun tb => ([-1, 0, 1] : List Int).all fun tc => triOk ya yb yc ta tb tc) = true := by decide +kernel
theorem tri_at (ya yb yc ta tb tc : Int) : triOk (sgn ya) (sgn yb) (sgn yc) (sgn ta) (sgn tb) (sgn tc) = true :=
  List.all_eq_true.1 (List.all_eq_true.1 (List.all_eq_true.1 (List.all_eq_true.1 (List.all_eq_true.1 (List.all_eq_true.1 triAll _ (pk_mem ya)) _ (pk_mem yb)) _ (pk_mem yc)) _ (pk_mem ta)) _ (pk_mem tb)) _ (pk_mem tc)
theorem pk_neg (y p : Int) : -sgn (y - p) = sgn (p - y) := by rw [← sgn_neg]; congr 1; omega
theorem pk_zero {x : Int} : sgn x = 0 ↔ x = 0 := by have := @pk_pos x; have := @pk_lt x; omega

/-- All that is told of a triangle at a point. -/
theorem tri_told {a b c : Pp} (h : 0 < ar a b c) (p : Pp) :
    ((ar b c p < 0 ∨ ar c a p < 0 ∨ ar a b p < 0) → w3 a b c p = 0 ∧ v3 a b c p = 0) ∧
    (0 < ar b c p → 0 < ar c a p → 0 < ar a b p → w3 a b c p = 1 ∧ v3 a b c p = 1) ∧
    (0 < ar b c p → 0 < ar c a p → ar a b p = 0 → w3 a b c p + v3 a b c p = 1 ∧ w3 a b c p = if 0 < a.2 - p.2 ∨ (a.2 - p.2 = 0 ∧ 0 < c.2 - p.2) then 1 else 0) := by
  have t := tri_at (a.2 - p.2) (b.2 - p.2) (c.2 - p.2) (ar b c p) (ar c a p) (ar a b p)
  have hm : mix (sgn (ar b c p) * sgn (a.2 - p.2)) (sgn (ar c a p) * sgn (b.2 - p.2)) (sgn (ar a b p) * sgn (c.2 - p.2)) = true := by
    rw [← pk_sgn_mul, ← pk_sgn_mul, ← pk_sgn_mul]
    exact mix_sum (ar_ys a b c p)
  have hz : (decide (sgn (a.2 - p.2) = 0) && decide (sgn (b.2 - p.2) = 0) && decide (sgn (c.2 - p.2) = 0)) = false := by
    cases hx : (decide (sgn (a.2 - p.2) = 0) && decide (sgn (b.2 - p.2) = 0) && decide (sgn (c.2 - p.2) = 0)) with
    | false => rfl
    | true =>
      simp only [Bool.and_eq_true, decide_eq_true_eq, pk_zero] at hx
      have e : ar a b c = 0 := by
        unfold ar area
        rw [show c.2 - a.2 = 0 by omega, show b.2 - a.2 = 0 by omega, Int.mul_zero, Int.zero_mul]
        rfl
      omega
  have hs := ar_sum a b c p
  have hp : (decide (0 < sgn (ar b c p)) || decide (0 < sgn (ar c a p)) || decide (0 < sgn (ar a b p))) = true := by
    simp only [Bool.or_eq_true, decide_eq_true_eq, pk_pos]
    omega
  unfold triOk at t
  rw [hm, hz, hp] at t
  simp only [Bool.not_true, Bool.false_or, pk_neg, cw_sgn, pk_lt, pk_pos, pk_zero] at t
  have ew : w3 a b c p = cw (a.2 - p.2) (b.2 - p.2) (ar a b p) + cw (b.2 - p.2) (c.2 - p.2) (ar b c p) + cw (c.2 - p.2) (a.2 - p.2) (ar c a p) := rfl
  have ev : v3 a b c p = cw (p.2 - a.2) (p.2 - b.2) (ar a b p) + cw (p.2 - b.2) (p.2 - c.2) (ar b c p) + cw (p.2 - c.2) (p.2 - a.2) (ar c a p) := rfl
  rw [← ew, ← ev] at t
  refine ⟨fun g => ?_, fun g1 g2 g3 => ?_, fun g1 g2 g3 => ?_⟩
  · rw [if_pos g] at t
    simpa only [Bool.and_eq_true, decide_eq_true_eq] using t
  · rw [if_neg (by omega), if_pos ⟨g1, g2, g3⟩] at t
    simpa only [Bool.and_eq_true, decide_eq_true_eq] using t
  · rw [if_neg (by omega), if_neg (by omega), if_pos ⟨g1, g2⟩] at t
    simpa only [Bool.and_eq_true, decide_eq_true_eq] using t

/-- At its own corners. -/
theorem tri_ends {a b c : Pp} (h : 0 < ar a b c) : o3 a b c a + o3 a b c b + o3 a b c c = 1 := by
  have hne : ¬ (a.2 = b.2 ∧ b.2 = c.2) := fun e => by
    have : ar a b c = 0 := by
      unfold ar area
      rw [show c.2 - a.2 = 0 by omega, show b.2 - a.2 = 0 by omega, Int.mul_zero, Int.zero_mul]
      rfl
    omega
  have e1 : ar b c a = ar a b c := ar_rot a b c
  have e2 : ar c a b = ar a b c := by rw [ar_rot, ar_rot]
  unfold o3 w3 v3 ce cf
  rw [ar_aba a b, ar_abb c a, ar_aba b c, ar_abb a b, ar_aba c a, ar_abb b c, e1, e2]
  simp only [cw_zero, cw_up h]
  rcases Int.lt_trichotomy a.2 b.2 with g1 | g1 | g1 <;> rcases Int.lt_trichotomy b.2 c.2 with g2 | g2 | g2 <;> rcases Int.lt_trichotomy a.2 c.2 with g3 | g3 | g3 <;> first
    | (exfalso; omega)
    | (repeat (first | rw [if_pos (by omega)] | rw [if_neg (by omega)]))
  all_goals rfl
end Go.Proofs.Ytepnjknblppfcaa

namespace Go.Proofs.Ytepnjknblppfcaa

/-- A sum over the grid. -/
def gs (f : Pp → Int) : Int := sN 8 fun x => sN 8 fun y => f ((x : Int), (y : Int))
def In8 (p : Pp) : Prop := 0 ≤ p.1 ∧ p.1 < 8 ∧ 0 ≤ p.2 ∧ p.2 < 8
theorem gs_congr {f g : Pp → Int} (h : ∀ p, In8 p → f p = g p) : gs f = gs g :=
  sN_congr fun x hx => sN_congr fun y hy => h _ ⟨by dsimp only; omega, by dsimp only; omega, by dsimp only; omega, by dsimp only; omega⟩
theorem gs_add (f g : Pp → Int) : gs (fun p => f p + g p) = gs f + gs g := by
  unfold gs
  rw [← sN_plus]
  exact sN_congr fun x _ => sN_plus _ _ _
theorem gs_neg (f : Pp → Int) : gs (fun p => -f p) = -gs f := by
  unfold gs
  rw [← sN_neg]
  exact sN_congr fun x _ => sN_neg _ _
theorem sN_none {g : Nat → Int} : ∀ {n : Nat}, (∀ i, i < n → g i = 0) → sN n g = 0
  | 0, _ => rfl
  | n + 1, h => by
    unfold sN
    rw [sN_none (fun i hi => h i (by omega)), h n (by omega)]
    rfl
theorem sN_one {g : Nat → Int} {k : Nat} : ∀ {n : Nat}, k < n → (∀ i, i < n → i ≠ k → g i = 0) → sN n g = g k
  | 0, hk, _ => by omega
  | n + 1, hk, h => by
    unfold sN
    by_cases e : k = n
    · subst e
      rw [sN_none (fun i hi => h i (by omega) (by omega))]
      omega
    · rw [sN_one (k := k) (by omega) (fun i hi => h i (by omega)), h n (by omega) (fun e' => e e'.symm)]
      omega
/-- A sum of which one point counts alone. -/
theorem gs_one {f : Pp → Int} {v : Pp} (hv : In8 v) (h : ∀ p, p ≠ v → f p = 0) : gs f = f v := by
  obtain ⟨vx, vy⟩ := v
  obtain ⟨h1, h2, h3, h4⟩ := hv
  dsimp only at h1 h2 h3 h4
  obtain ⟨i, rfl⟩ : ∃ i : Nat, vx = (i : Int) := ⟨vx.toNat, by omega⟩
  obtain ⟨j, rfl⟩ : ∃ j : Nat, vy = (j : Int) := ⟨vy.toNat, by omega⟩
  unfold gs
  rw [sN_one (k := i) (by omega) (fun x _ hx => sN_none fun y _ => h _ (fun e => hx (by injection e with e1 e2; omega)))]
  exact sN_one (k := j) (by omega) (fun y _ hy => h _ (fun e => hy (by injection e with e1 e2; omega)))

def sideOk (a b c d : Nat) : Bool := gs (fun p => om ((a : Int), (b : Int)) ((c : Int), (d : Int)) p) == ((d : Int) - (b : Int)) * ((a : Int) + (c : Int) - 7)
set_option maxRecDepth 100000 in
theorem sideAll : ((List.range 8).all fun a => (List.range 8).all fun c => (List.range 8).all fun d => (List.range d).all fun b => sideOk a b c d) = true := by decide +kernel
theorem side_up {a b : Pp} (ha : In8 a) (hb : In8 b) (h : a.2 < b.2) : gs (om a b) = (b.2 - a.2) * (a.1 + b.1 - 7) := by
  obtain ⟨ax, ay⟩ := a
  obtain ⟨bx, by'⟩ := b
  obtain ⟨h1, h2, h3, h4⟩ := ha
  obtain ⟨h5, h6, h7, h8⟩ := hb
  dsimp only at h h1 h2 h3 h4 h5 h6 h7 h8
  obtain ⟨i, rfl⟩ : ∃ i : Nat, ax = (i : Int) := ⟨ax.toNat, by omega⟩
  obtain ⟨j, rfl⟩ : ∃ j : Nat, ay = (j : Int) := ⟨ay.toNat, by omega⟩
  obtain ⟨k, rfl⟩ : ∃ k : Nat, bx = (k : Int) := ⟨bx.toNat, by omega⟩
  obtain ⟨l, rfl⟩ : ∃ l : Nat, by' = (l : Int) := ⟨by'.toNat, by omega⟩
  have q := List.all_eq_true.1 (List.all_eq_true.1 (List.all_eq_true.1 (List.all_eq_true.1 sideAll i (List.mem_range.2 (by omega))) k (List.mem_range.2 (by omega))) l (List.mem_range.2 (by omega))) j (List.mem_range.2 (by omega))
  exact eq_of_beq q
theorem side_sum {a b : Pp} (ha : In8 a) (hb : In8 b) : gs (om a b) = (b.2 - a.2) * (a.1 + b.1 - 7) := by
  rcases Int.lt_trichotomy a.2 b.2 with h | h | h
  · exact side_up ha hb h
  · rw [show b.2 - a.2 = 0 by omega, Int.zero_mul]
    have e : ∀ p, om a b p = 0 := fun p => by
      unfold om ce cf cw
      rw [if_neg (by omega), if_neg (by omega), if_neg (by omega), if_neg (by omega)]
      rfl
    exact (gs_congr (g := fun _ => 0) fun p _ => e p).trans (sN_none fun _ _ => sN_none fun _ _ => rfl)
  · have q := side_up hb ha h
    have e : gs (om a b) = gs (fun p => -om b a p) := gs_congr fun p _ => by
      unfold om
      rw [ce_anti a b, cf_anti a b]
      omega
    rw [e, gs_neg, q, Int.add_comm b.1 a.1, ← Int.neg_mul]
    congr 1
    omega
theorem tri_sum {a b c : Pp} (ha : In8 a) (hb : In8 b) (hc : In8 c) : gs (o3 a b c) = ar a b c := by
  have e : gs (o3 a b c) = gs (fun p => om a b p + (om b c p + om c a p)) := gs_congr fun p _ => by
    unfold o3 w3 v3 om
    omega
  rw [e, gs_add, gs_add, side_sum ha hb, side_sum hb hc, side_sum hc ha]
  unfold ar area
  grind
end Go.Proofs.Ytepnjknblppfcaa
