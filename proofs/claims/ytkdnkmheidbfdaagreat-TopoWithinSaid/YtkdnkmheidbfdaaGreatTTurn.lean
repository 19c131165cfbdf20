/-
  Of two directions the one that is met first, turning from a third: the next one, the one ahead, what lies between, and the order of all.
-/
import Derived.Test.YtkdnkmheidbfdaaGreatM0
namespace Go.Proofs.YtkdnkmheidbfdaaGreat

/-- Of a and b, both unlike d, the one that is met first, turning to the left from d. -/
def afterD (d a b : Pp) : Int :=
  if cmpD a d < 0 ∧ ¬ cmpD b d < 0 then 1 else if ¬ cmpD a d < 0 ∧ cmpD b d < 0 then -1 else cmpD a b
/-- One place more is looked at. -/
def stepF (l : List Pp) (i : Nat) (d : Pp) (way : Int) (best k : Nat) : Nat :=
  if noneD (l.getD k (0, 0)) = true ∨ cmpD (l.getD k (0, 0)) d = 0 then best
  else if best = i ∨ way * afterD d (l.getD k (0, 0)) (l.getD best (0, 0)) < 0 then k else best
def stepN (l : List Pp) (i : Nat) (way : Int) : Nat := (List.range l.length).foldl (stepF l i (l.getD i (0, 0)) way) i
def stepD (l : List Pp) (i : Int) (way : Int) : Int :=
  if i < 0 ∨ (l.length : Int) ≤ i ∨ noneD (l.getD i.toNat (0, 0)) = true then i else (stepN l i.toNat way : Nat)
def betwD (a b d : Pp) : Bool :=
  !noneD a && !noneD b && !noneD d && !(cmpD a d == 0) && !(cmpD b d == 0) && (cmpD a b == 0 || decide (afterD a d b < 0))
/-- Where a place is put among those that stand in order. -/
def insP (l : List Pp) (out : List Nat) (i : Nat) : Nat → Nat
  | 0 => 0
  | k + 1 => if 0 < cmpD (l.getD (out.getD k 0) (0, 0)) (l.getD i (0, 0)) then insP l out i k else k + 1
def insD (l : List Pp) (out : List Nat) (i : Nat) : List Nat := out.take (insP l out i out.length) ++ i :: out.drop (insP l out i out.length)
def sortD (l : List Pp) : List Nat := (List.range l.length).foldl (insD l) []

theorem insP_le (l : List Pp) (out : List Nat) (i : Nat) : ∀ k, insP l out i k ≤ k
  | 0 => Nat.le_refl _
  | k + 1 => by
    unfold insP
    split
    · exact Nat.le_succ_of_le (insP_le l out i k)
    · exact Nat.le_refl _
theorem insD_length (l : List Pp) (out : List Nat) (i : Nat) : (insD l out i).length = out.length + 1 := by
  have := insP_le l out i out.length
  unfold insD
  simp
  omega
theorem sortN_length (l : List Pp) (k : Nat) : ((List.range k).foldl (insD l) []).length = k := by
  induction k with
  | zero => rfl
  | succ k ih => rw [List.range_succ, List.foldl_append, List.foldl_cons, List.foldl_nil, insD_length, ih]
theorem sortD_length (l : List Pp) : (sortD l).length = l.length := sortN_length l l.length

theorem cross_negl (a b : Pp) : crossD (negD a) b = -crossD a b := by
  unfold crossD negD
  dsimp only
  rw [Int.neg_mul, Int.mul_neg]
  omega
theorem cross_negr (a b : Pp) : crossD a (negD b) = -crossD a b := by
  unfold crossD negD
  dsimp only
  rw [Int.neg_mul, Int.mul_neg]
  omega
theorem half_ok {d : Pp} (h : noneD d = false) : halfD d = 0 ∨ halfD d = 1 := by
  unfold halfD
  rw [h]
  simp only [Bool.false_eq_true, if_false]
  split
  · exact .inl rfl
  · exact .inr rfl
/-- Met first, by the crosses alone. -/
def relC (p q r : Int) : Int := if 0 < p then (if 0 < q then -sgn r else -1) else if 0 < q then 1 else -sgn r
theorem rel_up {d a b : Pp} (hd : Up d) (ha : Up a) (hb : Up b) :
    (0 ≤ crossD d a → 0 ≤ crossD a b → 0 ≤ crossD d b) ∧ (0 ≤ crossD d b → crossD a b ≤ 0 → 0 ≤ crossD d a) ∧ (crossD d a ≤ 0 → 0 ≤ crossD d b → 0 ≤ crossD a b) ∧
    (0 ≤ crossD a b → crossD d b ≤ 0 → crossD d a ≤ 0) ∧ (crossD d b ≤ 0 → 0 ≤ crossD d a → crossD a b ≤ 0) ∧ (crossD a b ≤ 0 → crossD d a ≤ 0 → crossD d b ≤ 0) := by
  have e1 := crossD_anti d a
  have e2 := crossD_anti d b
  have e3 := crossD_anti a b
  have t1 := @up_le d a b hd ha hb
  have t2 := @up_le d b a hd hb ha
  have t3 := @up_le a d b ha hd hb
  have t4 := @up_le a b d ha hb hd
  have t5 := @up_le b d a hb hd ha
  have t6 := @up_le b a d hb ha hd
  omega
theorem cmp_same {a b : Pp} (ha : halfD a = halfD b) (hb : halfD b = 0 ∨ halfD b = 1) : cmpD a b = -sgn (crossD a b) := by
  unfold cmpD
  rw [ha]
  rcases hb with h | h <;> rw [h] <;> simp
theorem cmp_lo {a b : Pp} (ha : halfD a = 0) (hb : halfD b = 1) : cmpD a b = -1 := by unfold cmpD; rw [ha, hb]; simp [sgn]
theorem cmp_hi {a b : Pp} (ha : halfD a = 1) (hb : halfD b = 0) : cmpD a b = 1 := by unfold cmpD; rw [ha, hb]; simp [sgn]
theorem sgn_is (t : Int) : (sgn t = 1 ↔ 0 < t) ∧ (sgn t = -1 ↔ t < 0) ∧ -1 ≤ sgn t ∧ sgn t ≤ 1 := by unfold sgn; split <;> (try split) <;> omega
set_option maxHeartbeats 1600000 in
theorem after_is {d a b : Pp} (hd : noneD d = false) (ha : noneD a = false) (hb : noneD b = false) (had : cmpD a d ≠ 0) (hbd : cmpD b d ≠ 0) :
    afterD d a b = relC (crossD d a) (crossD d b) (crossD a b) := by
  have e1 := crossD_anti d a
  have e2 := crossD_anti d b
  have key : ∀ {d a b : Pp}, Up d → Up a → Up b → _ := fun {d a b} h1 h2 h3 => rel_up (d := d) (a := a) (b := b) h1 h2 h3
  unfold afterD relC
  rcases half_ok hd with kd | kd <;> rcases half_ok ha with ka | ka <;> rcases half_ok hb with kb | kb
  · have k := key (half_up kd) (half_up ka) (half_up kb)
    rw [cmp_same (ka.trans kd.symm) (.inl kd)] at had ⊢
    rw [cmp_same (kb.trans kd.symm) (.inl kd)] at hbd ⊢
    rw [cmp_same (ka.trans kb.symm) (.inl kb), e1, e2]
    rw [e1] at had
    rw [e2] at hbd
    clear e1 e2 key kd ka kb hd ha hb
    try simp only [sgn_neg] at *
    have s1 := sgn_is (crossD d a)
    have s2 := sgn_is (crossD d b)
    have s3 := sgn_is (crossD a b)
    generalize sgn (crossD d a) = SP at *
    generalize sgn (crossD d b) = SQ at *
    generalize sgn (crossD a b) = SR at *
    generalize crossD d a = P at *
    generalize crossD d b = Q at *
    generalize crossD a b = R at *
    repeat' split
    all_goals omega
  · have k := key (half_up kd) (half_up ka) (half_down kb)
    rw [cross_negr, cross_negr] at k
    rw [cmp_same (ka.trans kd.symm) (.inl kd)] at had ⊢
    rw [cmp_hi kb kd] at hbd ⊢
    rw [cmp_lo ka kb, e1]
    rw [e1] at had
    clear e1 e2 key kd ka kb hd ha hb
    try simp only [sgn_neg] at *
    have s1 := sgn_is (crossD d a)
    have s2 := sgn_is (crossD d b)
    have s3 := sgn_is (crossD a b)
    generalize sgn (crossD d a) = SP at *
    generalize sgn (crossD d b) = SQ at *
    generalize sgn (crossD a b) = SR at *
    generalize crossD d a = P at *
    generalize crossD d b = Q at *
    generalize crossD a b = R at *
    repeat' split
    all_goals omega
  · have k := key (half_up kd) (half_down ka) (half_up kb)
    rw [cross_negr, cross_negl] at k
    rw [cmp_hi ka kd] at had ⊢
    rw [cmp_same (kb.trans kd.symm) (.inl kd)] at hbd ⊢
    rw [cmp_hi ka kb, e2]
    rw [e2] at hbd
    clear e1 e2 key kd ka kb hd ha hb
    try simp only [sgn_neg] at *
    have s1 := sgn_is (crossD d a)
    have s2 := sgn_is (crossD d b)
    have s3 := sgn_is (crossD a b)
    generalize sgn (crossD d a) = SP at *
    generalize sgn (crossD d b) = SQ at *
    generalize sgn (crossD a b) = SR at *
    generalize crossD d a = P at *
    generalize crossD d b = Q at *
    generalize crossD a b = R at *
    repeat' split
    all_goals omega
  · have k := key (half_up kd) (half_down ka) (half_down kb)
    rw [cross_negr, cross_negr, cross_negr, cross_negl] at k
    rw [cmp_hi ka kd] at had ⊢
    rw [cmp_hi kb kd] at hbd ⊢
    rw [cmp_same (ka.trans kb.symm) (.inr kb)]
    clear e1 e2 key kd ka kb hd ha hb
    try simp only [sgn_neg] at *
    have s1 := sgn_is (crossD d a)
    have s2 := sgn_is (crossD d b)
    have s3 := sgn_is (crossD a b)
    generalize sgn (crossD d a) = SP at *
    generalize sgn (crossD d b) = SQ at *
    generalize sgn (crossD a b) = SR at *
    generalize crossD d a = P at *
    generalize crossD d b = Q at *
    generalize crossD a b = R at *
    repeat' split
    all_goals omega
  · have k := key (half_down kd) (half_up ka) (half_up kb)
    rw [cross_negl, cross_negl] at k
    rw [cmp_lo ka kd] at had ⊢
    rw [cmp_lo kb kd] at hbd ⊢
    rw [cmp_same (ka.trans kb.symm) (.inl kb)]
    clear e1 e2 key kd ka kb hd ha hb
    try simp only [sgn_neg] at *
    have s1 := sgn_is (crossD d a)
    have s2 := sgn_is (crossD d b)
    have s3 := sgn_is (crossD a b)
    generalize sgn (crossD d a) = SP at *
    generalize sgn (crossD d b) = SQ at *
    generalize sgn (crossD a b) = SR at *
    generalize crossD d a = P at *
    generalize crossD d b = Q at *
    generalize crossD a b = R at *
    repeat' split
    all_goals omega
  · have k := key (half_down kd) (half_up ka) (half_down kb)
    rw [cross_negl, cross_negl, cross_negr, cross_negr] at k
    rw [cmp_lo ka kd] at had ⊢
    rw [cmp_same (kb.trans kd.symm) (.inr kd)] at hbd ⊢
    rw [cmp_lo ka kb, e2]
    rw [e2] at hbd
    clear e1 e2 key kd ka kb hd ha hb
    try simp only [sgn_neg] at *
    have s1 := sgn_is (crossD d a)
    have s2 := sgn_is (crossD d b)
    have s3 := sgn_is (crossD a b)
    generalize sgn (crossD d a) = SP at *
    generalize sgn (crossD d b) = SQ at *
    generalize sgn (crossD a b) = SR at *
    generalize crossD d a = P at *
    generalize crossD d b = Q at *
    generalize crossD a b = R at *
    repeat' split
    all_goals omega
  · have k := key (half_down kd) (half_down ka) (half_up kb)
    rw [cross_negl, cross_negl, cross_negr, cross_negl] at k
    rw [cmp_same (ka.trans kd.symm) (.inr kd)] at had ⊢
    rw [cmp_lo kb kd] at hbd ⊢
    rw [cmp_hi ka kb, e1]
    rw [e1] at had
    clear e1 e2 key kd ka kb hd ha hb
    try simp only [sgn_neg] at *
    have s1 := sgn_is (crossD d a)
    have s2 := sgn_is (crossD d b)
    have s3 := sgn_is (crossD a b)
    generalize sgn (crossD d a) = SP at *
    generalize sgn (crossD d b) = SQ at *
    generalize sgn (crossD a b) = SR at *
    generalize crossD d a = P at *
    generalize crossD d b = Q at *
    generalize crossD a b = R at *
    repeat' split
    all_goals omega
  · have k := key (half_down kd) (half_down ka) (half_down kb)
    simp only [cross_neg] at k
    rw [cmp_same (ka.trans kd.symm) (.inr kd)] at had ⊢
    rw [cmp_same (kb.trans kd.symm) (.inr kd)] at hbd ⊢
    rw [cmp_same (ka.trans kb.symm) (.inr kb), e1, e2]
    rw [e1] at had
    rw [e2] at hbd
    clear e1 e2 key kd ka kb hd ha hb
    try simp only [sgn_neg] at *
    have s1 := sgn_is (crossD d a)
    have s2 := sgn_is (crossD d b)
    have s3 := sgn_is (crossD a b)
    generalize sgn (crossD d a) = SP at *
    generalize sgn (crossD d b) = SQ at *
    generalize sgn (crossD a b) = SR at *
    generalize crossD d a = P at *
    generalize crossD d b = Q at *
    generalize crossD a b = R at *
    repeat' split
    all_goals omega

/-- Turned by a quarter. -/
def rotD (d : Pp) : Pp := (-d.2, d.1)
def dotD (a b : Pp) : Int := a.1 * b.1 + a.2 * b.2
theorem none_rot (d : Pp) : noneD (rotD d) = noneD d := by
  rw [Bool.eq_iff_iff]
  unfold noneD rotD
  simp only [Bool.or_eq_true, Bool.and_eq_true, beq_iff_eq, decide_eq_true_eq]
  omega
theorem cross_rot (a b : Pp) : crossD (rotD a) (rotD b) = crossD a b := by
  unfold crossD rotD
  dsimp only
  have h1 := Int.neg_mul a.2 b.1
  have h2 := Int.neg_mul b.2 a.1
  have h3 := Int.mul_comm a.2 b.1
  have h4 := Int.mul_comm b.2 a.1
  omega
theorem dot_rot (a b : Pp) : dotD (rotD a) (rotD b) = dotD a b := by
  unfold dotD rotD
  dsimp only
  have h := Int.neg_mul_neg a.2 b.2
  omega
theorem dot_negr (a b : Pp) : dotD a (negD b) = -dotD a b := by
  unfold dotD negD
  dsimp only
  rw [Int.mul_neg, Int.mul_neg]
  omega
theorem dot_comm (a b : Pp) : dotD b a = dotD a b := by
  unfold dotD
  rw [Int.mul_comm b.1, Int.mul_comm b.2]
/-- In one half, and no cross: alike. -/
theorem up_dot {a b : Pp} (ha : Up a) (hb : Up b) (h : crossD a b = 0) : 0 < dotD a b := by
  unfold crossD at h
  unfold dotD
  rcases ha with ha | ⟨ha, ha'⟩
  · have hb2 : 0 < b.2 := by
      rcases hb with g | ⟨g, g'⟩
      · exact g
      · rw [g, Int.mul_zero] at h
        have := Int.mul_pos g' ha
        omega
    have h22 := Int.mul_pos ha hb2
    have h11 : 0 ≤ a.1 * b.1 := by
      refine Classical.byContradiction fun hx => ?_
      rcases (show 0 ≤ a.1 ∨ a.1 < 0 by omega) with g | g
      · have hb1 : b.1 < 0 := by
          refine Classical.byContradiction fun hy => ?_
          have := Int.mul_nonneg g (show 0 ≤ b.1 by omega)
          omega
        have u1 := Int.mul_nonneg g (show 0 ≤ b.2 by omega)
        have u2 := Int.mul_neg_of_neg_of_pos hb1 ha
        omega
      · have hb1 : 0 < b.1 := by
          refine Classical.byContradiction fun hy => ?_
          have := Int.mul_nonneg (show 0 ≤ -a.1 by omega) (show 0 ≤ -b.1 by omega)
          rw [Int.neg_mul_neg] at this
          omega
        have u1 := Int.mul_neg_of_neg_of_pos g hb2
        have u2 := Int.mul_pos hb1 ha
        omega
    omega
  · rw [ha, Int.mul_zero] at h
    have hb2 : b.2 = 0 := by
      rcases hb with g | g
      · have := Int.mul_pos ha' g
        omega
      · exact g.1
    have hb1 : 0 < b.1 := by unfold Up at hb; omega
    rw [ha, hb2, Int.mul_zero]
    have := Int.mul_pos ha' hb1
    omega
/-- Alike: no cross, and on the same side. -/
theorem cmp_zero {a b : Pp} (ha : noneD a = false) (hb : noneD b = false) : cmpD a b = 0 ↔ crossD a b = 0 ∧ 0 < dotD a b := by
  rcases half_ok ha with ka | ka <;> rcases half_ok hb with kb | kb
  · rw [cmp_same (ka.trans kb.symm) (.inl kb)]
    have h := @up_dot a b (half_up ka) (half_up kb)
    have g := sgn_is (crossD a b)
    omega
  · rw [cmp_lo ka kb]
    have h := @up_dot a (negD b) (half_up ka) (half_down kb)
    rw [cross_negr, dot_negr] at h
    omega
  · rw [cmp_hi ka kb]
    have h := @up_dot b (negD a) (half_up kb) (half_down ka)
    rw [cross_negr, dot_negr, crossD_anti a b, dot_comm a b] at h
    omega
  · rw [cmp_same (ka.trans kb.symm) (.inr kb)]
    have h := @up_dot (negD a) (negD b) (half_down ka) (half_down kb)
    rw [cross_neg, dot_negr, dot_comm b, dot_negr, dot_comm a b] at h
    have g := sgn_is (crossD a b)
    omega
theorem cmp_zero_rot {a b : Pp} (ha : noneD a = false) (hb : noneD b = false) : cmpD (rotD a) (rotD b) = 0 ↔ cmpD a b = 0 := by
  rw [cmp_zero ha hb, cmp_zero ((none_rot a).trans ha) ((none_rot b).trans hb), cross_rot, dot_rot]
theorem after_rot {d a b : Pp} (hd : noneD d = false) (ha : noneD a = false) (hb : noneD b = false) (had : cmpD a d ≠ 0) (hbd : cmpD b d ≠ 0) : afterD (rotD d) (rotD a) (rotD b) = afterD d a b := by
  rw [after_is hd ha hb had hbd, after_is ((none_rot d).trans hd) ((none_rot a).trans ha) ((none_rot b).trans hb) (fun h => had ((cmp_zero_rot ha hd).1 h)) (fun h => hbd ((cmp_zero_rot hb hd).1 h)), cross_rot, cross_rot, cross_rot]
theorem half_neg {d : Pp} (h : noneD d = false) : halfD (negD d) ≠ halfD d := by
  have h' : noneD (negD d) = false := by
    rw [← h, Bool.eq_iff_iff]
    unfold noneD negD
    simp only [Bool.or_eq_true, Bool.and_eq_true, beq_iff_eq, decide_eq_true_eq]
    omega
  have h0 : ¬ (d.1 = 0 ∧ d.2 = 0) := by
    rintro ⟨e1, e2⟩
    unfold noneD at h
    rw [e1, e2] at h
    cases h
  unfold halfD
  rw [h, h']
  simp only [Bool.false_eq_true, if_false]
  unfold negD
  dsimp only
  split <;> split <;> omega
theorem betw_rot (a b d : Pp) : betwD (rotD a) (rotD b) (rotD d) = betwD a b d := by
  unfold betwD
  rw [none_rot, none_rot, none_rot]
  cases ha : noneD a
  · cases hb : noneD b
    · cases hd : noneD d
      · have e1 := cmp_zero_rot ha hd
        have e2 := cmp_zero_rot hb hd
        have e3 := cmp_zero_rot ha hb
        have f1 : (cmpD (rotD a) (rotD d) == 0) = (cmpD a d == 0) := by rw [Bool.eq_iff_iff, beq_iff_eq, beq_iff_eq]; exact e1
        have f2 : (cmpD (rotD b) (rotD d) == 0) = (cmpD b d == 0) := by rw [Bool.eq_iff_iff, beq_iff_eq, beq_iff_eq]; exact e2
        have f3 : (cmpD (rotD a) (rotD b) == 0) = (cmpD a b == 0) := by rw [Bool.eq_iff_iff, beq_iff_eq, beq_iff_eq]; exact e3
        rw [f1, f2, f3]
        cases g1 : (cmpD a d == 0)
        · cases g3 : (cmpD a b == 0)
          · have h1 : cmpD d a ≠ 0 := by
              rw [cmpD_anti a d]
              have := beq_eq_false_iff_ne.1 g1
              omega
            have h2 : cmpD b a ≠ 0 := by
              rw [cmpD_anti a b]
              have := beq_eq_false_iff_ne.1 g3
              omega
            rw [after_rot ha hd hb h1 h2]
          · simp
        · simp
      · simp
    · simp
  · simp
theorem getD_map_rot (l : List Pp) (k : Nat) : (l.map rotD).getD k (0, 0) = rotD (l.getD k (0, 0)) := by
  rw [List.getD_eq_getElem?_getD, List.getD_eq_getElem?_getD, List.getElem?_map]
  cases l[k]? <;> rfl
/-- What the walk over the places keeps: it stands at i, or at one unlike it. -/
theorem step_rot (l : List Pp) (i : Nat) (way : Int) (hi : noneD (l.getD i (0, 0)) = false) : ∀ (ks : List Nat) (best : Nat), (best = i ∨ (noneD (l.getD best (0, 0)) = false ∧ cmpD (l.getD best (0, 0)) (l.getD i (0, 0)) ≠ 0)) →
    ks.foldl (stepF (l.map rotD) i (rotD (l.getD i (0, 0))) way) best = ks.foldl (stepF l i (l.getD i (0, 0)) way) best
  | [], _, _ => rfl
  | k :: ks, best, hb => by
    rw [List.foldl_cons, List.foldl_cons]
    have e : stepF (l.map rotD) i (rotD (l.getD i (0, 0))) way best k = stepF l i (l.getD i (0, 0)) way best k := by
      unfold stepF
      rw [getD_map_rot, getD_map_rot, none_rot]
      cases hk : noneD (l.getD k (0, 0))
      · by_cases hc : cmpD (l.getD k (0, 0)) (l.getD i (0, 0)) = 0
        · rw [if_pos (.inr ((cmp_zero_rot hk hi).2 hc)), if_pos (.inr hc)]
        · have n1 : ¬ (false = true ∨ cmpD (rotD (l.getD k (0, 0))) (rotD (l.getD i (0, 0))) = 0) := by
            rintro (h | h)
            · cases h
            · exact hc ((cmp_zero_rot hk hi).1 h)
          have n2 : ¬ (false = true ∨ cmpD (l.getD k (0, 0)) (l.getD i (0, 0)) = 0) := by
            rintro (h | h)
            · cases h
            · exact hc h
          rw [if_neg n1, if_neg n2]
          rcases hb with hb | hb
          · rw [if_pos (.inl hb), if_pos (.inl hb)]
          · rw [after_rot hi hk hb.1 hc hb.2]
      · rw [if_pos (.inl rfl), if_pos (.inl rfl)]
    rw [e]
    refine step_rot l i way hi ks _ ?_
    unfold stepF
    split
    · exact hb
    · split
      · rename_i h1 h2
        exact .inr ⟨Bool.eq_false_iff.2 fun h => h1 (.inl h), fun h => h1 (.inr h)⟩
      · exact hb
theorem stepD_rot (l : List Pp) (i way : Int) : stepD (l.map rotD) i way = stepD l i way := by
  unfold stepD
  rw [List.length_map, getD_map_rot, none_rot]
  split
  · rfl
  · rename_i h
    unfold stepN
    rw [List.length_map, getD_map_rot, step_rot l i.toNat way (Bool.eq_false_iff.2 fun g => h (.inr (.inr g))) _ _ (.inl rfl)]
end Go.Proofs.YtkdnkmheidbfdaaGreat
