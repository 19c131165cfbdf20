/-
  Two segments, as exact numbers tell of them.
-/
import Derived.Test.YtepnjknblppfcaaQOn
namespace Go.Proofs.Ytepnjknblppfcaa

/-- Are two points the same? -/
def eqp (a b : Pp) : Bool := a.1 == b.1 && a.2 == b.2
def on2 (a b p : Pp) : Bool := onP a.1 a.2 b.1 b.2 p.1 p.2
def tr2 (a b c : Pp) : Int := sgn (area a.1 a.2 b.1 b.2 c.1 c.2)
/-- Each one's ends lie strictly on both sides of the other. -/
def crs (a b c d : Pp) : Bool := !eqp a b && !eqp c d && decide (tr2 a b c * tr2 a b d < 0) && decide (tr2 c d a * tr2 c d b < 0)
/-- Relate, of which ends are on the other one, which are alike, and whether they cross. -/
def relB (sa sb sc sd ab ac ad bc bd cd x : Bool) : Int :=
  match (sa.toNat + (sb && !(sa && ab)).toNat + (sc && !(sa && ac) && !(sb && bc)).toNat + (sd && !(sa && ad) && !(sb && bd) && !(sc && cd)).toNat) with
  | 0 => if x then 3 else 0
  | 1 => if sa then (if ac || ad then 1 else 2) else if sb then (if bc || bd then 1 else 2) else if sc then (if ac || bc then 1 else 2) else (if ad || bd then 1 else 2)
  | _ => 4
def relP (a b c d : Pp) : Int := relB (on2 c d a) (on2 c d b) (on2 a b c) (on2 a b d) (eqp a b) (eqp a c) (eqp a d) (eqp b c) (eqp b d) (eqp c d) (crs a b c d)

theorem eqp_iff {a b : Pp} : eqp a b = true ↔ a = b := by
  obtain ⟨a1, a2⟩ := a
  obtain ⟨b1, b2⟩ := b
  simp [eqp]
theorem eqp_comm (a b : Pp) : eqp b a = eqp a b := by
  rw [Bool.eq_iff_iff, eqp_iff, eqp_iff]
  exact ⟨Eq.symm, Eq.symm⟩
theorem eqp_self (a : Pp) : eqp a a = true := eqp_iff.2 rfl
theorem area_aba (ax ay bx by' : Int) : area ax ay bx by' ax ay = 0 := by unfold area; simp
theorem area_abb (ax ay bx by' : Int) : area ax ay bx by' bx by' = 0 := by
  unfold area
  rw [Int.mul_comm (bx - ax)]
  omega
theorem on_left (a b : Pp) : on2 a b a = true := by
  unfold on2 onP inBox
  rw [area_aba, ovl_true (by omega), ovl_true (by omega)]
  rfl
theorem on_right (a b : Pp) : on2 a b b = true := by
  unfold on2 onP inBox
  rw [area_abb, ovl_true (by omega), ovl_true (by omega)]
  rfl
theorem area_ab (ax ay bx by' cx cy : Int) : area bx by' ax ay cx cy = -area ax ay bx by' cx cy := by
  unfold area
  rw [Int.sub_mul, Int.sub_mul, Int.sub_mul, Int.sub_mul, Int.mul_sub, Int.mul_sub, Int.mul_sub, Int.mul_sub, Int.mul_sub, Int.mul_sub, Int.mul_sub, Int.mul_sub, Int.mul_comm ax by', Int.mul_comm ay bx, Int.mul_comm by' ax, Int.mul_comm bx ay]
  have e1 := Int.mul_comm ay ax
  have e2 := Int.mul_comm by' bx
  omega
theorem on_ab (a b p : Pp) : on2 b a p = on2 a b p := by
  unfold on2 onP inBox
  rw [area_ab, Int.min_comm b.1, Int.max_comm b.1, Int.min_comm b.2, Int.max_comm b.2]
  congr 1
  rw [Bool.eq_iff_iff, beq_iff_eq, beq_iff_eq]
  omega
theorem tr_ab (a b p : Pp) : tr2 b a p = -tr2 a b p := by unfold tr2; rw [area_ab, sgn_neg]
theorem crs_ab (a b c d : Pp) : crs b a c d = crs a b c d := by
  unfold crs
  rw [eqp_comm, tr_ab, tr_ab a b d, Int.neg_mul_neg, Int.mul_comm (tr2 c d b)]
theorem crs_cd (a b c d : Pp) : crs c d a b = crs a b c d := by
  unfold crs
  cases eqp a b <;> cases eqp c d <;> simp [Bool.and_comm]

/-- What stands of the ends and of which are alike. -/
def flagsOk (sa sb sc sd ab ac ad bc bd cd : Bool) : Bool :=
  (!ab || (sa == sb && ac == bc && ad == bd)) && (!cd || (sc == sd && ac == ad && bc == bd)) && (!ac || (sa && sc && ab == bc && ad == cd)) && (!ad || (sa && sd && ab == bd && ac == cd)) && (!bc || (sb && sc && ab == ac && bd == cd)) && (!bd || (sb && sd && ab == ad && bc == cd))
theorem flags_ok (a b c d : Pp) : flagsOk (on2 c d a) (on2 c d b) (on2 a b c) (on2 a b d) (eqp a b) (eqp a c) (eqp a d) (eqp b c) (eqp b d) (eqp c d) = true := by
  unfold flagsOk
  simp only [Bool.and_eq_true]
  refine ⟨⟨⟨⟨⟨?_, ?_⟩, ?_⟩, ?_⟩, ?_⟩, ?_⟩
  · cases h : eqp a b with
    | false => rfl
    | true => rw [eqp_iff] at h; subst h; simp
  · cases h : eqp c d with
    | false => rfl
    | true => rw [eqp_iff] at h; subst h; simp
  · cases h : eqp a c with
    | false => rfl
    | true => rw [eqp_iff] at h; subst h; simp [on_left, eqp_comm a b]
  · cases h : eqp a d with
    | false => rfl
    | true => rw [eqp_iff] at h; subst h; simp [on_left, on_right, eqp_comm a b, eqp_comm a c]
  · cases h : eqp b c with
    | false => rfl
    | true => rw [eqp_iff] at h; subst h; simp [on_left, on_right]
  · cases h : eqp b d with
    | false => rfl
    | true => rw [eqp_iff] at h; subst h; simp [on_right, eqp_comm b c]
theorem relB_ab : ∀ sa sb sc sd ab ac ad bc bd cd x : Bool, flagsOk sa sb sc sd ab ac ad bc bd cd = true → relB sb sa sc sd ab bc bd ac ad cd x = relB sa sb sc sd ab ac ad bc bd cd x := by decide +kernel
theorem relB_cd : ∀ sa sb sc sd ab ac ad bc bd cd x : Bool, flagsOk sa sb sc sd ab ac ad bc bd cd = true → relB sc sd sa sb cd ac bc ad bd ab x = relB sa sb sc sd ab ac ad bc bd cd x := by decide +kernel
/-- Whichever way the segments are told. -/
theorem relP_ab (a b c d : Pp) : relP b a c d = relP a b c d := by
  unfold relP
  rw [on_ab a b c, on_ab a b d, eqp_comm a b, crs_ab]
  exact relB_ab _ _ _ _ _ _ _ _ _ _ _ (flags_ok a b c d)
theorem relP_cd (a b c d : Pp) : relP c d a b = relP a b c d := by
  unfold relP
  rw [crs_cd, eqp_comm a c, eqp_comm b c, eqp_comm a d, eqp_comm b d]
  exact relB_cd _ _ _ _ _ _ _ _ _ _ _ (flags_ok a b c d)
theorem relB_three : ∀ sa sb sc sd ab ac ad bc bd cd x : Bool, relB sa sb sc sd ab ac ad bc bd cd x = 3 → x = true := by decide +kernel

/-- A map that keeps what is on what, which points are alike, and turns all turns alike. -/
theorem relP_map {f : Pp → Pp} (ho : ∀ a b p, on2 (f a) (f b) (f p) = on2 a b p) (he : ∀ a b, eqp (f a) (f b) = eqp a b) (s : Int) (hs : s * s = 1) (ht : ∀ a b p, tr2 (f a) (f b) (f p) = s * tr2 a b p) (a b c d : Pp) : relP (f a) (f b) (f c) (f d) = relP a b c d := by
  have hm : ∀ x y : Int, s * x * (s * y) = x * y := fun x y => by
    rw [show s * x * (s * y) = s * s * (x * y) by ac_rfl, hs, Int.one_mul]
  unfold relP crs
  simp only [ho, he, ht, hm]

theorem on_move (x y : Int) (a b p : Pp) : on2 (a.1 + x, a.2 + y) (b.1 + x, b.2 + y) (p.1 + x, p.2 + y) = on2 a b p := by
  unfold on2 onP
  dsimp only
  have e : area (a.1 + x) (a.2 + y) (b.1 + x) (b.2 + y) (p.1 + x) (p.2 + y) = area a.1 a.2 b.1 b.2 p.1 p.2 := by
    unfold area
    rw [show b.1 + x - (a.1 + x) = b.1 - a.1 by omega, show p.2 + y - (a.2 + y) = p.2 - a.2 by omega, show b.2 + y - (a.2 + y) = b.2 - a.2 by omega, show p.1 + x - (a.1 + x) = p.1 - a.1 by omega]
  rw [e]
  congr 1
  unfold inBox ovl
  congr 1
  · rw [Bool.eq_iff_iff]; simp only [Bool.and_eq_true, decide_eq_true_eq]; omega
  · rw [Bool.eq_iff_iff]; simp only [Bool.and_eq_true, decide_eq_true_eq]; omega
theorem on_mirror (a b p : Pp) : on2 (a.2, a.1) (b.2, b.1) (p.2, p.1) = on2 a b p := by
  unfold on2 onP
  dsimp only
  have e : area a.2 a.1 b.2 b.1 p.2 p.1 = -area a.1 a.2 b.1 b.2 p.1 p.2 := by unfold area; omega
  rw [e]
  congr 1
  · rw [Bool.eq_iff_iff, beq_iff_eq, beq_iff_eq]; omega
  · unfold inBox; exact Bool.and_comm _ _
theorem area_qt (ax ay bx by' cx cy : Int) : area (-ay) ax (-by') bx (-cy) cx = area ax ay bx by' cx cy := by
  unfold area
  rw [show -by' - -ay = -(by' - ay) by omega, show -cy - -ay = -(cy - ay) by omega, Int.neg_mul, Int.mul_neg]
  omega
theorem on_quarter (a b p : Pp) : on2 (-a.2, a.1) (-b.2, b.1) (-p.2, p.1) = on2 a b p := by
  unfold on2 onP
  dsimp only
  rw [area_qt]
  congr 1
  unfold inBox
  rw [Bool.and_comm]
  congr 1
  unfold ovl
  rw [Bool.eq_iff_iff]
  simp only [Bool.and_eq_true, decide_eq_true_eq]
  omega
theorem relP_move (x y : Int) (a b c d : Pp) : relP (a.1 + x, a.2 + y) (b.1 + x, b.2 + y) (c.1 + x, c.2 + y) (d.1 + x, d.2 + y) = relP a b c d :=
  relP_map (f := fun p => (p.1 + x, p.2 + y)) (on_move x y) (fun a b => by rw [Bool.eq_iff_iff]; simp only [eqp, Bool.and_eq_true, beq_iff_eq]; omega) 1 rfl (fun a b p => by
    unfold tr2 area
    dsimp only
    rw [show b.1 + x - (a.1 + x) = b.1 - a.1 by omega, show p.2 + y - (a.2 + y) = p.2 - a.2 by omega, show b.2 + y - (a.2 + y) = b.2 - a.2 by omega, show p.1 + x - (a.1 + x) = p.1 - a.1 by omega, Int.one_mul]) a b c d
theorem relP_mirror (a b c d : Pp) : relP (a.2, a.1) (b.2, b.1) (c.2, c.1) (d.2, d.1) = relP a b c d :=
  relP_map (f := fun p => (p.2, p.1)) on_mirror (fun a b => by rw [Bool.eq_iff_iff]; simp only [eqp, Bool.and_eq_true, beq_iff_eq]; omega) (-1) rfl (fun a b p => by
    unfold tr2
    dsimp only
    rw [show area a.2 a.1 b.2 b.1 p.2 p.1 = -area a.1 a.2 b.1 b.2 p.1 p.2 by unfold area; omega, sgn_neg, Int.neg_mul, Int.one_mul]) a b c d
theorem relP_quarter (a b c d : Pp) : relP (-a.2, a.1) (-b.2, b.1) (-c.2, c.1) (-d.2, d.1) = relP a b c d :=
  relP_map (f := fun p => (-p.2, p.1)) on_quarter (fun a b => by rw [Bool.eq_iff_iff]; simp only [eqp, Bool.and_eq_true, beq_iff_eq]; omega) 1 rfl (fun a b p => by
    unfold tr2
    dsimp only
    rw [area_qt, Int.one_mul]) a b c d
/-- Does the segment lie across p's height, at the right of p? -/
def rayP (a b p : Pp) : Bool := if decide (p.2 < a.2) == decide (p.2 < b.2) then false else if b.2 < a.2 then decide (0 < tr2 b a p) else decide (0 < tr2 a b p)
theorem rayP_ab (a b p : Pp) : rayP b a p = rayP a b p := by
  by_cases h1 : p.2 < a.2 <;> by_cases h2 : p.2 < b.2
  · simp [rayP, h1, h2]
  · simp [rayP, h1, h2, show b.2 < a.2 by omega, show ¬ a.2 < b.2 by omega]
  · simp [rayP, h1, h2, show a.2 < b.2 by omega, show ¬ b.2 < a.2 by omega]
  · simp [rayP, h1, h2]
end Go.Proofs.Ytepnjknblppfcaa
