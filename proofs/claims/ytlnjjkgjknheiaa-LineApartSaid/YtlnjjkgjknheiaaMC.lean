/-
  Two segments, as exact numbers tell of them.
-/
import Derived.Test.YtlnjjkgjknheiaaMB
import Derived.Test.YtlnjjkgjknheiaaQBox
import Derived.OwnWalk
import Derived.Laws.OwnMore
namespace Go.Proofs.Ytlnjjkgjknheiaa

/-- Are two points the same? -/
def eqp (a b : Pp) : Bool := a.1 == b.1 && a.2 == b.2
def on2 (a b p : Pp) : Bool := onP a.1 a.2 b.1 b.2 p.1 p.2
def tr2 (a b c : Pp) : Int := sgn (area a.1 a.2 b.1 b.2 c.1 c.2)
/-- Each one's ends lie strictly on both sides of the other. -/
def crs (a b c d : Pp) : Bool := !eqp a b && !eqp c d && decide (tr2 a b c * tr2 a b d < 0) && decide (tr2 c d a * tr2 c d b < 0)
/-- Relate, of which ends are on the other one, which are alike, and whether they cross. -/
def relB (sa sb sc sd ab ac ad bc bd cd x : Bool) : Int :=
  match (sa.toNat + (sb && !(sa && ab)).toNat + (sc && !(sa && ac) && !(sb && bc)).toNat + (sd && !(sa && ad) && !(sb && bd) && !(sc && cd)).toNat) with
  | 0 => if x then 3 else 0
  | 1 => if sa then (if ac || ad then 1 else 2) else if sb then (if bc || bd then 1 else 2) else if sc then (if ac || bc then 1 else 2) else (if ad || bd then 1 else 2)
  | _ => 4
def relP (a b c d : Pp) : Int := relB (on2 c d a) (on2 c d b) (on2 a b c) (on2 a b d) (eqp a b) (eqp a c) (eqp a d) (eqp b c) (eqp b d) (eqp c d) (crs a b c d)

theorem eqp_iff {a b : Pp} : eqp a b = true ↔ a = b := by
  obtain ⟨a1, a2⟩ := a
  obtain ⟨b1, b2⟩ := b
  simp [eqp]
theorem eqp_comm (a b : Pp) : eqp b a = eqp a b := by
  rw [Bool.eq_iff_iff, eqp_iff, eqp_iff]
  exact ⟨Eq.symm, Eq.symm⟩
theorem eqp_self (a : Pp) : eqp a a = true := eqp_iff.2 rfl
theorem area_aba (ax ay bx by' : Int) : area ax ay bx by' ax ay = 0 := by unfold area; simp
theorem area_abb (ax ay bx by' : Int) : area ax ay bx by' bx by' = 0 := by
  unfold area
  rw [Int.mul_comm (bx - ax)]
  omega
theorem on_left (a b : Pp) : on2 a b a = true := by
  unfold on2 onP inBox
  rw [area_aba, ovl_true (by omega), ovl_true (by omega)]
  rfl
theorem on_right (a b : Pp) : on2 a b b = true := by
  unfold on2 onP inBox
  rw [area_abb, ovl_true (by omega), ovl_true (by omega)]
  rfl
theorem area_ab (ax ay bx by' cx cy : Int) : area bx by' ax ay cx cy = -area ax ay bx by' cx cy := by
  unfold area
  rw [Int.sub_mul, Int.sub_mul, Int.sub_mul, Int.sub_mul, Int.mul_sub, Int.mul_sub, Int.mul_sub, Int.mul_sub, Int.mul_sub, Int.mul_sub, Int.mul_sub, Int.mul_sub, Int.mul_comm ax by', Int.mul_comm ay bx, Int.mul_comm by' ax, Int.mul_comm bx ay]
  have e1 := Int.mul_comm ay ax
  have e2 := Int.mul_comm by' bx
  omega
theorem on_ab (a b p : Pp) : on2 b a p = on2 a b p := by
  unfold on2 onP inBox
  rw [area_ab, Int.min_comm b.1, Int.max_comm b.1, Int.min_comm b.2, Int.max_comm b.2]
  congr 1
  rw [Bool.eq_iff_iff, beq_iff_eq, beq_iff_eq]
  omega
theorem tr_ab (a b p : Pp) : tr2 b a p = -tr2 a b p := by unfold tr2; rw [area_ab, sgn_neg]
theorem crs_ab (a b c d : Pp) : crs b a c d = crs a b c d := by
  unfold crs
  rw [eqp_comm, tr_ab, tr_ab a b d, Int.neg_mul_neg, Int.mul_comm (tr2 c d b)]
theorem crs_cd (a b c d : Pp) : crs c d a b = crs a b c d := by
  unfold crs
  cases eqp a b <;> cases eqp c d <;> simp [Bool.and_comm]

/-- What stands of the ends and of which are alike. -/
def flagsOk (sa sb sc sd ab ac ad bc bd cd : Bool) : Bool :=
  (!ab || (sa == sb && ac == bc && ad == bd)) && (!cd || (sc == sd && ac == ad && bc == bd)) && (!ac || (sa && sc && ab == bc && ad == cd)) && (!ad || (sa && sd && ab == bd && ac == cd)) && (!bc || (sb && sc && ab == ac && bd == cd)) && (!bd || (sb && sd && ab == ad && bc == cd))
theorem flags_ok (a b c d : Pp) : flagsOk (on2 c d a) (on2 c d b) (on2 a b c) (on2 a b d) (eqp a b) (eqp a c) (eqp a d) (eqp b c) (eqp b d) (eqp c d) = true := by
  unfold flagsOk
  simp only [Bool.and_eq_true]
  refine ⟨⟨⟨⟨⟨?_, ?_⟩, ?_⟩, ?_⟩, ?_⟩, ?_⟩
  · cases h : eqp a b with
    | false => rfl
    | true => rw [eqp_iff] at h; subst h; simp
  · cases h : eqp c d with
    | false => rfl
    | true => rw [eqp_iff] at h; subst h; simp
  · cases h : eqp a c with
    | false => rfl
    | true => rw [eqp_iff] at h; subst h; simp [on_left, eqp_comm a b]
  · cases h : eqp a d with
    | false => rfl
    | true => rw [eqp_iff] at h; subst h; simp [on_left, on_right, eqp_comm a b, eqp_comm a c]
  · cases h : eqp b c with
    | false => rfl
    | true => rw [eqp_iff] at h; subst h; simp [on_left, on_right]
  · cases h : eqp b d with
    | false => rfl
    | true => rw [eqp_iff] at h; subst h; simp [on_right, eqp_comm b c]
theorem relB_ab : ∀ sa sb sc sd ab ac ad bc bd cd x : Bool, flagsOk sa sb sc sd ab ac ad bc bd cd = true → relB sb sa sc sd ab bc bd ac ad cd x = relB sa sb sc sd ab ac ad bc bd cd x := by decide +kernel
theorem relB_cd : ∀ sa sb sc sd ab ac ad bc bd cd x : Bool, flagsOk sa sb sc sd ab ac ad bc bd cd = true → relB sc sd sa sb cd ac bc ad bd ab x = relB sa sb sc sd ab ac ad bc bd cd x := by decide +kernel
/-- Whichever way the segments are told. -/
theorem relP_ab (a b c d : Pp) : relP b a c d = relP a b c d := by
  unfold relP
  rw [on_ab a b c, on_ab a b d, eqp_comm a b, crs_ab]
  exact relB_ab _ _ _ _ _ _ _ _ _ _ _ (flags_ok a b c d)
theorem relP_cd (a b c d : Pp) : relP c d a b = relP a b c d := by
  unfold relP
  rw [crs_cd, eqp_comm a c, eqp_comm b c, eqp_comm a d, eqp_comm b d]
  exact relB_cd _ _ _ _ _ _ _ _ _ _ _ (flags_ok a b c d)
theorem relB_three : ∀ sa sb sc sd ab ac ad bc bd cd x : Bool, relB sa sb sc sd ab ac ad bc bd cd x = 3 → x = true := by decide +kernel

/-- A map that keeps what is on what, which points are alike, and turns all turns alike. -/
theorem relP_map {f : Pp → Pp} (ho : ∀ a b p, on2 (f a) (f b) (f p) = on2 a b p) (he : ∀ a b, eqp (f a) (f b) = eqp a b) (s : Int) (hs : s * s = 1) (ht : ∀ a b p, tr2 (f a) (f b) (f p) = s * tr2 a b p) (a b c d : Pp) : relP (f a) (f b) (f c) (f d) = relP a b c d := by
  have hm : ∀ x y : Int, s * x * (s * y) = x * y := fun x y => by
    rw [show s * x * (s * y) = s * s * (x * y) by ac_rfl, hs, Int.one_mul]
  unfold relP crs
  simp only [ho, he, ht, hm]

theorem on_move (x y : Int) (a b p : Pp) : on2 (a.1 + x, a.2 + y) (b.1 + x, b.2 + y) (p.1 + x, p.2 + y) = on2 a b p := by
  unfold on2 onP
  dsimp only
  have e : area (a.1 + x) (a.2 + y) (b.1 + x) (b.2 + y) (p.1 + x) (p.2 + y) = area a.1 a.2 b.1 b.2 p.1 p.2 := by
    unfold area
    rw [show b.1 + x - (a.1 + x) = b.1 - a.1 by omega, show p.2 + y - (a.2 + y) = p.2 - a.2 by omega, show b.2 + y - (a.2 + y) = b.2 - a.2 by omega, show p.1 + x - (a.1 + x) = p.1 - a.1 by omega]
  rw [e]
  congr 1
  unfold inBox ovl
  congr 1
  · rw [Bool.eq_iff_iff]; simp only [Bool.and_eq_true, decide_eq_true_eq]; omega
  · rw [Bool.eq_iff_iff]; simp only [Bool.and_eq_true, decide_eq_true_eq]; omega
theorem on_mirror (a b p : Pp) : on2 (a.2, a.1) (b.2, b.1) (p.2, p.1) = on2 a b p := by
  unfold on2 onP
  dsimp only
  have e : area a.2 a.1 b.2 b.1 p.2 p.1 = -area a.1 a.2 b.1 b.2 p.1 p.2 := by unfold area; omega
  rw [e]
  congr 1
  · rw [Bool.eq_iff_iff, beq_iff_eq, beq_iff_eq]; omega
  · unfold inBox; exact Bool.and_comm _ _
theorem area_qt (ax ay bx by' cx cy : Int) : area (-ay) ax (-by') bx (-cy) cx = area ax ay bx by' cx cy := by
  unfold area
  rw [show -by' - -ay = -(by' - ay) by omega, show -cy - -ay = -(cy - ay) by omega, Int.neg_mul, Int.mul_neg]
  omega
theorem on_quarter (a b p : Pp) : on2 (-a.2, a.1) (-b.2, b.1) (-p.2, p.1) = on2 a b p := by
  unfold on2 onP
  dsimp only
  rw [area_qt]
  congr 1
  unfold inBox
  rw [Bool.and_comm]
  congr 1
  unfold ovl
  rw [Bool.eq_iff_iff]
  simp only [Bool.and_eq_true, decide_eq_true_eq]
  omega
theorem relP_move (x y : Int) (a b c d : Pp) : relP (a.1 + x, a.2 + y) (b.1 + x, b.2 + y) (c.1 + x, c.2 + y) (d.1 + x, d.2 + y) = relP a b c d :=
  relP_map (f := fun p => (p.1 + x, p.2 + y)) (on_move x y) (fun a b => by rw [Bool.eq_iff_iff]; simp only [eqp, Bool.and_eq_true, beq_iff_eq]; omega) 1 rfl (fun a b p => by
    unfold tr2 area
    dsimp only
    rw [show b.1 + x - (a.1 + x) = b.1 - a.1 by omega, show p.2 + y - (a.2 + y) = p.2 - a.2 by omega, show b.2 + y - (a.2 + y) = b.2 - a.2 by omega, show p.1 + x - (a.1 + x) = p.1 - a.1 by omega, Int.one_mul]) a b c d
theorem relP_mirror (a b c d : Pp) : relP (a.2, a.1) (b.2, b.1) (c.2, c.1) (d.2, d.1) = relP a b c d :=
  relP_map (f := fun p => (p.2, p.1)) on_mirror (fun a b => by rw [Bool.eq_iff_iff]; simp only [eqp, Bool.and_eq_true, beq_iff_eq]; omega) (-1) rfl (fun a b p => by
    unfold tr2
    dsimp only
    rw [show area a.2 a.1 b.2 b.1 p.2 p.1 = -area a.1 a.2 b.1 b.2 p.1 p.2 by unfold area; omega, sgn_neg, Int.neg_mul, Int.one_mul]) a b c d
theorem relP_quarter (a b c d : Pp) : relP (-a.2, a.1) (-b.2, b.1) (-c.2, c.1) (-d.2, d.1) = relP a b c d :=
  relP_map (f := fun p => (-p.2, p.1)) on_quarter (fun a b => by rw [Bool.eq_iff_iff]; simp only [eqp, Bool.and_eq_true, beq_iff_eq]; omega) 1 rfl (fun a b p => by
    unfold tr2
    dsimp only
    rw [area_qt, Int.one_mul]) a b c d
/-- Does the segment lie across p's height, at the right of p? -/
def rayP (a b p : Pp) : Bool := if decide (p.2 < a.2) == decide (p.2 < b.2) then false else if b.2 < a.2 then decide (0 < tr2 b a p) else decide (0 < tr2 a b p)
theorem rayP_ab (a b p : Pp) : rayP b a p = rayP a b p := by
  by_cases h1 : p.2 < a.2 <;> by_cases h2 : p.2 < b.2
  · simp [rayP, h1, h2]
  · simp [rayP, h1, h2, show b.2 < a.2 by omega, show ¬ a.2 < b.2 by omega]
  · simp [rayP, h1, h2, show a.2 < b.2 by omega, show ¬ b.2 < a.2 by omega]
  · simp [rayP, h1, h2]
end Go.Proofs.Ytlnjjkgjknheiaa

namespace Go.Proofs.Ytlnjjkgjknheiaa

def shS (a b c d p : Pp) : Bool := on2 a b p && on2 c d p
def shAdd (a b c d : Pp) (l : List Pp) (p : Pp) : List Pp := if shS a b c d p && !(l.any fun q => eqp q p) then l ++ [p] else l
def shL (a b c d : Pp) (ps : List Pp) : List Pp := ps.foldl (shAdd a b c d) []
def relL (a b c d : Pp) (l : List Pp) : Int :=
  match l with
  | [] => if crs a b c d then 3 else 0
  | [p] => if (eqp p a || eqp p b) && (eqp p c || eqp p d) then 1 else 2
  | _ => 4

theorem relL_eq (a b c d : Pp) : relL a b c d (shL a b c d [a, b, c, d]) = relP a b c d := by
  have hf := flags_ok a b c d
  have ea := eqp_self a
  have eb := eqp_self b
  have ec := eqp_self c
  have ed := eqp_self d
  have e1 := eqp_comm a b
  have e2 := eqp_comm a c
  have e3 := eqp_comm a d
  have e4 := eqp_comm b c
  have e5 := eqp_comm b d
  have e6 := eqp_comm c d
  unfold shL relP
  simp only [List.foldl_cons, List.foldl_nil]
  have s1 : shS a b c d a = on2 c d a := by unfold shS; rw [on_left]; rfl
  have s2 : shS a b c d b = on2 c d b := by unfold shS; rw [on_right]; rfl
  have s3 : shS a b c d c = on2 a b c := by unfold shS; rw [on_left]; simp
  have s4 : shS a b c d d = on2 a b d := by unfold shS; rw [on_right]; simp
  generalize on2 c d a = sa at *
  generalize on2 c d b = sb at *
  generalize on2 a b c = sc at *
  generalize on2 a b d = sd at *
  generalize hx : crs a b c d = x
  have hr : ∀ l, relL a b c d l = match l with
      | [] => if x then 3 else 0
      | [p] => if (eqp p a || eqp p b) && (eqp p c || eqp p d) then 1 else 2
      | _ => 4 := fun l => by unfold relL; rw [hx]
  rw [hr]
  clear hr hx
  unfold shAdd
  rw [s1, s2, s3, s4]
  obtain ⟨ab, hab⟩ : ∃ x, eqp a b = x := ⟨_, rfl⟩
  obtain ⟨ac, hac⟩ : ∃ x, eqp a c = x := ⟨_, rfl⟩
  obtain ⟨ad, had⟩ : ∃ x, eqp a d = x := ⟨_, rfl⟩
  obtain ⟨bc, hbc⟩ : ∃ x, eqp b c = x := ⟨_, rfl⟩
  obtain ⟨bd, hbd⟩ : ∃ x, eqp b d = x := ⟨_, rfl⟩
  obtain ⟨cd, hcd⟩ : ∃ x, eqp c d = x := ⟨_, rfl⟩
  rw [hab] at e1 hf
  rw [hac] at e2 hf
  rw [had] at e3 hf
  rw [hbc] at e4 hf
  rw [hbd] at e5 hf
  rw [hcd] at e6 hf
  clear s1 s2 s3 s4
  rw [hab, hac, had, hbc, hbd, hcd]
  cases sa <;> cases sb <;> cases sc <;> cases sd <;> simp [hab, hac, had, hbc, hbd, hcd] <;> (cases ab <;> cases ac <;> cases ad <;> cases bc <;> cases bd <;> cases cd <;> first | (exfalso; revert hf; decide) | (simp [hab, hac, had, hbc, hbd, hcd, ea, eb, ec, ed, e1, e2, e3, e4, e5, e6, relB]; done) | (cases x <;> simp [hab, hac, had, hbc, hbd, hcd, ea, eb, ec, ed, e1, e2, e3, e4, e5, e6, relB]; done))
end Go.Proofs.Ytlnjjkgjknheiaa

namespace Go.Proofs.Ytlnjjkgjknheiaa
open Go.RowKit Go.Sort

theorem infoPt : (Try.prog.info? 24).map (fun i => (i.zero, i.size, i.bytes)) = some (some (.agg #[.int .i64 0, .int .i64 0]), 2, 16) := by kernel_rfl
def ptCells (ps : List Pp) : List Value := ps.flatMap fun p => [Value.int .i64 p.1, .int .i64 p.2]
def PtRow (W : World) (base : Nat) (v : Value) (ps : List Pp) : Prop := W.ownsRow base 24 2 v ps.length (ptCells ps)
theorem ptCells_app (a b : List Pp) : ptCells (a ++ b) = ptCells a ++ ptCells b := by simp [ptCells]
theorem ptCells_at : ∀ (ps : List Pp) (k : Nat) (p : Pp), ps[k]? = some p → (ptCells ps)[k * 2]? = some (.int .i64 p.1) ∧ (ptCells ps)[k * 2 + 1]? = some (.int .i64 p.2)
  | [], k, p, h => by simp at h
  | q :: ps, 0, p, h => by
    simp at h
    subst h
    exact ⟨rfl, rfl⟩
  | q :: ps, k + 1, p, h => by
    have h' := ptCells_at ps k p (by simpa using h)
    have e : ptCells (q :: ps) = .int .i64 q.1 :: .int .i64 q.2 :: ptCells ps := rfl
    rw [e, show (k + 1) * 2 = k * 2 + 1 + 1 by omega]
    exact ⟨by simpa using h'.1, by simpa using h'.2⟩
theorem PtRow.below {w w' : World} {base : Nat} {v : Value} {ps : List Pp} (h : PtRow w base v ps) (hb : Below w.heap.size w w') : PtRow w' base v ps := by
  refine ⟨h.1, ?_⟩
  rcases h.2 with h0 | ⟨g, cap, cur, h1, h2, h3, h4⟩
  · exact .inl h0
  · exact .inr ⟨g, cap, cur, h1, h2, (hb.block g (lt_of_heap h3)).trans h3, h4⟩
theorem PtRow.form {w : World} {base : Nat} {v : Value} {ps : List Pp} (h : PtRow w base v ps) : ∃ ao cap, v = .slice ao ps.length cap := by
  rcases h.2 with ⟨rfl, h0⟩ | ⟨g, cap, cur, rfl, _⟩
  · exact ⟨none, 0, by rw [h0]⟩
  · exact ⟨_, cap, rfl⟩
theorem PtRow.at {w : World} {base : Nat} {ao : Option Addr} {n cap : Nat} {ps : List Pp} (h : PtRow w base (.slice ao n cap) ps) {k : Nat} {p : Pp} (hk : ps[k]? = some p) : ∃ g, ao = some ⟨g, 0, none⟩ ∧ w.cell? ⟨g, k * 2, none⟩ = some (.int .i64 p.1) ∧ w.cell? ⟨g, k * 2 + 1, none⟩ = some (.int .i64 p.2) := by
  have hlt := (List.getElem?_eq_some_iff.1 hk).1
  rcases h.2 with ⟨e, h0⟩ | ⟨g, cap', cur, e, _⟩
  · omega
  · injection e with e1 e2 e3
    subst e1 e2
    have h' : w.ownsRow base 24 2 (.slice (some ⟨g, 0, none⟩) ps.length cap) ps.length (ptCells ps) := h
    obtain ⟨c0, c1⟩ := ptCells_at ps k p hk
    exact ⟨g, rfl, (h'.cellAt (k * 2) (by omega)).trans c0, (h'.cellAt (k * 2 + 1) (by omega)).trans c1⟩
theorem PtRow.snoc {w : World} {base : Nat} {v : Value} {ps : List Pp} (h : PtRow w base v ps) (hb : base ≤ w.heap.size) (hl : ps.length ≤ 1000000) (p : Pp) :
    ∃ ao cap w', (Builtin.append_ #[25, 25] 25 #[v, .slice (some ⟨w.heap.size, 0, none⟩) 1 1]).run Try.prog (w.alloc (.cells #[.int .i64 p.1, .int .i64 p.2] 24)) = .ok (.slice ao (ps.length + 1) cap) w' ∧
      PtRow w' base (.slice ao (ps.length + 1) cap) (ps ++ [p]) ∧ Below base w w' := by
  obtain ⟨i0, hi, hz0, hz1, hz2⟩ := info_parts infoPt
  obtain ⟨wA, hwA⟩ : ∃ wA, wA = w.alloc (.cells #[.int .i64 p.1, .int .i64 p.2] 24) := ⟨_, rfl⟩
  have hbA : Below w.heap.size w wA := by rw [hwA]; exact (Below.refl _ _).alloc (Nat.le_refl _) _
  have hP : Pt wA w.heap.size p.1 p.2 := by rw [hwA]; exact Pt.new w p.1 p.2
  have h2 := h.below hbA
  obtain ⟨v', w', hrun, r1, r2, _⟩ := run_append_own (P := Try.prog) wA base 25 25 24 i0 _ 2 16 Try.underlying25 hi hz0 hz1 hz2 rfl (by decide) v ps.length _ h2 ⟨w.heap.size, 0, none⟩ 1 1 [.int .i64 p.1, .int .i64 p.2] rfl
    (fun j u hj => by
      match j, hj with
      | 0, hj => simp at hj; subst hj; exact hP.c0
      | 1, hj => simp at hj; subst hj; exact hP.c1
      | j + 2, hj => simp at hj) (by intro u hu'; simp at hu'; rcases hu' with rfl | rfl <;> rfl) (by unfold maxLen; omega) (by omega) (by rw [hwA]; simp; omega)
  obtain ⟨ao, cap, rfl⟩ : ∃ ao cap, v' = .slice ao (ps.length + 1) cap := by
    rcases r1.2 with ⟨rfl, h0⟩ | ⟨g, cap, cur, rfl, _, _, hc, _⟩
    · omega
    · exact ⟨_, cap, rfl⟩
  rw [← hwA]
  refine ⟨ao, cap, w', hrun, ?_, ?_⟩
  · unfold PtRow
    rw [ptCells_app, List.length_append]
    exact r1
  · refine (hbA.mono hb).grown r2 (Nat.le_trans hb hbA.size) (fun k e => ?_)
    rcases h.2 with ⟨rfl, _⟩ | ⟨g, cap', cur, rfl, hg, _⟩
    · cases e
    · cases e
      exact hg

theorem wpList_append_run {P : Program} {ops : Array Oper} {rest : List Oper} {o : Oper} {a : Act} {w w' : World} {Q : Exit → Act → World → Prop} (hg : o.guard = none) (s x : Operand) (t : TypeId) (hop : o.op = Op.call { callee := Callee.builtin Builtin.append, args := #[s, x], argTypes := #[t, t] }) {v u v' : Value} (hs : a.eval s = v) (hx : a.eval x = u)
    (hrun : (Builtin.append_ #[t, t] o.type #[v, u]).run P w = .ok v' w') (hK : wpList P ops Q rest (a.put o.dst v') w') : wpList P ops Q (o :: rest) a w :=
  wpList_plain hg fun K hK' => by
    unfold Oper.wp
    rw [show (execOp a.eval o).run P w = .ok (.value v') w' by simp [execOp, hop, resolve, invoke, builtin, hs, hx, hrun, Result.andThen]]
    exact hK' _ _ hK
end Go.Proofs.Ytlnjjkgjknheiaa

namespace Go.Proofs.Ytlnjjkgjknheiaa
open Go.RowKit Go.Sort

/-- Four points in a block of its own. -/
def Row4 (w : World) (b : Nat) (t : TypeId) (x0 y0 x1 y1 x2 y2 x3 y3 : Int) : Prop := w.heap[b]? = some (.cells #[.int .i64 x0, .int .i64 y0, .int .i64 x1, .int .i64 y1, .int .i64 x2, .int .i64 y2, .int .i64 x3, .int .i64 y3] t (0, 0))
section
variable {w : World} {b : Nat} {t : TypeId} {x0 y0 x1 y1 x2 y2 x3 y3 : Int}
theorem Row4.lt (h : Row4 w b t x0 y0 x1 y1 x2 y2 x3 y3) : b < w.heap.size := lt_of_heap h
theorem Row4.c0 (h : Row4 w b t x0 y0 x1 y1 x2 y2 x3 y3) : w.cell? ⟨b, 0, none⟩ = some (.int .i64 x0) := by unfold Row4 at h; simp [World.cell?, h]
theorem Row4.f0 (h : Row4 w b t x0 y0 x1 y1 x2 y2 x3 y3) : w.frozen? ⟨b, 0, none⟩ = false := by unfold Row4 at h; simp [World.frozen?, h]
theorem Row4.c1 (h : Row4 w b t x0 y0 x1 y1 x2 y2 x3 y3) : w.cell? ⟨b, 1, none⟩ = some (.int .i64 y0) := by unfold Row4 at h; simp [World.cell?, h]
theorem Row4.f1 (h : Row4 w b t x0 y0 x1 y1 x2 y2 x3 y3) : w.frozen? ⟨b, 1, none⟩ = false := by unfold Row4 at h; simp [World.frozen?, h]
theorem Row4.c2 (h : Row4 w b t x0 y0 x1 y1 x2 y2 x3 y3) : w.cell? ⟨b, 2, none⟩ = some (.int .i64 x1) := by unfold Row4 at h; simp [World.cell?, h]
theorem Row4.f2 (h : Row4 w b t x0 y0 x1 y1 x2 y2 x3 y3) : w.frozen? ⟨b, 2, none⟩ = false := by unfold Row4 at h; simp [World.frozen?, h]
theorem Row4.c3 (h : Row4 w b t x0 y0 x1 y1 x2 y2 x3 y3) : w.cell? ⟨b, 3, none⟩ = some (.int .i64 y1) := by unfold Row4 at h; simp [World.cell?, h]
theorem Row4.f3 (h : Row4 w b t x0 y0 x1 y1 x2 y2 x3 y3) : w.frozen? ⟨b, 3, none⟩ = false := by unfold Row4 at h; simp [World.frozen?, h]
theorem Row4.c4 (h : Row4 w b t x0 y0 x1 y1 x2 y2 x3 y3) : w.cell? ⟨b, 4, none⟩ = some (.int .i64 x2) := by unfold Row4 at h; simp [World.cell?, h]
theorem Row4.f4 (h : Row4 w b t x0 y0 x1 y1 x2 y2 x3 y3) : w.frozen? ⟨b, 4, none⟩ = false := by unfold Row4 at h; simp [World.frozen?, h]
theorem Row4.c5 (h : Row4 w b t x0 y0 x1 y1 x2 y2 x3 y3) : w.cell? ⟨b, 5, none⟩ = some (.int .i64 y2) := by unfold Row4 at h; simp [World.cell?, h]
theorem Row4.f5 (h : Row4 w b t x0 y0 x1 y1 x2 y2 x3 y3) : w.frozen? ⟨b, 5, none⟩ = false := by unfold Row4 at h; simp [World.frozen?, h]
theorem Row4.c6 (h : Row4 w b t x0 y0 x1 y1 x2 y2 x3 y3) : w.cell? ⟨b, 6, none⟩ = some (.int .i64 x3) := by unfold Row4 at h; simp [World.cell?, h]
theorem Row4.f6 (h : Row4 w b t x0 y0 x1 y1 x2 y2 x3 y3) : w.frozen? ⟨b, 6, none⟩ = false := by unfold Row4 at h; simp [World.frozen?, h]
theorem Row4.c7 (h : Row4 w b t x0 y0 x1 y1 x2 y2 x3 y3) : w.cell? ⟨b, 7, none⟩ = some (.int .i64 y3) := by unfold Row4 at h; simp [World.cell?, h]
theorem Row4.f7 (h : Row4 w b t x0 y0 x1 y1 x2 y2 x3 y3) : w.frozen? ⟨b, 7, none⟩ = false := by unfold Row4 at h; simp [World.frozen?, h]
theorem Row4.below {w' : World} {n : Nat} (h : Row4 w b t x0 y0 x1 y1 x2 y2 x3 y3) (hb : Below n w w') (hl : b < n) : Row4 w' b t x0 y0 x1 y1 x2 y2 x3 y3 := (hb.block b hl).trans h
theorem Row4.alloc (h : Row4 w b t x0 y0 x1 y1 x2 y2 x3 y3) (o : Obj) : Row4 (w.alloc o) b t x0 y0 x1 y1 x2 y2 x3 y3 := (Below.heap_alloc _ _ _ h.lt).trans h
theorem Row4.new (w : World) (t : TypeId) (x0 y0 x1 y1 x2 y2 x3 y3 : Int) : Row4 (w.alloc (.cells #[.int .i64 x0, .int .i64 y0, .int .i64 x1, .int .i64 y1, .int .i64 x2, .int .i64 y2, .int .i64 x3, .int .i64 y3] t)) w.heap.size t x0 y0 x1 y1 x2 y2 x3 y3 := by
  unfold Row4 World.alloc; simp
theorem Row4.far {c i j : Nat} (h : Row4 w c t x0 y0 x1 y1 x2 y2 x3 y3) (hne : c ≠ b) (u v : Value) : Row4 ((w.setCell ⟨b, i, none⟩ u).setCell ⟨b, j, none⟩ v) c t x0 y0 x1 y1 x2 y2 x3 y3 := by
  unfold Row4
  rw [Below.heap_setCell _ _ _ _ (by exact hne), Below.heap_setCell _ _ _ _ (by exact hne)]
  exact h
theorem Row4.set0 (h : Row4 w b t x0 y0 x1 y1 x2 y2 x3 y3) (x y : Int) : Row4 ((w.setCell ⟨b, 0, none⟩ (.int .i64 x)).setCell ⟨b, 1, none⟩ (.int .i64 y)) b t x y x1 y1 x2 y2 x3 y3 := by
  have h1 := heap_setCell_same w b 0 _ _ (.int .i64 x) h
  have h2 := heap_setCell_same _ b 1 _ _ (.int .i64 y) h1
  exact h2
theorem Row4.set1 (h : Row4 w b t x0 y0 x1 y1 x2 y2 x3 y3) (x y : Int) : Row4 ((w.setCell ⟨b, 2, none⟩ (.int .i64 x)).setCell ⟨b, 3, none⟩ (.int .i64 y)) b t x0 y0 x y x2 y2 x3 y3 := by
  have h1 := heap_setCell_same w b 2 _ _ (.int .i64 x) h
  have h2 := heap_setCell_same _ b 3 _ _ (.int .i64 y) h1
  exact h2
theorem Row4.set2 (h : Row4 w b t x0 y0 x1 y1 x2 y2 x3 y3) (x y : Int) : Row4 ((w.setCell ⟨b, 4, none⟩ (.int .i64 x)).setCell ⟨b, 5, none⟩ (.int .i64 y)) b t x0 y0 x1 y1 x y x3 y3 := by
  have h1 := heap_setCell_same w b 4 _ _ (.int .i64 x) h
  have h2 := heap_setCell_same _ b 5 _ _ (.int .i64 y) h1
  exact h2
theorem Row4.set3 (h : Row4 w b t x0 y0 x1 y1 x2 y2 x3 y3) (x y : Int) : Row4 ((w.setCell ⟨b, 6, none⟩ (.int .i64 x)).setCell ⟨b, 7, none⟩ (.int .i64 y)) b t x0 y0 x1 y1 x2 y2 x y := by
  have h1 := heap_setCell_same w b 6 _ _ (.int .i64 x) h
  have h2 := heap_setCell_same _ b 7 _ _ (.int .i64 y) h1
  exact h2
end
theorem below_setAny {w W : World} {n b i j : Nat} (h : Below n w W) (hb : n ≤ b) (u v : Value) : Below n w ((W.setCell ⟨b, i, none⟩ u).setCell ⟨b, j, none⟩ v) :=
  (h.setCell (p := ⟨b, i, none⟩) hb _).setCell (p := ⟨b, j, none⟩) hb _
/-- Four numbers in a block of its own. -/
def Int4 (w : World) (b : Nat) (t : TypeId) (a0 a1 a2 a3 : Int) : Prop := w.heap[b]? = some (.cells #[.int .i64 a0, .int .i64 a1, .int .i64 a2, .int .i64 a3] t (0, 0))
section
variable {w : World} {b : Nat} {t : TypeId} {a0 a1 a2 a3 : Int}
theorem Int4.lt (h : Int4 w b t a0 a1 a2 a3) : b < w.heap.size := lt_of_heap h
theorem Int4.c0 (h : Int4 w b t a0 a1 a2 a3) : w.cell? ⟨b, 0, none⟩ = some (.int .i64 a0) := by unfold Int4 at h; simp [World.cell?, h]
theorem Int4.f0 (h : Int4 w b t a0 a1 a2 a3) : w.frozen? ⟨b, 0, none⟩ = false := by unfold Int4 at h; simp [World.frozen?, h]
theorem Int4.c1 (h : Int4 w b t a0 a1 a2 a3) : w.cell? ⟨b, 1, none⟩ = some (.int .i64 a1) := by unfold Int4 at h; simp [World.cell?, h]
theorem Int4.f1 (h : Int4 w b t a0 a1 a2 a3) : w.frozen? ⟨b, 1, none⟩ = false := by unfold Int4 at h; simp [World.frozen?, h]
theorem Int4.c2 (h : Int4 w b t a0 a1 a2 a3) : w.cell? ⟨b, 2, none⟩ = some (.int .i64 a2) := by unfold Int4 at h; simp [World.cell?, h]
theorem Int4.f2 (h : Int4 w b t a0 a1 a2 a3) : w.frozen? ⟨b, 2, none⟩ = false := by unfold Int4 at h; simp [World.frozen?, h]
theorem Int4.c3 (h : Int4 w b t a0 a1 a2 a3) : w.cell? ⟨b, 3, none⟩ = some (.int .i64 a3) := by unfold Int4 at h; simp [World.cell?, h]
theorem Int4.f3 (h : Int4 w b t a0 a1 a2 a3) : w.frozen? ⟨b, 3, none⟩ = false := by unfold Int4 at h; simp [World.frozen?, h]
theorem Int4.below {w' : World} {n : Nat} (h : Int4 w b t a0 a1 a2 a3) (hb : Below n w w') (hl : b < n) : Int4 w' b t a0 a1 a2 a3 := (hb.block b hl).trans h
theorem Int4.alloc (h : Int4 w b t a0 a1 a2 a3) (o : Obj) : Int4 (w.alloc o) b t a0 a1 a2 a3 := (Below.heap_alloc _ _ _ h.lt).trans h
theorem Int4.new (w : World) (t : TypeId) (a0 a1 a2 a3 : Int) : Int4 (w.alloc (.cells #[.int .i64 a0, .int .i64 a1, .int .i64 a2, .int .i64 a3] t)) w.heap.size t a0 a1 a2 a3 := by
  unfold Int4 World.alloc; simp
theorem Int4.far {c i j : Nat} (h : Int4 w c t a0 a1 a2 a3) (hne : c ≠ b) (u v : Value) : Int4 ((w.setCell ⟨b, i, none⟩ u).setCell ⟨b, j, none⟩ v) c t a0 a1 a2 a3 := by
  unfold Int4
  rw [Below.heap_setCell _ _ _ _ (by exact hne), Below.heap_setCell _ _ _ _ (by exact hne)]
  exact h
theorem Int4.set0 (h : Int4 w b t a0 a1 a2 a3) (x : Int) : Int4 (w.setCell ⟨b, 0, none⟩ (.int .i64 x)) b t x a1 a2 a3 := heap_setCell_same w b 0 _ _ (.int .i64 x) h
theorem Int4.set1 (h : Int4 w b t a0 a1 a2 a3) (x : Int) : Int4 (w.setCell ⟨b, 1, none⟩ (.int .i64 x)) b t a0 x a2 a3 := heap_setCell_same w b 1 _ _ (.int .i64 x) h
theorem Int4.set2 (h : Int4 w b t a0 a1 a2 a3) (x : Int) : Int4 (w.setCell ⟨b, 2, none⟩ (.int .i64 x)) b t a0 a1 x a3 := heap_setCell_same w b 2 _ _ (.int .i64 x) h
theorem Int4.set3 (h : Int4 w b t a0 a1 a2 a3) (x : Int) : Int4 (w.setCell ⟨b, 3, none⟩ (.int .i64 x)) b t a0 a1 a2 x := heap_setCell_same w b 3 _ _ (.int .i64 x) h
end
end Go.Proofs.Ytlnjjkgjknheiaa

namespace Go.Proofs.Ytlnjjkgjknheiaa
open Go.RowKit Go.Sort

/-- Is it one of the grid? -/
def okP (x y : Int) : Bool := x == near x && y == near y
theorem okP_iff (x y : Int) : okP x y = (decide (-1048576 ≤ x) && decide (x ≤ 1048576) && decide (-1048576 ≤ y) && decide (y ≤ 1048576)) := by
  rw [Bool.eq_iff_iff]
  simp only [okP, Bool.and_eq_true, beq_iff_eq, decide_eq_true_eq]
  have h1 : x = near x ↔ (-1048576 ≤ x ∧ x ≤ 1048576) := by
    unfold near
    split
    · omega
    · split <;> omega
  have h2 : y = near y ↔ (-1048576 ≤ y ∧ y ≤ 1048576) := by
    unfold near
    split
    · omega
    · split <;> omega
  rw [h1, h2, and_assoc, and_assoc, and_assoc]


theorem ok_any (px py : Int) (w : World) :
    Calls Try.prog 44 #[pv px py] w fun e w' => e = .returned (.bool (okP px py)) ∧ Below w.heap.size w w' := by
  obtain ⟨wA, hwA⟩ : ∃ wA, w.alloc (.cells #[.int .i64 px, .int .i64 py] 24) = wA := ⟨_, rfl⟩
  obtain ⟨hA, hBL, hszA⟩ := box1 hwA
  have HBL := hid hBL
  have ka0 := cell_regrown hA.c0
  have ka1 := cell_regrown hA.c1
  have ca := fun d os => held_any px py (grow (redrawn wA d) os)
  have hw : okP px py = (px == near px && py == near py) := rfl
  generalize okP px py = R at *
  generalize near px = NX at *
  generalize near py = NY at *
  have HW := hid hw
  clear hA hBL hw
  by_cases eX : NX = px
  · by_cases eY : NY = py
    · go_enter Try.func44, Try.ntmps44
      go_wp2
      refine wp_region_quiet_below (by kernel_rfl) (by kernel_rfl) ?_
      go_big_quiet_step (fail)
      go_big_quiet_step (fail)
      go_big_quiet_step (exact Calls.regrown_of (ca _ _))
      go_big_quiet_step (fail)
      go_big_quiet_step (fail)
      refine wpQuiet_nil ?_
      intro W hW'
      obtain ⟨⟨dq, osq⟩, hW⟩ := hW'
      have HB1 := hid (show Below wA.heap.size wA W by rw [hW]; exact below_regrown _ _ _)
      clear hW ka0 ka1 ca
      go_wp2
      go_ret
      exact ⟨by rw [HW.out]; first | (simp [*]; done) | (simp [*]; omega), HBL.out.trans (HB1.out.mono HBL.out.size)⟩
    · have fY : (py == NY) = false := beq_eq_false_iff_ne.2 (fun h => eY h.symm)
      go_enter Try.func44, Try.ntmps44
      go_wp2
      refine wp_region_quiet_below (by kernel_rfl) (by kernel_rfl) ?_
      go_big_quiet_step (fail)
      go_big_quiet_step (fail)
      go_big_quiet_step (exact Calls.regrown_of (ca _ _))
      go_big_quiet_step (fail)
      go_big_quiet_step (fail)
      refine wpQuiet_nil ?_
      intro W hW'
      obtain ⟨⟨dq, osq⟩, hW⟩ := hW'
      have HB1 := hid (show Below wA.heap.size wA W by rw [hW]; exact below_regrown _ _ _)
      clear hW ka0 ka1 ca
      go_wp2
      go_ret
      exact ⟨by rw [HW.out]; first | (simp [*]; done) | (simp [*]; omega), HBL.out.trans (HB1.out.mono HBL.out.size)⟩
  · have fX : (px == NX) = false := beq_eq_false_iff_ne.2 (fun h => eX h.symm)
    go_enter Try.func44, Try.ntmps44
    go_wp2
    refine wp_region_quiet_below (by kernel_rfl) (by kernel_rfl) ?_
    go_big_quiet_step (fail)
    go_big_quiet_step (fail)
    go_big_quiet_step (exact Calls.regrown_of (ca _ _))
    go_big_quiet_step (fail)
    go_big_quiet_step (fail)
    refine wpQuiet_nil ?_
    intro W hW'
    obtain ⟨⟨dq, osq⟩, hW⟩ := hW'
    have HB1 := hid (show Below wA.heap.size wA W by rw [hW]; exact below_regrown _ _ _)
    clear hW ka0 ka1 ca
    go_wp2
    go_ret
    exact ⟨by rw [HW.out]; first | (simp [*]; done) | (simp [*]; omega), HBL.out.trans (HB1.out.mono HBL.out.size)⟩


/-- By X, then by Y. -/
def lessP (ax ay bx by' : Int) : Bool := decide (ax < bx) || (ax == bx && decide (ay < by'))

























































end Go.Proofs.Ytlnjjkgjknheiaa
