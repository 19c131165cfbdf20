/-
  Relate as the document has it: the ends that are on both segments, each once.
-/
import Derived.Test.YtepnjknblppfcaaSPlain
namespace Go.Proofs.Ytepnjknblppfcaa

def shS (a b c d p : Pp) : Bool := on2 a b p && on2 c d p
def shAdd (a b c d : Pp) (l : List Pp) (p : Pp) : List Pp := if shS a b c d p && !(l.any fun q => eqp q p) then l ++ [p] else l
def shL (a b c d : Pp) (ps : List Pp) : List Pp := ps.foldl (shAdd a b c d) []
def relL (a b c d : Pp) (l : List Pp) : Int :=
  match l with
  | [] => if crs a b c d then 3 else 0
  | [p] => if (eqp p a || eqp p b) && (eqp p c || eqp p d) then 1 else 2
  | _ => 4

theorem relL_eq (a b c d : Pp) : relL a b c d (shL a b c d [a, b, c, d]) = relP a b c d := by
  have hf := flags_ok a b c d
  have ea := eqp_self a
  have eb := eqp_self b
  have ec := eqp_self c
  have ed := eqp_self d
  have e1 := eqp_comm a b
  have e2 := eqp_comm a c
  have e3 := eqp_comm a d
  have e4 := eqp_comm b c
  have e5 := eqp_comm b d
  have e6 := eqp_comm c d
  unfold shL relP
  simp only [List.foldl_cons, List.foldl_nil]
  have s1 : shS a b c d a = on2 c d a := by unfold shS; rw [on_left]; rfl
  have s2 : shS a b c d b = on2 c d b := by unfold shS; rw [on_right]; rfl
  have s3 : shS a b c d c = on2 a b c := by unfold shS; rw [on_left]; simp
  have s4 : shS a b c d d = on2 a b d := by unfold shS; rw [on_right]; simp
  generalize on2 c d a = sa at *
  generalize on2 c d b = sb at *
  generalize on2 a b c = sc at *
  generalize on2 a b d = sd at *
  generalize hx : crs a b c d = x
  have hr : ∀ l, relL a b c d l = match l with
      | [] => if x then 3 else 0
      | [p] => if (eqp p a || eqp p b) && (eqp p c || eqp p d) then 1 else 2
      | _ => 4 := fun l => by unfold relL; rw [hx]
  rw [hr]
  clear hr hx
  unfold shAdd
  rw [s1, s2, s3, s4]
  obtain ⟨ab, hab⟩ : ∃ x, eqp a b = x := ⟨_, rfl⟩
  obtain ⟨ac, hac⟩ : ∃ x, eqp a c = x := ⟨_, rfl⟩
  obtain ⟨ad, had⟩ : ∃ x, eqp a d = x := ⟨_, rfl⟩
  obtain ⟨bc, hbc⟩ : ∃ x, eqp b c = x := ⟨_, rfl⟩
  obtain ⟨bd, hbd⟩ : ∃ x, eqp b d = x := ⟨_, rfl⟩
  obtain ⟨cd, hcd⟩ : ∃ x, eqp c d = x := ⟨_, rfl⟩
  rw [hab] at e1 hf
  rw [hac] at e2 hf
  rw [had] at e3 hf
  rw [hbc] at e4 hf
  rw [hbd] at e5 hf
  rw [hcd] at e6 hf
  clear s1 s2 s3 s4
  rw [hab, hac, had, hbc, hbd, hcd]
  cases sa <;> cases sb <;> cases sc <;> cases sd <;> simp [hab, hac, had, hbc, hbd, hcd] <;> (cases ab <;> cases ac <;> cases ad <;> cases bc <;> cases bd <;> cases cd <;> first | (exfalso; revert hf; decide) | (simp [hab, hac, had, hbc, hbd, hcd, ea, eb, ec, ed, e1, e2, e3, e4, e5, e6, relB]; done) | (cases x <;> simp [hab, hac, had, hbc, hbd, hcd, ea, eb, ec, ed, e1, e2, e3, e4, e5, e6, relB]; done))
end Go.Proofs.Ytepnjknblppfcaa
