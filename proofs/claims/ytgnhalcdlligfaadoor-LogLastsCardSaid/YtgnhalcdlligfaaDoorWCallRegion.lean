/-
  Regions that draw their order and call Go functions, within a round of a range over a function: as without one.
-/
import Derived.Test.YtgnhalcdlligfaaDoorMC
import Derived.RangeFuncCalls
namespace Go.Proofs.YtgnhalcdlligfaaDoor
open Go.RowKit

def notDefer : Op → Bool
  | .defer _ => false
  | _ => true
theorem wpOpIn_calls {l n : Nat} {P : Program} {ops : Array Oper} {Q : Exit → Act → World → Prop} {i : Nat} {K K' : Act → World → Prop} {a : Act} {w : World} (hp : ∀ o, ops[i]? = some o → notDefer o.op = true)
    (hK : ∀ a w, K a w → K' a w) (h : wpOp P ops (Np Q) i K a w) : wpOpIn (Fence.wide.inRound l) n P ops Q i K' a w := by
  unfold wpOp at h
  unfold wpOpIn
  cases ho : ops[i]? with
  | none => rw [ho] at h; exact hK _ _ h
  | some o =>
    rw [ho] at h
    have hpl := hp o ho
    have hab : ∀ f, o.about P w a.eval = some f → (Fence.wide.inRound l).fn f := fun _ _ => trivial
    simp only at h ⊢
    split
    · rename_i hw
      rw [if_pos hw] at h
      rcases h with h | ⟨_, a', w', hx⟩
      · refine ⟨hab, ?_⟩
        rw [Oper.semAt_plain (Fence.wide.inRound l) _ _ (fun c hc => by rw [hc] at hpl; cases hpl)]
        unfold Oper.wp at h
        generalize (execOp a.eval o).run P w = r at h
        cases r with
        | ok x w' =>
          cases x with
          | value v => exact hK _ _ h
          | skip => exact hK _ _ h
          | defer d => exact hK _ _ h
          | enter f args =>
            refine ⟨fun hd => (by cases hd), ?_⟩
            have h' := CallsIn.inRound l (callsIn_wide.2 (show Calls P f args w' _ from h) : CallsIn Fence.wide (n - 1) P f args w' _)
            refine h'.mono fun e w'' he => ?_
            cases e with
            | returned v => exact hK _ _ he
            | panicked chain => exact False.elim he
            | outgrown => obtain ⟨_, _, hx⟩ := he; exact False.elim hx
          | row row args =>
            refine ⟨fun hd => (by cases hd), fun c cs _ => ?_⟩
            obtain ⟨v, w'', hv, hs⟩ := (show Rows P row args w' _ from h) c cs
            exact ⟨v, w'', hK _ _ hv, stepsIn_wide.2 hs⟩
          | _ => exact False.elim h
        | halt x w' =>
          cases x <;> simp only [Oper.upon, Np] at h
      · exact absurd hx (by simp [Np])
    · rename_i hw
      rw [if_neg hw] at h
      exact ⟨hab, hK _ _ h⟩
theorem wpAnyIn_calls {l n : Nat} {P : Program} {md : Region.Mode} {ops : Array Oper} {Q : Exit → Act → World → Prop} (hp : ∀ (i : Nat) (o : Oper), ops[i]? = some o → notDefer o.op = true) :
    ∀ (fuel : Nat) (listed : Array Bool) (a : Act) (w : World), wpAny P md ops (Np Q) fuel listed a w → wpAnyIn (Fence.wide.inRound l) n P md ops Q fuel listed a w
  | 0, _, _, _, h => h
  | fuel + 1, _, _, _, h => ⟨h.1, fun i hi => wpOpIn_calls (hp i) (fun a' w' h' => wpAnyIn_calls hp fuel _ a' w' h') (h.2 i hi)⟩
theorem calls_all {ops : Array Oper} (h : ops.all (fun o => notDefer o.op) = true) : ∀ (i : Nat) (o : Oper), ops[i]? = some o → notDefer o.op = true := fun i o ho => by
  rw [Array.all_eq_true_iff_forall_mem] at h
  exact h o (Array.mem_of_getElem? ho)
/-- A region that draws its order, within a round: as without one, if it puts nothing off. -/
theorem wpIn_region_calls {l n : Nat} {P : Program} {ops : Array Oper} {Q : Exit → Act → World → Prop} {S : World → Prop} {id : Nat} {a : Act} {w : World} (hm : P.follows .mixedOrders = true) (hp : ops.all (fun o => notDefer o.op) = true) (hS : S w.drew)
    (h : S w.drew → wpAnyH P .any ops (Np Q) S ops.size (Array.replicate ops.size false) a w.drew) : (Code.region id ops true).wpIn (Fence.wide.inRound l) n P Q a w :=
  wpIn_region_any hm (wpAnyIn_calls (calls_all hp) _ _ _ _ (wpAny_of_held _ _ _ _ (h hS)))
end Go.Proofs.YtgnhalcdlligfaaDoor
