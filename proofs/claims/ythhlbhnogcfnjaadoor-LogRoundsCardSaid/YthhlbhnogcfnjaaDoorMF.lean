/-
  Regions that draw their order within a fence, by hand, where a slice is built and appended to.
-/
import Derived.Test.YthhlbhnogcfnjaaDoorMC
import Derived.RangeFuncCalls
namespace Go.Proofs.YthhlbhnogcfnjaaDoor
open Go.RowKit

def plainOp2 : Op → Bool
  | .buildSlice _ _ _ => true
  | .call c => match c.callee with
    | .builtin .append => true
    | _ => false
  | o => plainOp o
theorem plain_run2 {P : Program} (o : Oper) (h : plainOp2 o.op = true) (ρ : Operand → Value) (w : World) : plainRes ((execOp ρ o).run P w) = true := by
  by_cases hp : plainOp o.op = true
  · exact plain_run o hp ρ w
  · cases ho : o.op <;> rw [ho] at h hp <;> first
      | exact absurd h hp
      | (unfold execOp; rw [ho]; exact plain_v _ w)
      | skip
    rename_i c
    simp only [plainOp2] at h
    split at h
    · rename_i hc
      unfold execOp
      rw [ho]
      simp only [resolve, hc]
      rw [Sem.run_bind, Sem.run_pure]
      exact plain_v _ w
    · cases h
theorem about_plain2 {P : Program} {w : World} {ρ : Operand → Value} {o : Oper} (h : plainOp2 o.op = true) : o.about P w ρ = none := by
  unfold Oper.about
  cases ho : o.op <;> rw [ho] at h <;> first
    | rfl
    | skip
  rename_i c
  simp only [plainOp2] at h
  split at h
  · rename_i hc
    simp [resolve, hc, Target.leads]
  · cases h
theorem wpOpIn_of2 {F : Fence} {n : Nat} {P : Program} {ops : Array Oper} {Q : Exit → Act → World → Prop} {i : Nat} {K K' : Act → World → Prop} {a : Act} {w : World} (hp : ∀ o, ops[i]? = some o → plainOp2 o.op = true)
    (hK : ∀ a w, K a w → K' a w) (h : wpOp P ops (Np Q) i K a w) : wpOpIn F n P ops Q i K' a w := by
  unfold wpOp at h
  unfold wpOpIn
  cases ho : ops[i]? with
  | none => rw [ho] at h; exact hK _ _ h
  | some o =>
    rw [ho] at h
    have hpl := hp o ho
    have hab : ∀ f, o.about P w a.eval = some f → F.fn f := fun f hf => by rw [about_plain2 hpl] at hf; cases hf
    simp only at h ⊢
    split
    · rename_i hw
      rw [if_pos hw] at h
      rcases h with h | ⟨_, a', w', hx⟩
      · refine ⟨hab, ?_⟩
        rw [Oper.semAt_plain F _ _ (fun c hc => by rw [hc] at hpl; cases hpl)]
        unfold Oper.wp at h
        have hr := plain_run2 (P := P) o hpl a.eval w
        generalize (execOp a.eval o).run P w = r at h hr
        cases r with
        | ok x w' =>
          cases x <;> simp only [plainRes] at hr <;> first
            | exact hK _ _ h
            | cases hr
        | halt x w' =>
          cases x <;> simp only [Oper.upon, Np] at h
      · exact absurd hx (by simp [Np])
    · rename_i hw
      rw [if_neg hw] at h
      exact ⟨hab, hK _ _ h⟩
theorem wpAnyIn_of2 {F : Fence} {n : Nat} {P : Program} {md : Region.Mode} {ops : Array Oper} {Q : Exit → Act → World → Prop} (hp : ∀ (i : Nat) (o : Oper), ops[i]? = some o → plainOp2 o.op = true) :
    ∀ (fuel : Nat) (listed : Array Bool) (a : Act) (w : World), wpAny P md ops (Np Q) fuel listed a w → wpAnyIn F n P md ops Q fuel listed a w
  | 0, _, _, _, h => h
  | fuel + 1, _, _, _, h => ⟨h.1, fun i hi => wpOpIn_of2 (hp i) (fun a' w' h' => wpAnyIn_of2 hp fuel _ a' w' h') (h.2 i hi)⟩
theorem plain_all2 {ops : Array Oper} (h : ops.all (fun o => plainOp2 o.op) = true) : ∀ (i : Nat) (o : Oper), ops[i]? = some o → plainOp2 o.op = true := fun i o ho => by
  rw [Array.all_eq_true_iff_forall_mem] at h
  exact h o (Array.mem_of_getElem? ho)
/-- A region that draws its order and calls no Go function, within a fence: as without one. -/
theorem wpIn_region_plain2 {F : Fence} {n : Nat} {P : Program} {ops : Array Oper} {Q : Exit → Act → World → Prop} {S : World → Prop} {id : Nat} {a : Act} {w : World} (hm : P.follows .mixedOrders = true) (hp : ops.all (fun o => plainOp2 o.op) = true) (hS : S w.drew)
    (h : S w.drew → wpAnyH P .any ops (Np Q) S ops.size (Array.replicate ops.size false) a w.drew) : (Code.region id ops true).wpIn F n P Q a w :=
  wpIn_region_any hm (wpAnyIn_of2 (plain_all2 hp) _ _ _ _ (wpAny_of_held _ _ _ _ (h hS)))
end Go.Proofs.YthhlbhnogcfnjaaDoor

namespace Go.Proofs.YthhlbhnogcfnjaaDoor
open Go.RowKit

def notDefer : Op → Bool
  | .defer _ => false
  | _ => true
theorem wpOpIn_calls {l n : Nat} {P : Program} {ops : Array Oper} {Q : Exit → Act → World → Prop} {i : Nat} {K K' : Act → World → Prop} {a : Act} {w : World} (hp : ∀ o, ops[i]? = some o → notDefer o.op = true)
    (hK : ∀ a w, K a w → K' a w) (h : wpOp P ops (Np Q) i K a w) : wpOpIn (Fence.wide.inRound l) n P ops Q i K' a w := by
  unfold wpOp at h
  unfold wpOpIn
  cases ho : ops[i]? with
  | none => rw [ho] at h; exact hK _ _ h
  | some o =>
    rw [ho] at h
    have hpl := hp o ho
    have hab : ∀ f, o.about P w a.eval = some f → (Fence.wide.inRound l).fn f := fun _ _ => trivial
    simp only at h ⊢
    split
    · rename_i hw
      rw [if_pos hw] at h
      rcases h with h | ⟨_, a', w', hx⟩
      · refine ⟨hab, ?_⟩
        rw [Oper.semAt_plain (Fence.wide.inRound l) _ _ (fun c hc => by rw [hc] at hpl; cases hpl)]
        unfold Oper.wp at h
        generalize (execOp a.eval o).run P w = r at h
        cases r with
        | ok x w' =>
          cases x with
          | value v => exact hK _ _ h
          | skip => exact hK _ _ h
          | defer d => exact hK _ _ h
          | enter f args =>
            refine ⟨fun hd => (by cases hd), ?_⟩
            have h' := CallsIn.inRound l (callsIn_wide.2 (show Calls P f args w' _ from h) : CallsIn Fence.wide (n - 1) P f args w' _)
            refine h'.mono fun e w'' he => ?_
            cases e with
            | returned v => exact hK _ _ he
            | panicked chain => exact False.elim he
            | outgrown => obtain ⟨_, _, hx⟩ := he; exact False.elim hx
          | row row args =>
            refine ⟨fun hd => (by cases hd), fun c cs _ => ?_⟩
            obtain ⟨v, w'', hv, hs⟩ := (show Rows P row args w' _ from h) c cs
            exact ⟨v, w'', hK _ _ hv, stepsIn_wide.2 hs⟩
          | _ => exact False.elim h
        | halt x w' =>
          cases x <;> simp only [Oper.upon, Np] at h
      · exact absurd hx (by simp [Np])
    · rename_i hw
      rw [if_neg hw] at h
      exact ⟨hab, hK _ _ h⟩
theorem wpAnyIn_calls {l n : Nat} {P : Program} {md : Region.Mode} {ops : Array Oper} {Q : Exit → Act → World → Prop} (hp : ∀ (i : Nat) (o : Oper), ops[i]? = some o → notDefer o.op = true) :
    ∀ (fuel : Nat) (listed : Array Bool) (a : Act) (w : World), wpAny P md ops (Np Q) fuel listed a w → wpAnyIn (Fence.wide.inRound l) n P md ops Q fuel listed a w
  | 0, _, _, _, h => h
  | fuel + 1, _, _, _, h => ⟨h.1, fun i hi => wpOpIn_calls (hp i) (fun a' w' h' => wpAnyIn_calls hp fuel _ a' w' h') (h.2 i hi)⟩
theorem calls_all {ops : Array Oper} (h : ops.all (fun o => notDefer o.op) = true) : ∀ (i : Nat) (o : Oper), ops[i]? = some o → notDefer o.op = true := fun i o ho => by
  rw [Array.all_eq_true_iff_forall_mem] at h
  exact h o (Array.mem_of_getElem? ho)
/-- A region that draws its order, within a round: as without one, if it puts nothing off. -/
theorem wpIn_region_calls {l n : Nat} {P : Program} {ops : Array Oper} {Q : Exit → Act → World → Prop} {S : World → Prop} {id : Nat} {a : Act} {w : World} (hm : P.follows .mixedOrders = true) (hp : ops.all (fun o => notDefer o.op) = true) (hS : S w.drew)
    (h : S w.drew → wpAnyH P .any ops (Np Q) S ops.size (Array.replicate ops.size false) a w.drew) : (Code.region id ops true).wpIn (Fence.wide.inRound l) n P Q a w :=
  wpIn_region_any hm (wpAnyIn_calls (calls_all hp) _ _ _ _ (wpAny_of_held _ _ _ _ (h hS)))
end Go.Proofs.YthhlbhnogcfnjaaDoor
