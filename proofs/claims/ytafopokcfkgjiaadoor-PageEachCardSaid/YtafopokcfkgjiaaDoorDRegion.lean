/-
  Regions that draw their order, by hand: within a fence as without, where no operation calls; steps whose run is known.
-/
import Derived.Deep.RegionHeld3
import Derived.OrdersIn
import Derived.OwnWalkIn
import Derived.WalkKit
namespace Go.Proofs.YtafopokcfkgjiaaDoor
open Go.RowKit

/-- Q at the region's end alone. -/
def Np (Q : Exit → Act → World → Prop) : Exit → Act → World → Prop
  | .normal, a, w => Q .normal a w
  | _, _, _ => False

/-- It neither calls nor leaves. -/
def plainOp : Op → Bool
  | .move _ | .assign _ | .alloc _ | .box _ _ | .build _ _ | .load _ _ | .store _ _ _ | .nilCheck _ | .fieldAddr _ _ _ | .indexAddr _ _ _ | .binOp _ _ _ _ _ | .unOp _ _ _ => true
  | _ => false

/-- What a plain operation comes to. -/
def plainRes : Result Next → Bool
  | .ok (.value _) _ | .ok .skip _ | .halt _ _ => true
  | _ => false
theorem plain_v {P : Program} (s : Sem Value) (w : World) : plainRes ((do let x ← s; pure (Next.value x) : Sem Next).run P w) = true := by
  rw [Sem.run_bind]
  cases s.run P w <;> rfl
theorem plain_u {P : Program} (s : Sem Unit) (w : World) : plainRes ((do s; pure Next.skip : Sem Next).run P w) = true := by
  rw [Sem.run_bind]
  cases s.run P w <;> rfl
theorem plain_bind {P : Program} {β : Type} (s : Sem β) (k : β → Sem Next) (w : World) (h : ∀ b w, plainRes ((k b).run P w) = true) : plainRes ((s >>= k).run P w) = true := by
  rw [Sem.run_bind]
  cases s.run P w with
  | ok b w' => exact h b w'
  | halt x w' => rfl
theorem plain_run {P : Program} (o : Oper) (h : plainOp o.op = true) (ρ : Operand → Value) (w : World) : plainRes ((execOp ρ o).run P w) = true := by
  unfold execOp
  cases ho : o.op <;> rw [ho] at h <;> first
    | (exfalso; simp [plainOp] at h; done)
    | exact plain_v _ w
    | exact plain_u _ w
    | rfl
    | (dsimp only
       split
       · rfl
       · rfl
       · rfl
       · split
         · rfl
         · refine plain_bind _ _ w fun p w => plain_bind _ _ w fun b w => ?_
           split
           · rfl
           · rfl
         · rfl
       · rfl)

theorem wpOpIn_of {F : Fence} {n : Nat} {P : Program} {ops : Array Oper} {Q : Exit → Act → World → Prop} {i : Nat} {K K' : Act → World → Prop} {a : Act} {w : World} (hp : ∀ o, ops[i]? = some o → plainOp o.op = true)
    (hK : ∀ a w, K a w → K' a w) (h : wpOp P ops (Np Q) i K a w) : wpOpIn F n P ops Q i K' a w := by
  unfold wpOp at h
  unfold wpOpIn
  cases ho : ops[i]? with
  | none => rw [ho] at h; exact hK _ _ h
  | some o =>
    rw [ho] at h
    have hpl := hp o ho
    have hab : ∀ f, o.about P w a.eval = some f → F.fn f := fun f hf => by
      unfold Oper.about at hf
      cases hop : o.op <;> rw [hop] at hf hpl <;> first | cases hf | cases hpl
    simp only at h ⊢
    split
    · rename_i hw
      rw [if_pos hw] at h
      rcases h with h | ⟨_, a', w', hx⟩
      · refine ⟨hab, ?_⟩
        rw [Oper.semAt_plain F _ _ (fun c hc => by rw [hc] at hpl; cases hpl)]
        unfold Oper.wp at h
        have hr := plain_run (P := P) o hpl a.eval w
        generalize (execOp a.eval o).run P w = r at h hr
        cases r with
        | ok x w' =>
          cases x <;> simp only [plainRes] at hr <;> first
            | exact hK _ _ h
            | cases hr
        | halt x w' =>
          cases x <;> simp only [Oper.upon, Np] at h
      · exact absurd hx (by simp [Np])
    · rename_i hw
      rw [if_neg hw] at h
      exact ⟨hab, hK _ _ h⟩
theorem wpAnyIn_of {F : Fence} {n : Nat} {P : Program} {md : Region.Mode} {ops : Array Oper} {Q : Exit → Act → World → Prop} (hp : ∀ (i : Nat) (o : Oper), ops[i]? = some o → plainOp o.op = true) :
    ∀ (fuel : Nat) (listed : Array Bool) (a : Act) (w : World), wpAny P md ops (Np Q) fuel listed a w → wpAnyIn F n P md ops Q fuel listed a w
  | 0, _, _, _, h => h
  | fuel + 1, _, _, _, h => ⟨h.1, fun i hi => wpOpIn_of (hp i) (fun a' w' h' => wpAnyIn_of hp fuel _ a' w' h') (h.2 i hi)⟩
theorem plain_all {ops : Array Oper} (h : ops.all (fun o => plainOp o.op) = true) : ∀ (i : Nat) (o : Oper), ops[i]? = some o → plainOp o.op = true := fun i o ho => by
  rw [Array.all_eq_true_iff_forall_mem] at h
  exact h o (Array.mem_of_getElem? ho)
/-- A region that draws its order and calls nothing, within a fence: as without one. -/
theorem wpIn_region_plain {F : Fence} {n : Nat} {P : Program} {ops : Array Oper} {Q : Exit → Act → World → Prop} {S : World → Prop} {id : Nat} {a : Act} {w : World} (hm : P.follows .mixedOrders = true) (hp : ops.all (fun o => plainOp o.op) = true) (hS : S w.drew)
    (h : S w.drew → wpAnyH P .any ops (Np Q) S ops.size (Array.replicate ops.size false) a w.drew) : (Code.region id ops true).wpIn F n P Q a w :=
  wpIn_region_any hm (wpAnyIn_of (plain_all hp) _ _ _ _ (wpAny_of_held _ _ _ _ (h hS)))

/-- A step whose run is known. -/
theorem step_run {P : Program} {ops : Array Oper} {o : Oper} {a : Act} {ts : Array Value} {w w' : World} {K : Act → World → Prop} {Q : Exit → Act → World → Prop} {E : Prop} {v : Value} (hg : o.guard = none) (hrun : (execOp a.eval o).run P w = .ok (.value v) w')
    (hK : K (a.put o.dst v) w') : if Region.wanted o (yielded ops ts) = true then Oper.wp P o a w K Q else E := by
  have hw : Region.wanted o (yielded ops ts) = true := by simp [Region.wanted, hg]
  rw [if_pos hw]
  unfold Oper.wp
  rw [hrun]
  exact hK
theorem exec_append {P : Program} {o : Oper} {ρ : Operand → Value} {w w' : World} (s x : Operand) (t : TypeId) (hop : o.op = Op.call { callee := Callee.builtin Builtin.append, args := #[s, x], argTypes := #[t, t] }) {v u v' : Value} (hs : ρ s = v) (hx : ρ x = u)
    (hrun : (Builtin.append_ #[t, t] o.type #[v, u]).run P w = .ok v' w') : (execOp ρ o).run P w = .ok (.value v') w' := by
  simp [execOp, hop, resolve, invoke, builtin, hs, hx, hrun, Result.andThen]
theorem exec_buildSlice {P : Program} {o : Oper} {ρ : Operand → Value} {w w' : World} (t : TypeId) (len : Nat) (k : Nat) (x : Operand) (hop : o.op = Op.buildSlice t len #[(k, x)]) {v v' : Value} (hx : ρ x = v)
    (hrun : (Instr.buildSlice t len #[(k, v)]).run P w = .ok v' w') : (execOp ρ o).run P w = .ok (.value v') w' := by
  simp [execOp, hop, hx, hrun, Result.andThen]
theorem exec_load {P : Program} {o : Oper} {ρ : Operand → Value} {w w' : World} (t : TypeId) (x : Operand) (hop : o.op = Op.load t x) {v v' : Value} (hx : ρ x = v)
    (hrun : (Instr.loadAt t v).run P w = .ok v' w') : (execOp ρ o).run P w = .ok (.value v') w' := by
  simp [execOp, hop, hx, hrun, Result.andThen]
end Go.Proofs.YtafopokcfkgjiaaDoor
