/-
  Regions that draw their order within a round of a range over a function.
-/
import Derived.RangeFuncNested
import Derived.RangeFuncBound
import Derived.RangeFuncCalls
import Derived.RangeFuncLeaves
import Derived.RangeFuncBox
import Derived.Shelf.Abstract
import Derived.Shelf.RegionOpen
import Derived.OwnWalkIn
import Derived.TacticsInMore
import Derived.LoopNIn
import Derived.LoopIn
import Derived.Test.YtepnjknblppfcaaHTail
namespace Go.Proofs.Ytepnjknblppfcaa
open Go.RowKit Go.Shelf Go.Sort

/-- Q at the region's end alone. -/
def Np (Q : Exit → Act → World → Prop) : Exit → Act → World → Prop
  | .normal, a, w => Q .normal a w
  | _, _, _ => False
def notDefer : Op → Bool
  | .defer _ => false
  | _ => true
theorem wpOpIn_calls {l n : Nat} {P : Program} {ops : Array Oper} {Q : Exit → Act → World → Prop} {i : Nat} {K K' : Act → World → Prop} {a : Act} {w : World} (hp : ∀ o, ops[i]? = some o → notDefer o.op = true)
    (hK : ∀ a w, K a w → K' a w) (h : wpOp P ops (Np Q) i K a w) : wpOpIn (Fence.wide.inRound l) n P ops Q i K' a w := by
  unfold wpOp at h
  unfold wpOpIn
  cases ho : ops[i]? with
  | none => rw [ho] at h; exact hK _ _ h
  | some o =>
    rw [ho] at h
    have hpl := hp o ho
    have hab : ∀ f, o.about P w a.eval = some f → (Fence.wide.inRound l).fn f := fun _ _ => trivial
    simp only at h ⊢
    split
    · rename_i hw
      rw [if_pos hw] at h
      rcases h with h | ⟨_, a', w', hx⟩
      · refine ⟨hab, ?_⟩
        rw [Oper.semAt_plain (Fence.wide.inRound l) _ _ (fun c hc => by rw [hc] at hpl; cases hpl)]
        unfold Oper.wp at h
        generalize (execOp a.eval o).run P w = r at h
        cases r with
        | ok x w' =>
          cases x with
          | value v => exact hK _ _ h
          | skip => exact hK _ _ h
          | defer d => exact hK _ _ h
          | enter f args =>
            refine ⟨fun hd => (by cases hd), ?_⟩
            have h' := CallsIn.inRound l (callsIn_wide.2 (show Calls P f args w' _ from h) : CallsIn Fence.wide (n - 1) P f args w' _)
            refine h'.mono fun e w'' he => ?_
            cases e with
            | returned v => exact hK _ _ he
            | panicked chain => exact False.elim he
            | outgrown => obtain ⟨_, _, hx⟩ := he; exact False.elim hx
          | row row args =>
            refine ⟨fun hd => (by cases hd), fun c cs _ => ?_⟩
            obtain ⟨v, w'', hv, hs⟩ := (show Rows P row args w' _ from h) c cs
            exact ⟨v, w'', hK _ _ hv, stepsIn_wide.2 hs⟩
          | _ => exact False.elim h
        | halt x w' =>
          cases x <;> simp only [Oper.upon, Np] at h
      · exact absurd hx (by simp [Np])
    · rename_i hw
      rw [if_neg hw] at h
      exact ⟨hab, hK _ _ h⟩
theorem wpAnyIn_calls {l n : Nat} {P : Program} {md : Region.Mode} {ops : Array Oper} {Q : Exit → Act → World → Prop} (hp : ∀ (i : Nat) (o : Oper), ops[i]? = some o → notDefer o.op = true) :
    ∀ (fuel : Nat) (listed : Array Bool) (a : Act) (w : World), wpAny P md ops (Np Q) fuel listed a w → wpAnyIn (Fence.wide.inRound l) n P md ops Q fuel listed a w
  | 0, _, _, _, h => h
  | fuel + 1, _, _, _, h => ⟨h.1, fun i hi => wpOpIn_calls (hp i) (fun a' w' h' => wpAnyIn_calls hp fuel _ a' w' h') (h.2 i hi)⟩
theorem calls_all {ops : Array Oper} (h : ops.all (fun o => notDefer o.op) = true) : ∀ (i : Nat) (o : Oper), ops[i]? = some o → notDefer o.op = true := fun i o ho => by
  rw [Array.all_eq_true_iff_forall_mem] at h
  exact h o (Array.mem_of_getElem? ho)
/-- A region that draws its order, whose operations only read and call, within a round of a range over a function. -/
theorem wpIn_region_quiet_round {l n : Nat} {P : Program} {L : List Oper} {Q : Exit → Act → World → Prop} {id : Nat} {a : Act} {w : World} (hm : P.follows .mixedOrders = true) (hp : L.toArray.all (fun o => notDefer o.op) = true) (hB : Region.lexB .any L.toArray = true)
    (h : wpQuiet P L.toArray (fun w' => ∃ p : Regrown, w' = grow (redrawn w p.d) p.os) (fun a' => ∀ w', (∃ p : Regrown, w' = grow (redrawn w p.d) p.os) → Q .normal a' w') L a) : (Code.region id L.toArray true).wpIn (Fence.wide.inRound l) n P Q a w := by
  simp only [Region.lexB, Bool.and_eq_true] at hB
  have hC : ∃ p : Regrown, ({ w with drawn := w.drawn + 1 } : World) = grow (redrawn w p.d) p.os := ⟨⟨w.drawn + 1, #[]⟩, by rw [grow_empty]; rfl⟩
  refine wpIn_region_any hm (wpAnyIn_calls (calls_all hp) _ _ _ _ (wpAny_of_quiet (C := fun w' => ∃ p : Regrown, w' = grow (redrawn w p.d) p.os) (Q := fun a' => ∀ w', (∃ p : Regrown, w' = grow (redrawn w p.d) p.os) → Q .normal a' w') (Q' := Np Q) (fun _ w' hw' h => h w' hw') _ _ _ _ hC ?_))
  have := wpAnyQ_lex (C := fun w' => ∃ p : Regrown, w' = grow (redrawn w p.d) p.os) (md := .any) hB.1 L 0 (Array.replicate L.toArray.size false) a (by simp) (by simpa using hB.2) h
  simpa using this

/-- HTail's law, for whatever order is picked. -/
theorem wpAny_tail {P : Program} {Q : Exit → Act → World → Prop} {C : World → Prop} {a : Act} {w : World} {L : List Oper} (n : Nat) (hB : tailB L n = true) (hC : C w.drew)
    (h : wpQuiet P (L.take n).toArray C (fun a' => ∀ w', C w' → wpList P L.toArray Q (L.drop n) a' w') (L.take n) a) : wpAny P .any L.toArray Q L.toArray.size (Array.replicate L.toArray.size false) a w.drew := by
  simp only [tailB, Bool.and_eq_true, decide_eq_true_eq] at hB
  obtain ⟨⟨⟨⟨⟨h1, h2⟩, h3⟩, h4⟩, h5⟩, h6⟩ := hB
  simp only [Region.lexB, Bool.and_eq_true] at h5
  have hq := wpAnyQ_lex (C := C) (P := P) (md := .any) h5.1 (L.take n) 0 (Array.replicate (L.take n).toArray.size false) a (by simp) (by simpa using h5.2) h
  have hl : (L.take n).length = n := by simp; omega
  have hsz : L.toArray.size = n + (L.drop n).length := by simp; omega
  rw [hsz]
  refine wpAny_hd (g := (L.drop n).length) (T := fun a' w' => wpList P L.toArray Q (L.drop n) a' w') h1 h2 h3 h4 (fun a' w' ht => wpAny_of_seq (L.drop n) n _ a' w' (fun j => by simp [List.getElem?_drop]) h6 ht) n _ (Array.replicate (L.take n).toArray.size false) a _ ?_ (by simp; omega) (fun i d hi => ?_) ?_
  · refine ⟨by simp; omega, fun j oj hj hl' => ?_, fun t _ ht => ?_⟩
    · rw [getD_replicate_false] at hl'; cases hl'
    · have : t < n + (L.drop n).length := by rw [← hsz]; exact ht
      simp only [Array.getD_eq_getD_getElem?, Array.getElem?_replicate, this, if_true, Option.getD_some]
  · have h7 : i < n + (L.drop n).length := by omega
    have h8 : i < (L.take n).toArray.size := by simp; omega
    simp only [Array.getD_eq_getD_getElem?, Array.getElem?_replicate, h7, h8, if_true, Option.getD_some]
  · have := wpAny_of_quiet (P := P) (md := .any) (C := C) (Q := fun a' => ∀ w', C w' → wpList P L.toArray Q (L.drop n) a' w') (Q' := Hd (fun a' w' => wpList P L.toArray Q (L.drop n) a' w') Q) (fun a' w' hw' ht => ht w' hw') (L.take n).length _ a w.drew hC hq
    rw [hl] at this
    exact this
/-- A region whose first operations only read and call, whose last ones wait for all, within a round. -/
theorem wpIn_region_tail_round {l m : Nat} {P : Program} {L : List Oper} {Q : Exit → Act → World → Prop} {id : Nat} {a : Act} {w : World} (n : Nat) (hm : P.follows .mixedOrders = true) (hp : L.toArray.all (fun o => notDefer o.op) = true) (hB : tailB L n = true)
    (h : wpQuiet P (L.take n).toArray (fun w' => ∃ p : Regrown, w' = grow (redrawn w p.d) p.os) (fun a' => ∀ w', (∃ p : Regrown, w' = grow (redrawn w p.d) p.os) → wpList P L.toArray (Np Q) (L.drop n) a' w') (L.take n) a) : (Code.region id L.toArray true).wpIn (Fence.wide.inRound l) m P Q a w := by
  have hC : ∃ p : Regrown, w.drew = grow (redrawn w p.d) p.os := ⟨⟨w.drawn + 1, #[]⟩, by rw [grow_empty]; rfl⟩
  exact wpIn_region_any hm (wpAnyIn_calls (calls_all hp) _ _ _ _ (wpAny_tail n hB hC h))
theorem keeps_fresh {W W' : World} (h : Below W.heap.size W W') : KeepsOthers W W' := ⟨h.size, fun k _ hk _ => (h.block k (Array.getElem?_eq_some_iff.1 hk).1).trans hk⟩
end Go.Proofs.Ytepnjknblppfcaa
