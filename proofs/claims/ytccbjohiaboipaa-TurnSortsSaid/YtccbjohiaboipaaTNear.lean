/-
  turn's nearest, Next, Prev.
-/
import Derived.Test.YtccbjohiaboipaaTPlaces
import Derived.Test.YtccbjohiaboipaaTBetw
namespace Go.Proofs.Ytccbjohiaboipaa
open Go.RowKit Go.Shelf Go.Sort

/-- Q at the region's end alone. -/
def Np (Q : Exit → Act → World → Prop) : Exit → Act → World → Prop
  | .normal, a, w => Q .normal a w
  | _, _, _ => False
def notDefer : Op → Bool
  | .defer _ => false
  | _ => true
theorem wpOpIn_calls {l n : Nat} {P : Program} {ops : Array Oper} {Q : Exit → Act → World → Prop} {i : Nat} {K K' : Act → World → Prop} {a : Act} {w : World} (hp : ∀ o, ops[i]? = some o → notDefer o.op = true)
    (hK : ∀ a w, K a w → K' a w) (h : wpOp P ops (Np Q) i K a w) : wpOpIn (Fence.wide.inRound l) n P ops Q i K' a w := by
  unfold wpOp at h
  unfold wpOpIn
  cases ho : ops[i]? with
  | none => rw [ho] at h; exact hK _ _ h
  | some o =>
    rw [ho] at h
    have hpl := hp o ho
    have hab : ∀ f, o.about P w a.eval = some f → (Fence.wide.inRound l).fn f := fun _ _ => trivial
    simp only at h ⊢
    split
    · rename_i hw
      rw [if_pos hw] at h
      rcases h with h | ⟨_, a', w', hx⟩
      · refine ⟨hab, ?_⟩
        rw [Oper.semAt_plain (Fence.wide.inRound l) _ _ (fun c hc => by rw [hc] at hpl; cases hpl)]
        unfold Oper.wp at h
        generalize (execOp a.eval o).run P w = r at h
        cases r with
        | ok x w' =>
          cases x with
          | value v => exact hK _ _ h
          | skip => exact hK _ _ h
          | defer d => exact hK _ _ h
          | enter f args =>
            refine ⟨fun hd => (by cases hd), ?_⟩
            have h' := CallsIn.inRound l (callsIn_wide.2 (show Calls P f args w' _ from h) : CallsIn Fence.wide (n - 1) P f args w' _)
            refine h'.mono fun e w'' he => ?_
            cases e with
            | returned v => exact hK _ _ he
            | panicked chain => exact False.elim he
            | outgrown => obtain ⟨_, _, hx⟩ := he; exact False.elim hx
          | row row args =>
            refine ⟨fun hd => (by cases hd), fun c cs _ => ?_⟩
            obtain ⟨v, w'', hv, hs⟩ := (show Rows P row args w' _ from h) c cs
            exact ⟨v, w'', hK _ _ hv, stepsIn_wide.2 hs⟩
          | _ => exact False.elim h
        | halt x w' =>
          cases x <;> simp only [Oper.upon, Np] at h
      · exact absurd hx (by simp [Np])
    · rename_i hw
      rw [if_neg hw] at h
      exact ⟨hab, hK _ _ h⟩
theorem wpAnyIn_calls {l n : Nat} {P : Program} {md : Region.Mode} {ops : Array Oper} {Q : Exit → Act → World → Prop} (hp : ∀ (i : Nat) (o : Oper), ops[i]? = some o → notDefer o.op = true) :
    ∀ (fuel : Nat) (listed : Array Bool) (a : Act) (w : World), wpAny P md ops (Np Q) fuel listed a w → wpAnyIn (Fence.wide.inRound l) n P md ops Q fuel listed a w
  | 0, _, _, _, h => h
  | fuel + 1, _, _, _, h => ⟨h.1, fun i hi => wpOpIn_calls (hp i) (fun a' w' h' => wpAnyIn_calls hp fuel _ a' w' h') (h.2 i hi)⟩
theorem calls_all {ops : Array Oper} (h : ops.all (fun o => notDefer o.op) = true) : ∀ (i : Nat) (o : Oper), ops[i]? = some o → notDefer o.op = true := fun i o ho => by
  rw [Array.all_eq_true_iff_forall_mem] at h
  exact h o (Array.mem_of_getElem? ho)
/-- A region that draws its order, whose operations only read and call, within a round of a range over a function. -/
theorem wpIn_region_quiet_round {l n : Nat} {P : Program} {L : List Oper} {Q : Exit → Act → World → Prop} {id : Nat} {a : Act} {w : World} (hm : P.follows .mixedOrders = true) (hp : L.toArray.all (fun o => notDefer o.op) = true) (hB : Region.lexB .any L.toArray = true)
    (h : wpQuiet P L.toArray (fun w' => ∃ p : Regrown, w' = grow (redrawn w p.d) p.os) (fun a' => ∀ w', (∃ p : Regrown, w' = grow (redrawn w p.d) p.os) → Q .normal a' w') L a) : (Code.region id L.toArray true).wpIn (Fence.wide.inRound l) n P Q a w := by
  simp only [Region.lexB, Bool.and_eq_true] at hB
  have hC : ∃ p : Regrown, ({ w with drawn := w.drawn + 1 } : World) = grow (redrawn w p.d) p.os := ⟨⟨w.drawn + 1, #[]⟩, by rw [grow_empty]; rfl⟩
  refine wpIn_region_any hm (wpAnyIn_calls (calls_all hp) _ _ _ _ (wpAny_of_quiet (C := fun w' => ∃ p : Regrown, w' = grow (redrawn w p.d) p.os) (Q := fun a' => ∀ w', (∃ p : Regrown, w' = grow (redrawn w p.d) p.os) → Q .normal a' w') (Q' := Np Q) (fun _ w' hw' h => h w' hw') _ _ _ _ hC ?_))
  have := wpAnyQ_lex (C := fun w' => ∃ p : Regrown, w' = grow (redrawn w p.d) p.os) (md := .any) hB.1 L 0 (Array.replicate L.toArray.size false) a (by simp) (by simpa using hB.2) h
  simpa using this

/-- One place more, by what the comparison says. -/
def nrF (nb : Nat → Nat → Bool) (best k : Nat) : Nat := if nb best k = true then k else best
def nrL (nb : Nat → Nat → Bool) (i : Nat) (ks : List Nat) : Nat := ks.foldl (nrF nb) i
theorem nrL_snoc (nb : Nat → Nat → Bool) (i : Nat) (ks : List Nat) (k : Nat) : nrL nb i (ks ++ [k]) = nrF nb (nrL nb i ks) k := by unfold nrL; rw [List.foldl_append]; rfl
theorem nrL_lt {nb : Nat → Nat → Bool} {n i : Nat} (hi : i < n) : ∀ (ks : List Nat), (∀ k ∈ ks, k < n) → nrL nb i ks < n := by
  intro ks
  induction ks generalizing i with
  | nil => intro _; exact hi
  | cons k ks ih =>
    intro h
    have hk := h k (by simp)
    show nrL nb (nrF nb i k) ks < n
    refine ih ?_ (fun x hx => h x (by simp [hx]))
    unfold nrF
    split
    · exact hk
    · exact hi
def upB (ps : List Pp) (i best k : Nat) : Bool := betwD (ps.getD i (0, 0)) (ps.getD best (0, 0)) (ps.getD k (0, 0))
def downB (ps : List Pp) (i best k : Nat) : Bool := betwD (ps.getD best (0, 0)) (ps.getD i (0, 0)) (ps.getD k (0, 0))
/-- What stands at i, or is unlike it. -/
def Unl (ps : List Pp) (i best : Nat) : Prop := best = i ∨ (noneD (ps.getD best (0, 0)) = false ∧ cmpD (ps.getD best (0, 0)) (ps.getD i (0, 0)) ≠ 0)
theorem cmp_self (a : Pp) : cmpD a a = 0 := by
  have := cmpD_anti a a
  omega
theorem step_of {b : Bool} {A B : Prop} [Decidable A] [Decidable B] (h : b = true ↔ ¬ A ∧ B) (x y : Nat) : (if b = true then y else x) = if A then x else if B then y else x := by
  by_cases hb : b = true
  · obtain ⟨h1, h2⟩ := h.1 hb
    rw [if_pos hb, if_neg h1, if_pos h2]
  · rw [if_neg hb]
    by_cases hA : A
    · rw [if_pos hA]
    · rw [if_neg hA, if_neg fun hB => hb (h.2 ⟨hA, hB⟩)]
theorem up_step {ps : List Pp} {i best k : Nat} (hi : noneD (ps.getD i (0, 0)) = false) (hu : Unl ps i best) : nrF (upB ps i) best k = stepF ps i (ps.getD i (0, 0)) 1 best k := by
  unfold nrF stepF upB
  refine step_of ?_ _ _
  cases hk : noneD (ps.getD k (0, 0))
  · have hb : noneD (ps.getD best (0, 0)) = false := by
      rcases hu with rfl | hu
      · exact hi
      · exact hu.1
    have hbi : best ≠ i → cmpD (ps.getD best (0, 0)) (ps.getD i (0, 0)) ≠ 0 := fun hne => by
      rcases hu with e | hu
      · exact absurd e hne
      · exact hu.2
    have hbe : best = i → cmpD (ps.getD best (0, 0)) (ps.getD i (0, 0)) = 0 := fun e => by rw [e]; exact cmp_self _
    rw [betw_is hi hb hk, afterD_is]
    have t1 := cmpD_trans (ps.getD i (0, 0)) (ps.getD best (0, 0)) (ps.getD k (0, 0))
    have t2 := cmpD_trans (ps.getD i (0, 0)) (ps.getD k (0, 0)) (ps.getD best (0, 0))
    have t3 := cmpD_trans (ps.getD best (0, 0)) (ps.getD i (0, 0)) (ps.getD k (0, 0))
    have t4 := cmpD_trans (ps.getD best (0, 0)) (ps.getD k (0, 0)) (ps.getD i (0, 0))
    have t5 := cmpD_trans (ps.getD k (0, 0)) (ps.getD i (0, 0)) (ps.getD best (0, 0))
    have t6 := cmpD_trans (ps.getD k (0, 0)) (ps.getD best (0, 0)) (ps.getD i (0, 0))
    have e1 := cmpD_anti (ps.getD i (0, 0)) (ps.getD best (0, 0))
    have e2 := cmpD_anti (ps.getD i (0, 0)) (ps.getD k (0, 0))
    have e3 := cmpD_anti (ps.getD k (0, 0)) (ps.getD best (0, 0))
    by_cases hbb : best = i
    · have e4 := hbe hbb
      clear hbe hbi
      generalize cmpD (ps.getD i (0, 0)) (ps.getD best (0, 0)) = P at *
      generalize cmpD (ps.getD best (0, 0)) (ps.getD i (0, 0)) = P' at *
      generalize cmpD (ps.getD i (0, 0)) (ps.getD k (0, 0)) = R at *
      generalize cmpD (ps.getD k (0, 0)) (ps.getD i (0, 0)) = R' at *
      generalize cmpD (ps.getD k (0, 0)) (ps.getD best (0, 0)) = S at *
      generalize cmpD (ps.getD best (0, 0)) (ps.getD k (0, 0)) = S' at *
      rw [if_neg (by omega)]
      simp only [hbb, true_or, and_true, Bool.false_eq_true, false_or, Bool.or_eq_true, decide_eq_true_eq]
      omega
    · have e4 := hbi hbb
      clear hbe hbi
      generalize cmpD (ps.getD i (0, 0)) (ps.getD best (0, 0)) = P at *
      generalize cmpD (ps.getD best (0, 0)) (ps.getD i (0, 0)) = P' at *
      generalize cmpD (ps.getD i (0, 0)) (ps.getD k (0, 0)) = R at *
      generalize cmpD (ps.getD k (0, 0)) (ps.getD i (0, 0)) = R' at *
      generalize cmpD (ps.getD k (0, 0)) (ps.getD best (0, 0)) = S at *
      generalize cmpD (ps.getD best (0, 0)) (ps.getD k (0, 0)) = S' at *
      simp only [hbb, Bool.false_eq_true, false_or]
      repeat' split
      all_goals simp only [Bool.and_eq_true, Bool.or_eq_true, decide_eq_true_eq]
      all_goals omega
  · rw [betw_no (.inr (.inr hk))]
    exact ⟨fun h => (by cases h), fun h => absurd (.inl rfl) h.1⟩
theorem down_step {ps : List Pp} {i best k : Nat} (hi : noneD (ps.getD i (0, 0)) = false) (hu : Unl ps i best) : nrF (downB ps i) best k = stepF ps i (ps.getD i (0, 0)) (-1) best k := by
  unfold nrF stepF downB
  refine step_of ?_ _ _
  cases hk : noneD (ps.getD k (0, 0))
  · have hb : noneD (ps.getD best (0, 0)) = false := by
      rcases hu with rfl | hu
      · exact hi
      · exact hu.1
    have hbi : best ≠ i → cmpD (ps.getD best (0, 0)) (ps.getD i (0, 0)) ≠ 0 := fun hne => by
      rcases hu with e | hu
      · exact absurd e hne
      · exact hu.2
    have hbe : best = i → cmpD (ps.getD best (0, 0)) (ps.getD i (0, 0)) = 0 := fun e => by rw [e]; exact cmp_self _
    rw [betw_is hb hi hk, afterD_is]
    have t1 := cmpD_trans (ps.getD i (0, 0)) (ps.getD best (0, 0)) (ps.getD k (0, 0))
    have t2 := cmpD_trans (ps.getD i (0, 0)) (ps.getD k (0, 0)) (ps.getD best (0, 0))
    have t3 := cmpD_trans (ps.getD best (0, 0)) (ps.getD i (0, 0)) (ps.getD k (0, 0))
    have t4 := cmpD_trans (ps.getD best (0, 0)) (ps.getD k (0, 0)) (ps.getD i (0, 0))
    have t5 := cmpD_trans (ps.getD k (0, 0)) (ps.getD i (0, 0)) (ps.getD best (0, 0))
    have t6 := cmpD_trans (ps.getD k (0, 0)) (ps.getD best (0, 0)) (ps.getD i (0, 0))
    have e1 := cmpD_anti (ps.getD i (0, 0)) (ps.getD best (0, 0))
    have e2 := cmpD_anti (ps.getD i (0, 0)) (ps.getD k (0, 0))
    have e3 := cmpD_anti (ps.getD k (0, 0)) (ps.getD best (0, 0))
    by_cases hbb : best = i
    · have e4 := hbe hbb
      clear hbe hbi
      generalize cmpD (ps.getD i (0, 0)) (ps.getD best (0, 0)) = P at *
      generalize cmpD (ps.getD best (0, 0)) (ps.getD i (0, 0)) = P' at *
      generalize cmpD (ps.getD i (0, 0)) (ps.getD k (0, 0)) = R at *
      generalize cmpD (ps.getD k (0, 0)) (ps.getD i (0, 0)) = R' at *
      generalize cmpD (ps.getD k (0, 0)) (ps.getD best (0, 0)) = S at *
      generalize cmpD (ps.getD best (0, 0)) (ps.getD k (0, 0)) = S' at *
      rw [if_neg (by omega)]
      simp only [hbb, true_or, and_true, Bool.false_eq_true, false_or, Bool.or_eq_true, decide_eq_true_eq]
      omega
    · have e4 := hbi hbb
      clear hbe hbi
      generalize cmpD (ps.getD i (0, 0)) (ps.getD best (0, 0)) = P at *
      generalize cmpD (ps.getD best (0, 0)) (ps.getD i (0, 0)) = P' at *
      generalize cmpD (ps.getD i (0, 0)) (ps.getD k (0, 0)) = R at *
      generalize cmpD (ps.getD k (0, 0)) (ps.getD i (0, 0)) = R' at *
      generalize cmpD (ps.getD k (0, 0)) (ps.getD best (0, 0)) = S at *
      generalize cmpD (ps.getD best (0, 0)) (ps.getD k (0, 0)) = S' at *
      simp only [hbb, Bool.false_eq_true, false_or]
      repeat' split
      all_goals simp only [Bool.and_eq_true, Bool.or_eq_true, decide_eq_true_eq]
      all_goals omega
  · rw [betw_no (.inr (.inr hk))]
    exact ⟨fun h => (by cases h), fun h => absurd (.inl rfl) h.1⟩
theorem Unl.step {ps : List Pp} {i best k : Nat} {way : Int} (hu : Unl ps i best) : Unl ps i (stepF ps i (ps.getD i (0, 0)) way best k) := by
  unfold stepF
  split
  · exact hu
  · rename_i h
    split
    · exact .inr ⟨Bool.eq_false_iff.2 fun g => h (.inl g), fun g => h (.inr g)⟩
    · exact hu
theorem near_fold {ps : List Pp} {i : Nat} {way : Int} {nb : Nat → Nat → Bool} (hs : ∀ best k, Unl ps i best → nrF nb best k = stepF ps i (ps.getD i (0, 0)) way best k) : ∀ (ks : List Nat) (best : Nat), Unl ps i best → nrL nb best ks = ks.foldl (stepF ps i (ps.getD i (0, 0)) way) best
  | [], _, _ => rfl
  | k :: ks, best, hu => by
    show nrL nb (nrF nb best k) ks = ks.foldl (stepF ps i (ps.getD i (0, 0)) way) (stepF ps i (ps.getD i (0, 0)) way best k)
    rw [hs best k hu]
    exact near_fold hs ks _ hu.step
theorem near_none {nb : Nat → Nat → Bool} {i : Nat} (h : ∀ best k, nb best k = false) : ∀ (ks : List Nat), nrL nb i ks = i
  | [] => rfl
  | k :: ks => by
    show nrL nb (nrF nb i k) ks = i
    rw [show nrF nb i k = i by unfold nrF; rw [h]; rfl]
    exact near_none h ks
theorem nextD_is (ps : List Pp) {i : Nat} (hi : i < ps.length) : ((nrL (upB ps i) i (List.range ps.length) : Nat) : Int) = stepD ps (i : Nat) 1 := by
  unfold stepD
  rw [Int.toNat_natCast]
  cases h : noneD (ps.getD i (0, 0))
  · rw [if_neg (by simp only [Bool.false_eq_true, or_false]; omega)]
    unfold stepN
    rw [near_fold (fun best k hu => up_step h hu) _ _ (.inl rfl)]
  · rw [if_pos (.inr (.inr rfl)), near_none (nb := upB ps i) (fun best k => betw_no (.inl h))]
theorem prevD_is (ps : List Pp) {i : Nat} (hi : i < ps.length) : ((nrL (downB ps i) i (List.range ps.length) : Nat) : Int) = stepD ps (i : Nat) (-1) := by
  unfold stepD
  rw [Int.toNat_natCast]
  cases h : noneD (ps.getD i (0, 0))
  · rw [if_neg (by simp only [Bool.false_eq_true, or_false]; omega)]
    unfold stepN
    rw [near_fold (fun best k hu => down_step h hu) _ _ (.inl rfl)]
  · rw [if_pos (.inr (.inr rfl)), near_none (nb := downB ps i) (fun best k => betw_no (.inr (.inl h)))]
end Go.Proofs.Ytccbjohiaboipaa
