/-
  A range over an iterator that hands over memory of its own making: what is told of an element may speak of the memory where it is handed over.
-/
import Derived.Test.YthhlbhnogcfnjaaDoorDIter
namespace Go.Proofs.YthhlbhnogcfnjaaDoor
open Go.RowKit Go.Shelf

/-- What such an iterator promises: 'Y pre x W': what is told of x where it is handed over, pre having come. -/
def Hands {α : Type} (F : Fence) (n : Nat) (P : Program) (g : Nat) (lb : Array Value) (encs : α → Array Value) (Y : List α → α → World → Prop) (Kp : World → World → Prop) (S Sp : List α → Prop) (w : World) : Prop :=
  ∀ (l : Nat) (J Jx : List α → World → Prop) (W : World), Below w.heap.size w W → OwnFrom W.heap.size J → OwnFrom W.heap.size Jx →
    (∀ pre x W1, J pre W1 → Y pre x W1 → YieldAt F (n - 1) P l (encs x) W1 fun e W' =>
      (e = .returned (.bool true) ∧ J (pre ++ [x]) W' ∧ Kp W1 W') ∨ (e = .returned (.bool false) ∧ Jx (pre ++ [x]) W')) →
    J [] W → CallsIn F n P g (#[.func (.yield l) #[] #[]] ++ lb) W fun e W' => (∃ v, e = .returned v) ∧ ((∃ xs, S xs ∧ J xs W') ∨ (∃ pre, Sp pre ∧ Jx pre W'))

theorem ownFrom_mono {β : Type} {A B : Nat} {I : β → World → Prop} (h : OwnFrom A I) (hab : A ≤ B) : OwnFrom B I := fun s W W' row hs hg hr => h s W W' row hs hg (fun r e => ⟨Nat.le_trans hab (hr r e).1, (hr r e).2⟩)

theorem range_hands {α : Type} {F : Fence} {n : Nat} {P : Program} {g : Operand} {ps : Array Tmp} {assign body : Code} {Q : Exit → Act → World → Prop} {a : Act} {w : World}
    (hro : F.round = none) (h1 : 1 ≤ n) {gf : Nat} {lb : Array Value} (hg : a.eval g = .func (.func gf) #[] lb) (hFg : F.fn gf) (eg : ∀ args w, (callFunc gf args).run P w = .ok (.enter gf args) w)
    {encs : α → Array Value} {Y : List α → α → World → Prop} {Kp : World → World → Prop} {S Sp : List α → Prop} (hseq : Hands F (n - 1) P gf lb encs Y Kp S Sp w)
    (hKt : ∀ {A B C : World}, Kp A B → Kp B C → Kp A C) (hKb : ∀ (W : World) (l : Nat) (o o' : Obj), W.heap[l]? = some o → o.isCells = false → Kp W (W.putObj l o'))
    (hYb : ∀ pre x (W : World) (l : Nat) (o o' : Obj), Y pre x W → W.heap[l]? = some o → o.isCells = false → Y pre x (W.putObj l o')) (hps : ∀ x, (encs x).size = ps.size)
    (I : List α → World → Prop) (Ix : Code → List α → World → Prop) (hI : OwnFrom w.heap.size I) (hIx : ∀ c, OwnFrom w.heap.size (Ix c)) (h0 : I [] w) (a1 : α → Act)
    (hassign : ∀ (l : Nat) (x : α) (W : World) (K : Act → World → Prop), K (a1 x) W →
      assign.wpIn (F.inRound l) (n - 1 - 1) P (Exit.then K (fun _ _ _ => False)) { tmps := (ps.zip (encs x)).foldl (fun t (p, v) => t.setIfInBounds p v) a.tmps, defers := [] } W)
    (hbody : ∀ (l : Nat) (pre : List α) (x : α) (W : World), I pre W → Y pre x W → body.wpIn (F.inRound l) (n - 1 - 1) P (ownPostG w.heap.size Kp I Ix (pre ++ [x]) W) (a1 x) W)
    (hdone : ∀ (D : Nat) (xs : List α) (W : World), w.heap.size ≤ D → S xs → I xs W → W.heap[D]? = some (.deferred (some [])) → Q .normal { a with defers := { target := .collected D, args := #[] } :: a.defers } W)
    (hstop : ∀ (D : Nat) (c : Code) (pre : List α) (W : World), w.heap.size ≤ D → Sp pre → Ix c pre W → W.heap[D]? = some (.deferred (some [])) → c.wpIn F n P Q { a with defers := { target := .collected D, args := #[] } :: a.defers } W) :
    (Code.rangeFunc g ps assign body).wpIn F n P Q a w := by
  refine wpIn_rangeFunc fun fn hfn => ?_
  rw [hro]
  obtain ⟨R, hR⟩ : ∃ R : LoopState → Option Code → Loop, R = fun st pe => { state := st, pending := pe, fn, tmps := a.tmps, params := ps, assign, body, defers := w.heap.size } := ⟨_, rfl⟩
  obtain ⟨X, hX⟩ : ∃ X, (w.alloc (.deferred (some []))).alloc (.loop (R .ready none)) = X := ⟨_, rfl⟩
  have hsz : X.heap.size = w.heap.size + 2 := by rw [← hX]; simp
  have hbX : Below w.heap.size w X := by rw [← hX]; exact ((Below.refl _ w).alloc (Nat.le_refl _) _).alloc (by simp) _
  have hLX : X.heap[w.heap.size + 1]? = some (.loop (R .ready none)) := by
    have := heap_new (w.alloc (.deferred (some []))) (.loop (R .ready none))
    rwa [hX, World.size_alloc] at this
  have hDX : X.heap[w.heap.size]? = some (.deferred (some [])) := by
    rw [← hX, Below.heap_alloc _ _ _ (by simp)]
    exact heap_new w _
  have hIX : I [] X := by rw [← hX]; exact hI.alloc _ (hI.alloc _ h0)
  have hent : (Instr.enterLoop fn a.tmps ps assign body none).run P w = .ok (w.heap.size + 1, [{ target := .collected w.heap.size, args := #[] }]) X := by
    rw [run_enterLoop_outer, ← hX, hR]
  clear hX
  -- what the law itself knows beside the caller's invariant
  have turn : ∀ {A B : World} {row : Option Nat} {k : Nat} {o : Obj}, A.grownBy B row → (∀ r, row = some r → X.heap.size ≤ r) → k < w.heap.size + 2 → A.heap[k]? = some o → B.heap[k]? = some o := fun hg hr hk ho =>
    (hg.block _ (lt_of_heap ho) (fun e => by have := hr _ e.symm; omega)).trans ho
  refine ⟨_, _, X, { target := .fn (.func gf) lb, args := #[.func (.yield (w.heap.size + 1)) #[] #[]] }, X, gf, #[.func (.yield (w.heap.size + 1)) #[] #[]] ++ lb, X, hent, ?_, ?_, ?_, fun _ => h1, ?_⟩
  · simp only [resolve, hg]
    simp [go_sem]
  · intro f' hf'
    simp [Target.leads] at hf'
    subst hf'
    exact hFg
  · simp [invoke, go_sem, eg]
  refine (hseq (w.heap.size + 1) (fun pre W => I pre W ∧ W.heap[w.heap.size + 1]? = some (.loop (R .ready none)) ∧ W.heap[w.heap.size]? = some (.deferred (some [])))
    (fun pre W => ∃ c, Ix c pre W ∧ W.heap[w.heap.size + 1]? = some (.loop (R .done (some c))) ∧ W.heap[w.heap.size]? = some (.deferred (some []))) X hbX ?_ ?_ ?_ ⟨hIX, hLX, hDX⟩).mono ?_
  · rintro s A B row ⟨hi, hl, hd⟩ hg' hr
    exact ⟨hI s A B row hi hg' (fun r e => ⟨by have := (hr r e).1; omega, (hr r e).2⟩), turn hg' (fun r e => (hr r e).1) (by omega) hl, turn hg' (fun r e => (hr r e).1) (by omega) hd⟩
  · rintro s A B row ⟨c, hi, hl, hd⟩ hg' hr
    exact ⟨c, hIx c s A B row hi hg' (fun r e => ⟨by have := (hr r e).1; omega, (hr r e).2⟩), turn hg' (fun r e => (hr r e).1) (by omega) hl, turn hg' (fun r e => (hr r e).1) (by omega) hd⟩
  · rintro pre x V ⟨hi, hl, hd⟩ hy
    have hrun := run_yield (P := P) (args := encs x) hl (by rw [hR]; exact hps x)
    rw [hR] at hrun
    refine ⟨fn, _, assign, body, hrun, roundIn_of_wpIn hfn (hassign _ x V _ ⟨_, run_beginRound hl (by rw [hR]), ?_⟩)⟩
    obtain ⟨V', hV'⟩ : ∃ V', V.putObj (w.heap.size + 1) (.loop { R .ready none with state := .busy }) = V' := ⟨_, rfl⟩
    have hl' : V'.heap[w.heap.size + 1]? = some (.loop (R .busy none)) := by
      rw [← hV', World.putObj_heap_same (lt_of_heap hl), hR]
    have hd' : V'.heap[w.heap.size]? = some (.deferred (some [])) := by
      rw [← hV', World.putObj_heap_other (by omega)]
      exact hd
    have hi' : I pre V' := hV' ▸ hI.putObj _ hi (by omega) hl rfl
    have hy' : Y pre x V' := hV' ▸ hYb pre x V _ _ _ hy hl rfl
    have hk' : Kp V V' := hV' ▸ hKb V _ _ _ hl rfl
    rw [hV']
    clear hV' hrun
    -- at the round's end
    have fin : ∀ (j : Option Code) (Z : World), KeepsFrom w.heap.size V' Z → (Instr.endRound (w.heap.size + 1) j).run P Z = .ok (.bool j.isNone) (Z.putObj (w.heap.size + 1) (.loop (R (if j.isNone then .ready else .done) j))) ∧
        Z.heap[w.heap.size + 1]? = some (.loop (R .busy none)) ∧ (Z.putObj (w.heap.size + 1) (.loop (R (if j.isNone then .ready else .done) j))).heap[w.heap.size + 1]? = some (.loop (R (if j.isNone then .ready else .done) j)) ∧
        (Z.putObj (w.heap.size + 1) (.loop (R (if j.isNone then .ready else .done) j))).heap[w.heap.size]? = some (.deferred (some [])) := fun j Z hz => by
      have h2 := hz.same _ _ (by omega) hl' rfl
      have h3 := run_endRound (P := P) j h2
      refine ⟨?_, h2, World.putObj_heap_same (lt_of_heap h2), (World.putObj_heap_other (by omega)).trans (hz.same _ _ (Nat.le_refl _) hd' rfl)⟩
      rw [hR] at h3 ⊢
      exact h3
    refine wpIn_mono (hbody _ pre x V' hi' hy') ?_
    rintro e b Z hp
    cases e with
    | normal =>
      obtain ⟨hz, hkz, hiz⟩ := hp
      obtain ⟨hr, h2, h3, h4⟩ := fin none Z hz
      exact ⟨_, _, hr, .inl ⟨rfl, ⟨hI.putObj _ hiz (by omega) h2 rfl, h3, h4⟩, hKt hk' (hKt hkz (hKb _ _ _ _ h2 rfl))⟩⟩
    | ret =>
      obtain ⟨hz, hiz⟩ := hp
      obtain ⟨hr, h2, h3, h4⟩ := fin (some .ret) Z hz
      exact ⟨_, _, hr, .inr ⟨rfl, .ret, (hIx _).putObj _ hiz (by omega) h2 rfl, h3, h4⟩⟩
    | exit id =>
      obtain ⟨hz, hiz⟩ := hp
      obtain ⟨hr, h2, h3, h4⟩ := fin (some (.exit id)) Z hz
      exact ⟨_, _, hr, .inr ⟨rfl, .exit id, (hIx _).putObj _ hiz (by omega) h2 rfl, h3, h4⟩⟩
    | goto t =>
      obtain ⟨hz, hiz⟩ := hp
      obtain ⟨hr, h2, h3, h4⟩ := fin (some (.goto t)) Z hz
      exact ⟨_, _, hr, .inr ⟨rfl, .goto t, (hIx _).putObj _ hiz (by omega) h2 rfl, h3, h4⟩⟩
    | panic ch => exact hp.elim
    | outgrown => exact hp.elim
  · rintro e Z ⟨⟨v, rfl⟩, ⟨xs, hS, hi, hl, hd⟩ | ⟨pre, hSp, c, hi, hl, hd⟩⟩
    · have h3 := run_endLoop (P := P) hl (by rw [hR]; simp)
      refine ⟨none, Z.putObj (w.heap.size + 1) (.loop { R .ready none with state := .exhausted }), ?_, hdone _ xs _ (Nat.le_refl _) hS (hI.putObj _ hi (by omega) hl rfl) ((World.putObj_heap_other (by omega)).trans hd)⟩
      rw [h3, hR]
    · have h3 := run_endLoop (P := P) hl (by rw [hR]; simp)
      refine ⟨some c, Z.putObj (w.heap.size + 1) (.loop { R .done (some c) with state := .exhausted }), ?_, hstop _ c pre _ (Nat.le_refl _) hSp ((hIx c).putObj _ hi (by omega) hl rfl) ((World.putObj_heap_other (by omega)).trans hd)⟩
      rw [h3, hR]
end Go.Proofs.YthhlbhnogcfnjaaDoor
