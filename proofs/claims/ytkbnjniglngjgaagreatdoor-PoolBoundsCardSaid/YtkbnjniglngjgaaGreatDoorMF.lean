/-
  A range over an iterator that hands over memory of its own making: what is told of an element may speak of the memory where it is handed over.
-/
import Derived.Test.YtkbnjniglngjgaaGreatDoorMD
import Derived.Test.YtkbnjniglngjgaaGreatDoorME
namespace Go.Proofs.YtkbnjniglngjgaaGreatDoor
open Go.RowKit Go.Shelf

/-- What such an iterator promises: 'Y pre x W': what is told of x where it is handed over, pre having come. -/
def Hands {α : Type} (F : Fence) (n : Nat) (P : Program) (g : Nat) (lb : Array Value) (encs : α → Array Value) (Y : List α → α → World → Prop) (Kp : World → World → Prop) (S Sp : List α → Prop) (w : World) : Prop :=
  ∀ (l : Nat) (J Jx : List α → World → Prop) (W : World), Below w.heap.size w W → OwnFrom W.heap.size J → OwnFrom W.heap.size Jx →
    (∀ pre x W1, J pre W1 → Y pre x W1 → YieldAt F (n - 1) P l (encs x) W1 fun e W' =>
      (e = .returned (.bool true) ∧ J (pre ++ [x]) W' ∧ Kp W1 W') ∨ (e = .returned (.bool false) ∧ Jx (pre ++ [x]) W')) →
    J [] W → CallsIn F n P g (#[.func (.yield l) #[] #[]] ++ lb) W fun e W' => (∃ v, e = .returned v) ∧ ((∃ xs, S xs ∧ J xs W') ∨ (∃ pre, Sp pre ∧ Jx pre W'))

theorem ownFrom_mono {β : Type} {A B : Nat} {I : β → World → Prop} (h : OwnFrom A I) (hab : A ≤ B) : OwnFrom B I := fun s W W' row hs hg hr => h s W W' row hs hg (fun r e => ⟨Nat.le_trans hab (hr r e).1, (hr r e).2⟩)

theorem range_hands {α : Type} {F : Fence} {n : Nat} {P : Program} {g : Operand} {ps : Array Tmp} {assign body : Code} {Q : Exit → Act → World → Prop} {a : Act} {w : World}
    (hro : F.round = none) (h1 : 1 ≤ n) {gf : Nat} {lb : Array Value} (hg : a.eval g = .func (.func gf) #[] lb) (hFg : F.fn gf) (eg : ∀ args w, (callFunc gf args).run P w = .ok (.enter gf args) w)
    {encs : α → Array Value} {Y : List α → α → World → Prop} {Kp : World → World → Prop} {S Sp : List α → Prop} (hseq : Hands F (n - 1) P gf lb encs Y Kp S Sp w)
    (hKt : ∀ {A B C : World}, Kp A B → Kp B C → Kp A C) (hKb : ∀ (W : World) (l : Nat) (o o' : Obj), W.heap[l]? = some o → o.isCells = false → Kp W (W.putObj l o'))
    (hYb : ∀ pre x (W : World) (l : Nat) (o o' : Obj), Y pre x W → W.heap[l]? = some o → o.isCells = false → Y pre x (W.putObj l o')) (hps : ∀ x, (encs x).size = ps.size)
    (I : List α → World → Prop) (Ix : Code → List α → World → Prop) (hI : OwnFrom w.heap.size I) (hIx : ∀ c, OwnFrom w.heap.size (Ix c)) (h0 : I [] w) (a1 : α → Act)
    (hassign : ∀ (l : Nat) (x : α) (W : World) (K : Act → World → Prop), K (a1 x) W →
      assign.wpIn (F.inRound l) (n - 1 - 1) P (Exit.then K (fun _ _ _ => False)) { tmps := (ps.zip (encs x)).foldl (fun t (p, v) => t.setIfInBounds p v) a.tmps, defers := [] } W)
    (hbody : ∀ (l : Nat) (pre : List α) (x : α) (W : World), I pre W → Y pre x W → body.wpIn (F.inRound l) (n - 1 - 1) P (ownPostG w.heap.size Kp I Ix (pre ++ [x]) W) (a1 x) W)
    (hdone : ∀ (D : Nat) (xs : List α) (W : World), w.heap.size ≤ D → S xs → I xs W → W.heap[D]? = some (.deferred (some [])) → Q .normal { a with defers := { target := .collected D, args := #[] } :: a.defers } W)
    (hstop : ∀ (D : Nat) (c : Code) (pre : List α) (W : World), w.heap.size ≤ D → Sp pre → Ix c pre W → W.heap[D]? = some (.deferred (some [])) → c.wpIn F n P Q { a with defers := { target := .collected D, args := #[] } :: a.defers } W) :
    (Code.rangeFunc g ps assign body).wpIn F n P Q a w := by
  refine wpIn_rangeFunc fun fn hfn => ?_
  rw [hro]
  obtain ⟨R, hR⟩ : ∃ R : LoopState → Option Code → Loop, R = fun st pe => { state := st, pending := pe, fn, tmps := a.tmps, params := ps, assign, body, defers := w.heap.size } := ⟨_, rfl⟩
  obtain ⟨X, hX⟩ : ∃ X, (w.alloc (.deferred (some []))).alloc (.loop (R .ready none)) = X := ⟨_, rfl⟩
  have hsz : X.heap.size = w.heap.size + 2 := by rw [← hX]; simp
  have hbX : Below w.heap.size w X := by rw [← hX]; exact ((Below.refl _ w).alloc (Nat.le_refl _) _).alloc (by simp) _
  have hLX : X.heap[w.heap.size + 1]? = some (.loop (R .ready none)) := by
    have := heap_new (w.alloc (.deferred (some []))) (.loop (R .ready none))
    rwa [hX, World.size_alloc] at this
  have hDX : X.heap[w.heap.size]? = some (.deferred (some [])) := by
    rw [← hX, Below.heap_alloc _ _ _ (by simp)]
    exact heap_new w _
  have hIX : I [] X := by rw [← hX]; exact hI.alloc _ (hI.alloc _ h0)
  have hent : (Instr.enterLoop fn a.tmps ps assign body none).run P w = .ok (w.heap.size + 1, [{ target := .collected w.heap.size, args := #[] }]) X := by
    rw [run_enterLoop_outer, ← hX, hR]
  clear hX
  -- what the law itself knows beside the caller's invariant
  have turn : ∀ {A B : World} {row : Option Nat} {k : Nat} {o : Obj}, A.grownBy B row → (∀ r, row = some r → X.heap.size ≤ r) → k < w.heap.size + 2 → A.heap[k]? = some o → B.heap[k]? = some o := fun hg hr hk ho =>
    (hg.block _ (lt_of_heap ho) (fun e => by have := hr _ e.symm; omega)).trans ho
  refine ⟨_, _, X, { target := .fn (.func gf) lb, args := #[.func (.yield (w.heap.size + 1)) #[] #[]] }, X, gf, #[.func (.yield (w.heap.size + 1)) #[] #[]] ++ lb, X, hent, ?_, ?_, ?_, fun _ => h1, ?_⟩
  · simp only [resolve, hg]
    simp [go_sem]
  · intro f' hf'
    simp [Target.leads] at hf'
    subst hf'
    exact hFg
  · simp [invoke, go_sem, eg]
  refine (hseq (w.heap.size + 1) (fun pre W => I pre W ∧ W.heap[w.heap.size + 1]? = some (.loop (R .ready none)) ∧ W.heap[w.heap.size]? = some (.deferred (some [])))
    (fun pre W => ∃ c, Ix c pre W ∧ W.heap[w.heap.size + 1]? = some (.loop (R .done (some c))) ∧ W.heap[w.heap.size]? = some (.deferred (some []))) X hbX ?_ ?_ ?_ ⟨hIX, hLX, hDX⟩).mono ?_
  · rintro s A B row ⟨hi, hl, hd⟩ hg' hr
    exact ⟨hI s A B row hi hg' (fun r e => ⟨by have := (hr r e).1; omega, (hr r e).2⟩), turn hg' (fun r e => (hr r e).1) (by omega) hl, turn hg' (fun r e => (hr r e).1) (by omega) hd⟩
  · rintro s A B row ⟨c, hi, hl, hd⟩ hg' hr
    exact ⟨c, hIx c s A B row hi hg' (fun r e => ⟨by have := (hr r e).1; omega, (hr r e).2⟩), turn hg' (fun r e => (hr r e).1) (by omega) hl, turn hg' (fun r e => (hr r e).1) (by omega) hd⟩
  · rintro pre x V ⟨hi, hl, hd⟩ hy
    have hrun := run_yield (P := P) (args := encs x) hl (by rw [hR]; exact hps x)
    rw [hR] at hrun
    refine ⟨fn, _, assign, body, hrun, roundIn_of_wpIn hfn (hassign _ x V _ ⟨_, run_beginRound hl (by rw [hR]), ?_⟩)⟩
    obtain ⟨V', hV'⟩ : ∃ V', V.putObj (w.heap.size + 1) (.loop { R .ready none with state := .busy }) = V' := ⟨_, rfl⟩
    have hl' : V'.heap[w.heap.size + 1]? = some (.loop (R .busy none)) := by
      rw [← hV', World.putObj_heap_same (lt_of_heap hl), hR]
    have hd' : V'.heap[w.heap.size]? = some (.deferred (some [])) := by
      rw [← hV', World.putObj_heap_other (by omega)]
      exact hd
    have hi' : I pre V' := hV' ▸ hI.putObj _ hi (by omega) hl rfl
    have hy' : Y pre x V' := hV' ▸ hYb pre x V _ _ _ hy hl rfl
    have hk' : Kp V V' := hV' ▸ hKb V _ _ _ hl rfl
    rw [hV']
    clear hV' hrun
    -- at the round's end
    have fin : ∀ (j : Option Code) (Z : World), KeepsFrom w.heap.size V' Z → (Instr.endRound (w.heap.size + 1) j).run P Z = .ok (.bool j.isNone) (Z.putObj (w.heap.size + 1) (.loop (R (if j.isNone then .ready else .done) j))) ∧
        Z.heap[w.heap.size + 1]? = some (.loop (R .busy none)) ∧ (Z.putObj (w.heap.size + 1) (.loop (R (if j.isNone then .ready else .done) j))).heap[w.heap.size + 1]? = some (.loop (R (if j.isNone then .ready else .done) j)) ∧
        (Z.putObj (w.heap.size + 1) (.loop (R (if j.isNone then .ready else .done) j))).heap[w.heap.size]? = some (.deferred (some [])) := fun j Z hz => by
      have h2 := hz.same _ _ (by omega) hl' rfl
      have h3 := run_endRound (P := P) j h2
      refine ⟨?_, h2, World.putObj_heap_same (lt_of_heap h2), (World.putObj_heap_other (by omega)).trans (hz.same _ _ (Nat.le_refl _) hd' rfl)⟩
      rw [hR] at h3 ⊢
      exact h3
    refine wpIn_mono (hbody _ pre x V' hi' hy') ?_
    rintro e b Z hp
    cases e with
    | normal =>
      obtain ⟨hz, hkz, hiz⟩ := hp
      obtain ⟨hr, h2, h3, h4⟩ := fin none Z hz
      exact ⟨_, _, hr, .inl ⟨rfl, ⟨hI.putObj _ hiz (by omega) h2 rfl, h3, h4⟩, hKt hk' (hKt hkz (hKb _ _ _ _ h2 rfl))⟩⟩
    | ret =>
      obtain ⟨hz, hiz⟩ := hp
      obtain ⟨hr, h2, h3, h4⟩ := fin (some .ret) Z hz
      exact ⟨_, _, hr, .inr ⟨rfl, .ret, (hIx _).putObj _ hiz (by omega) h2 rfl, h3, h4⟩⟩
    | exit id =>
      obtain ⟨hz, hiz⟩ := hp
      obtain ⟨hr, h2, h3, h4⟩ := fin (some (.exit id)) Z hz
      exact ⟨_, _, hr, .inr ⟨rfl, .exit id, (hIx _).putObj _ hiz (by omega) h2 rfl, h3, h4⟩⟩
    | goto t =>
      obtain ⟨hz, hiz⟩ := hp
      obtain ⟨hr, h2, h3, h4⟩ := fin (some (.goto t)) Z hz
      exact ⟨_, _, hr, .inr ⟨rfl, .goto t, (hIx _).putObj _ hiz (by omega) h2 rfl, h3, h4⟩⟩
    | panic ch => exact hp.elim
    | outgrown => exact hp.elim
  · rintro e Z ⟨⟨v, rfl⟩, ⟨xs, hS, hi, hl, hd⟩ | ⟨pre, hSp, c, hi, hl, hd⟩⟩
    · have h3 := run_endLoop (P := P) hl (by rw [hR]; simp)
      refine ⟨none, Z.putObj (w.heap.size + 1) (.loop { R .ready none with state := .exhausted }), ?_, hdone _ xs _ (Nat.le_refl _) hS (hI.putObj _ hi (by omega) hl rfl) ((World.putObj_heap_other (by omega)).trans hd)⟩
      rw [h3, hR]
    · have h3 := run_endLoop (P := P) hl (by rw [hR]; simp)
      refine ⟨some c, Z.putObj (w.heap.size + 1) (.loop { R .done (some c) with state := .exhausted }), ?_, hstop _ c pre _ (Nat.le_refl _) hSp ((hIx c).putObj _ hi (by omega) hl rfl) ((World.putObj_heap_other (by omega)).trans hd)⟩
      rw [h3, hR]
end Go.Proofs.YtkbnjniglngjgaaGreatDoor

namespace Go.Proofs.YtkbnjniglngjgaaGreatDoor
open Go.RowKit Go.Shelf

/-- A Log as plain data. -/
structure Lg where
  first : Nat
  recs : List (List Int)
  start : Nat
  stop : Nat
  flushed : Nat
  tail : List Int

def logT (t : TypeId) : Prop := diskT t ∨ t = 80 ∨ t = 5 ∨ t = 38

theorem Bs.same {w w' : World} {v : Value} {zs : List Int} (h : Bs w v zs) (hk : ∀ b, v.ownBlock = some b → w'.heap[b]? = w.heap[b]?) : Bs w' v zs := by
  refine ⟨h.1, h.2.1, ?_⟩
  rcases h.2.2 with h0 | ⟨b, off, cap, rfl, hc, hcell⟩
  · exact .inl h0
  · refine .inr ⟨b, off, cap, rfl, hc, fun j hj => ?_⟩
    rw [← hcell j hj]
    have := hk b rfl
    simp only [World.cell?, this]

/-- A row of the call's own that holds slices of bytes, none of them in the block that 'tb' names. -/
def RecRow (W : World) (base : Nat) (v : Value) (rs : List (List Int)) (tb : Option Nat) : Prop :=
  ∃ us : List Value, us.length = rs.length ∧ W.ownsRow base 38 1 v rs.length us ∧ ∀ (k : Nat) (r : List Int) (u : Value), rs[k]? = some r → us[k]? = some u → Bs W u r ∧ ∀ b, u.ownBlock = some b → base ≤ b ∧ tb ≠ some b ∧ ∃ c, W.heap[b]? = some (.cells c 5 (0, 0))

/-- The Log behind the pointer to block L, on the disk behind block B. -/
def LogIs (w : World) (base L B n at' sc : Nat) (d : Dk) (g : Lg) : Prop :=
  DiskIs w base B n d ∧ base ≤ L ∧ (16 ≤ sc ∧ sc ≤ 32768 ∧ at' + sc ≤ n) ∧ (g.first + g.recs.length ≤ 5000000000000000000 ∧ g.start ≤ 5000000000000000000 ∧ g.stop ≤ 5000000000000000000 ∧ g.flushed ≤ 5000000000000000000 ∧ g.recs.length ≤ 1000000 ∧ g.tail.length ≤ 2000000) ∧ By g.tail ∧
  ∃ rv tv, w.heap[L]? = some (.cells #[.pointer (some ⟨B, 0, none⟩), .int .i64 at', .int .i64 sc, .int .u64 g.first, rv, .int .u64 g.start, .int .u64 g.stop, .int .u64 g.flushed, tv] 80 (0, 0)) ∧
    w.ownsRow base 5 1 tv g.tail.length (secV g.tail) ∧ RecRow w base rv g.recs tv.ownBlock

theorem RecRow.keep {w w' : World} {base : Nat} {v : Value} {rs : List (List Int)} {tb : Option Nat} (h : RecRow w base v rs tb) (hk : ∀ (k : Nat) c t, w.heap[k]? = some (Obj.cells c t (0, 0)) → t = 5 ∨ t = 38 → tb ≠ some k → w'.heap[k]? = w.heap[k]?) (htb : tb ≠ v.ownBlock ∨ tb = none) : RecRow w' base v rs tb := by
  obtain ⟨us, h1, h2, h3⟩ := h
  refine ⟨us, h1, own_same h2 fun k hk' => ?_, fun k r u hr hu => ?_⟩
  · obtain ⟨c, hc⟩ := own_heap h2 hk'
    refine hk k _ _ hc (.inr rfl) ?_
    rcases htb with h | h
    · rw [← hk']; exact h
    · rw [h]; exact fun e => by cases e
  · obtain ⟨hb, hx⟩ := h3 k r u hr hu
    refine ⟨hb.same fun b e => ?_, fun b e => ?_⟩
    · obtain ⟨h4, h6, c, h7⟩ := hx b e
      exact hk b _ _ h7 (.inl rfl) h6
    · obtain ⟨h4, h6, c, h7⟩ := hx b e
      exact ⟨h4, h6, c, (hk b _ _ h7 (.inl rfl) h6).trans h7⟩
theorem RecRow.all {w w' : World} {base : Nat} {v : Value} {rs : List (List Int)} {tb : Option Nat} (h : RecRow w base v rs tb) (hk : ∀ (k : Nat) c t, w.heap[k]? = some (Obj.cells c t (0, 0)) → t = 5 ∨ t = 38 → w'.heap[k]? = w.heap[k]?) : RecRow w' base v rs tb := by
  obtain ⟨us, h1, h2, h3⟩ := h
  refine ⟨us, h1, own_same h2 fun k hk' => ?_, fun k r u hr hu => ?_⟩
  · obtain ⟨c, hc⟩ := own_heap h2 hk'
    exact hk k _ _ hc (.inr rfl)
  · obtain ⟨hb, hx⟩ := h3 k r u hr hu
    refine ⟨hb.same fun b e => ?_, fun b e => ?_⟩
    · obtain ⟨h4, h6, c, h7⟩ := hx b e
      exact hk b _ _ h7 (.inl rfl)
    · obtain ⟨h4, h6, c, h7⟩ := hx b e
      exact ⟨h4, h6, c, (hk b _ _ h7 (.inl rfl)).trans h7⟩
theorem RecRow.below {w w' : World} {base : Nat} {v : Value} {rs : List (List Int)} {tb : Option Nat} (h : RecRow w base v rs tb) (hb : Below w.heap.size w w') : RecRow w' base v rs tb := h.all fun k _ _ hk _ => hb.block k (lt_of_heap hk)
theorem LogIs.below {w w' : World} {base L B n at' sc : Nat} {d : Dk} {g : Lg} (h : LogIs w base L B n at' sc d g) (hb : Below w.heap.size w w') : LogIs w' base L B n at' sc d g := by
  obtain ⟨hd, hL, hs, hn, hby, rv, tv, hh, ht, hr⟩ := h
  exact ⟨hd.below hb, hL, hs, hn, hby, rv, tv, (hb.block L (lt_of_heap hh)).trans hh, own_below ht hb, hr.below hb⟩
theorem LogIs.lt {w : World} {base L B n at' sc : Nat} {d : Dk} {g : Lg} (h : LogIs w base L B n at' sc d g) : L < w.heap.size := by
  obtain ⟨hd, hL, hs, hn, hby, rv, tv, hh, _⟩ := h
  exact lt_of_heap hh
theorem LogIs.form {w : World} {base L B n at' sc : Nat} {d : Dk} {g : Lg} (h : LogIs w base L B n at' sc d g) : ∃ ra rc ta tc, w.heap[L]? = some (.cells #[.pointer (some ⟨B, 0, none⟩), .int .i64 at', .int .i64 sc, .int .u64 g.first, .slice ra g.recs.length rc, .int .u64 g.start, .int .u64 g.stop, .int .u64 g.flushed, .slice ta g.tail.length tc] 80 (0, 0)) ∧
    w.ownsRow base 5 1 (.slice ta g.tail.length tc) g.tail.length (secV g.tail) ∧ RecRow w base (.slice ra g.recs.length rc) g.recs (Value.ownBlock (.slice ta g.tail.length tc)) := by
  obtain ⟨hd, hL, hs, hn, hby, rv, tv, hh, ht, hr⟩ := h
  have f1 : ∃ ta tc, tv = .slice ta g.tail.length tc := by
    rcases ht.2 with ⟨rfl, h0⟩ | ⟨q, cap, cur, rfl, _⟩
    · exact ⟨none, 0, by rw [h0]⟩
    · exact ⟨_, cap, rfl⟩
  have f2 : ∃ ra rc, rv = .slice ra g.recs.length rc := by
    obtain ⟨us, _, h2, _⟩ := hr
    rcases h2.2 with ⟨rfl, h0⟩ | ⟨q, cap, cur, rfl, _⟩
    · exact ⟨none, 0, by rw [h0]⟩
    · exact ⟨_, cap, rfl⟩
  obtain ⟨ta, tc, rfl⟩ := f1
  obtain ⟨ra, rc, rfl⟩ := f2
  exact ⟨ra, rc, ta, tc, hh, ht, hr⟩
/-- The cells of a Log's struct. -/
theorem log_cells {w : World} {L : Nat} {x0 x1 x2 x3 x4 x5 x6 x7 x8 : Value} {t : TypeId} (hh : w.heap[L]? = some (.cells #[x0, x1, x2, x3, x4, x5, x6, x7, x8] t (0, 0))) :
    w.cell? ⟨L, 0, none⟩ = some x0 ∧ w.cell? ⟨L, 1, none⟩ = some x1 ∧ w.cell? ⟨L, 2, none⟩ = some x2 ∧ w.cell? ⟨L, 3, none⟩ = some x3 ∧ w.cell? ⟨L, 4, none⟩ = some x4 ∧ w.cell? ⟨L, 5, none⟩ = some x5 ∧ w.cell? ⟨L, 6, none⟩ = some x6 ∧ w.cell? ⟨L, 7, none⟩ = some x7 ∧ w.cell? ⟨L, 8, none⟩ = some x8 :=
  ⟨cell_of_row w L 0 _ _ _ hh, cell_of_row w L 1 _ _ _ hh, cell_of_row w L 2 _ _ _ hh, cell_of_row w L 3 _ _ _ hh, cell_of_row w L 4 _ _ _ hh, cell_of_row w L 5 _ _ _ hh, cell_of_row w L 6 _ _ _ hh, cell_of_row w L 7 _ _ _ hh, cell_of_row w L 8 _ _ _ hh⟩
theorem log_frozen {w : World} {L : Nat} {c : Array Value} {t : TypeId} (hh : w.heap[L]? = some (.cells c t (0, 0))) : w.frozen? ⟨L, 3, none⟩ = false ∧ w.frozen? ⟨L, 4, none⟩ = false ∧ w.frozen? ⟨L, 5, none⟩ = false ∧ w.frozen? ⟨L, 6, none⟩ = false ∧ w.frozen? ⟨L, 7, none⟩ = false ∧ w.frozen? ⟨L, 8, none⟩ = false :=
  ⟨frozen_of_row w L 3 _ _ hh, frozen_of_row w L 4 _ _ hh, frozen_of_row w L 5 _ _ hh, frozen_of_row w L 6 _ _ hh, frozen_of_row w L 7 _ _ hh, frozen_of_row w L 8 _ _ hh⟩

/-- What a call on a Log from 'base' on leaves as it was. -/
structure Kl (base : Nat) (w w' : World) : Prop where
  below : Below base w w'
  keep : ∀ (k : Nat) (c : Array Value) (t : TypeId) (f : Nat × Nat), w.heap[k]? = some (Obj.cells c t f) → ¬ logT t → w'.heap[k]? = w.heap[k]?
  others : ∀ (k : Nat) (o : Obj), w.heap[k]? = some o → (∀ c t f, o ≠ .cells c t f) → w'.heap[k]? = some o
theorem Kl.refl (base : Nat) (w : World) : Kl base w w := ⟨Below.refl _ _, fun _ _ _ _ _ _ => rfl, fun _ _ h _ => h⟩
theorem Kl.trans {base : Nat} {a b c : World} (h : Kl base a b) (k : Kl base b c) : Kl base a c :=
  ⟨h.below.trans k.below, fun i x t f hx ht => by
    have e := h.keep i x t f hx ht
    exact (k.keep i x t f (e.trans hx) ht).trans e, fun i o hi ho => k.others i o (h.others i o hi ho) ho⟩
theorem Kl.mono {b1 b2 : Nat} {w w' : World} (h : Kl b1 w w') (hb : b2 ≤ b1) : Kl b2 w w' := ⟨h.below.mono hb, h.keep, h.others⟩
theorem Kl.fresh {base : Nat} {w w' : World} (h : Below w.heap.size w w') (hb : base ≤ w.heap.size) : Kl base w w' :=
  ⟨h.mono hb, fun k _ _ _ hk _ => h.block k (lt_of_heap hk), fun k _ hk _ => (h.block k (lt_of_heap hk)).trans hk⟩
theorem Kl.of_kd {base : Nat} {w w' : World} (h : Kd base w w') : Kl base w w' :=
  ⟨h.below, fun k c t f hk ht => h.keep k c t f hk (fun e => ht (.inl (.inl e))) (fun e => ht (.inl (.inr (.inl e)))) (fun e => ht (.inl (.inr (.inr e)))), h.others⟩
theorem Kl.size {base : Nat} {w w' : World} (h : Kl base w w') : w.heap.size ≤ w'.heap.size := h.below.size
/-- A step that turns one row of a Log's. -/
theorem Kl.row {base : Nat} {w w' : World} {r : Option Nat} (hg : w.grownBy w' r) (hs : base ≤ w.heap.size) (hr : ∀ k, r = some k → base ≤ k ∧ ∃ c t f, w.heap[k]? = some (.cells c t f) ∧ logT t) : Kl base w w' := by
  refine ⟨(Below.refl base w).grown hg hs (fun k e => (hr k e).1), fun k c t f hk ht => hg.block k (lt_of_heap hk) (fun e => ?_), fun k o hk ho => (hg.block k (lt_of_heap hk) (fun e => ?_)).trans hk⟩
  · obtain ⟨_, c', t', f', h', ht'⟩ := hr k e.symm
    rw [hk] at h'
    injection h' with e'
    injection e' with _ e' _
    exact ht (e' ▸ ht')
  · obtain ⟨_, c', t', f', h', _⟩ := hr k e.symm
    rw [hk] at h'
    injection h' with e'
    exact ho _ _ _ e'

theorem nd_log : ¬ diskT 80 := by unfold diskT; decide
/-- A call on the disk leaves the Log's own memory alone. -/
theorem LogIs.kd {w w' : World} {base b2 L B n at' sc : Nat} {d d' : Dk} {g : Lg} (h : LogIs w base L B n at' sc d g) (hd : DiskIs w' base B n d') (hk : Kd b2 w w') : LogIs w' base L B n at' sc d' g := by
  obtain ⟨_, hL, hs, hn, hby, rv, tv, hh, ht, hr⟩ := h
  refine ⟨hd, hL, hs, hn, hby, rv, tv, hk.keep' hh nd_log, own_same ht fun k e => ?_, hr.all fun k c t hc h2 => ?_⟩
  · obtain ⟨c, hc⟩ := own_heap ht e
    exact hk.keep k _ _ _ hc (by decide) (by decide) (by decide)
  · rcases h2 with rfl | rfl
    · exact hk.keep k _ _ _ hc (by decide) (by decide) (by decide)
    · exact hk.keep k _ _ _ hc (by decide) (by decide) (by decide)
/-- A store into the Log's struct that leaves its two slices. -/
theorem LogIs.store {w : World} {base L B n at' sc : Nat} {d : Dk} {g g' : Lg} (h : LogIs w base L B n at' sc d g) (i : Nat) (u : Value) (hr : g'.recs = g.recs) (ht : g'.tail = g.tail)
    (hc : ∀ rv tv, (#[.pointer (some ⟨B, 0, none⟩), .int .i64 at', .int .i64 sc, .int .u64 g.first, rv, .int .u64 g.start, .int .u64 g.stop, .int .u64 g.flushed, tv] : Array Value).setIfInBounds i u = #[.pointer (some ⟨B, 0, none⟩), .int .i64 at', .int .i64 sc, .int .u64 g'.first, rv, .int .u64 g'.start, .int .u64 g'.stop, .int .u64 g'.flushed, tv])
    (hn' : g'.first + g'.recs.length ≤ 5000000000000000000 ∧ g'.start ≤ 5000000000000000000 ∧ g'.stop ≤ 5000000000000000000 ∧ g'.flushed ≤ 5000000000000000000) :
    LogIs (w.setCell ⟨L, i, none⟩ u) base L B n at' sc d g' ∧ Kl base w (w.setCell ⟨L, i, none⟩ u) := by
  obtain ⟨hd, hL, hs, hn, hby, rv, tv, hh, ht', hr'⟩ := h
  have hg := grown_setCell w L i u
  have far : ∀ k c t f, w.heap[k]? = some (Obj.cells c t f) → t ≠ 80 → (w.setCell ⟨L, i, none⟩ u).heap[k]? = w.heap[k]? := fun k c t f hk hne => hg.block k (lt_of_heap hk) (fun e => by
    injection e with e
    subst e
    rw [hh] at hk
    injection hk with e
    injection e with _ e _
    exact hne e.symm)
  refine ⟨⟨hd.same fun k c t f hk hd' => far k c t f hk (fun e => nd_log (e ▸ hd')), hL, hs, ⟨hn'.1, hn'.2.1, hn'.2.2.1, hn'.2.2.2, by rw [hr]; exact hn.2.2.2.2.1, by rw [ht]; exact hn.2.2.2.2.2⟩, by rw [ht]; exact hby, rv, tv, ?_, ?_, ?_⟩, Kl.row hg (by have := lt_of_heap hh; omega) (fun k e => by
    injection e with e
    subst e
    exact ⟨hL, _, _, _, hh, .inr (.inl rfl)⟩)⟩
  · rw [heap_setCell_same w L i _ _ _ hh, ← hc rv tv]
  · rw [ht]
    refine own_same ht' fun k e => ?_
    obtain ⟨c, hc'⟩ := own_heap ht' e
    exact far k _ _ _ hc' (by decide)
  · rw [hr]
    refine hr'.all fun k c t hc' h2 => far k _ _ _ hc' ?_
    rcases h2 with rfl | rfl <;> decide

theorem wrap_u64 {k : Nat} (h : k ≤ 18446744073709551615) : IntKind.u64.wrap (k : Int) = k := PlainAid.u64_nonneg (by omega) (by omega)

theorem lengthOf_any (ao : Option Addr) (n cap : Nat) (w : World) (hn : n ≤ 140737488355328) :
    Calls Tryz.prog 39 #[.slice ao n cap] w fun e w' => e = .returned (.int .u64 ((n + 16 : Nat) : Int)) ∧ w' = w := by
  go_enter Tryz.func39, Tryz.ntmps39
  go_wp2
  go_ret
  exact ⟨by go_num, rfl⟩
theorem lring_any {w : World} {base L B n at' sc : Nat} {d : Dk} {g : Lg} (h : LogIs w base L B n at' sc d g) :
    Calls Tryz.prog 74 #[.pointer (some ⟨L, 0, none⟩)] w fun e w' => e = .returned (.int .i64 ((sc - 1 : Nat) : Int)) ∧ w' = w := by
  obtain ⟨ra, rc, ta, tc, hh, _⟩ := h.form
  have hb := h.2.2.1
  obtain ⟨c0, c1, c2, c3, c4, c5, c6, c7, c8⟩ := log_cells hh
  clear h hh
  go_enter Tryz.func74, Tryz.ntmps74
  go_wp2
  go_ret
  exact ⟨by go_num, rfl⟩
theorem lsize_any {w : World} {base L B n at' sc : Nat} {d : Dk} {g : Lg} (h : LogIs w base L B n at' sc d g) :
    Calls Tryz.prog 50 #[.pointer (some ⟨L, 0, none⟩)] w fun e w' => e = .returned (.int .i64 ((48 * (sc - 8) : Nat) : Int)) ∧ w' = w := by
  obtain ⟨ra, rc, ta, tc, hh, _⟩ := h.form
  have hb := h.2.2.1
  obtain ⟨c0, c1, c2, c3, c4, c5, c6, c7, c8⟩ := log_cells hh
  clear h hh
  go_enter Tryz.func50, Tryz.ntmps50
  go_wp2
  go_ret
  exact ⟨by go_num, rfl⟩











theorem lflushed_any {w : World} {base L B n at' sc : Nat} {d : Dk} {g : Lg} (h : LogIs w base L B n at' sc d g) :
    Calls Tryz.prog 61 #[.pointer (some ⟨L, 0, none⟩)] w fun e w' => e = .returned (.int .u64 g.flushed) ∧ w' = w := by
  obtain ⟨ra, rc, ta, tc, hh, _⟩ := h.form
  obtain ⟨c0, c1, c2, c3, c4, c5, c6, c7, c8⟩ := log_cells hh
  clear h hh
  go_enter Tryz.func61, Tryz.ntmps61
  go_wp2
  go_ret
  exact ⟨rfl, rfl⟩
theorem lnext_any {w : World} {base L B n at' sc : Nat} {d : Dk} {g : Lg} (h : LogIs w base L B n at' sc d g) :
    Calls Tryz.prog 15 #[.pointer (some ⟨L, 0, none⟩)] w fun e w' => e = .returned (.int .u64 ((g.first + g.recs.length : Nat) : Int)) ∧ ∃ q, w' = w.drewN q := by
  obtain ⟨ra, rc, ta, tc, hh, _⟩ := h.form
  have hb := h.2.2.2.1
  obtain ⟨c0, c1, c2, c3, c4, c5, c6, c7, c8⟩ := log_cells hh
  clear h hh
  go_enter Tryz.func15, Tryz.ntmps15
  go_wp2
  go_quiet (fail)
  go_wp2
  go_ret
  exact ⟨by go_num, _, rfl⟩
theorem lroom_any {w : World} {base L B n at' sc : Nat} {d : Dk} {g : Lg} (h : LogIs w base L B n at' sc d g) (ho : g.start ≤ g.stop) (hsz : g.stop - g.start ≤ 48 * (sc - 8)) :
    Calls Tryz.prog 36 #[.pointer (some ⟨L, 0, none⟩)] w fun e w' => e = .returned (.int .i64 ((48 * (sc - 8) - (g.stop - g.start) : Nat) : Int)) ∧ ∃ q, w' = w.drewN q := by
  obtain ⟨ra, rc, ta, tc, hh, _⟩ := h.form
  have hb := h.2.2.2.1
  have hb2 := h.2.2.1
  have HS := hid (fun q => lsize_any (h.below (below_drewN (Below.refl _ w) q)))
  obtain ⟨c0, c1, c2, c3, c4, c5, c6, c7, c8⟩ := log_cells hh
  clear h hh
  go_enter Tryz.func36, Tryz.ntmps36
  go_wp2
  go_quiet (first | (go_at_call 50; refine Calls.quiet_of_same (HS.out _)))
  go_wp2
  go_ret
  exact ⟨by go_num, _, rfl⟩
theorem lplace_any {w : World} {base L B n at' sc : Nat} {d : Dk} {g : Lg} (h : LogIs w base L B n at' sc d g) (no : Nat) (hno : no ≤ 18446744073709551615) :
    Calls Tryz.prog 75 #[.pointer (some ⟨L, 0, none⟩), .int .u64 no] w fun e w' => e = .returned (.int .i64 ((at' + 1 + no % (sc - 1) : Nat) : Int)) ∧ ∃ q, w' = w.drewN q := by
  obtain ⟨ra, rc, ta, tc, hh, _⟩ := h.form
  have hb := h.2.2.2.1
  have hb2 := h.2.2.1
  have hb3 := h.1.2.1
  have HS := hid (fun q => lring_any (h.below (below_drewN (Below.refl _ w) q)))
  obtain ⟨c0, c1, c2, c3, c4, c5, c6, c7, c8⟩ := log_cells hh
  clear h hh
  have hlt : no % (sc - 1) < sc - 1 := Nat.mod_lt _ (by omega)
  have HM : Hid ((no : Int) % ((sc - 1 : Nat) : Int) = ((no % (sc - 1) : Nat) : Int)) := by rw [Hid]; simp
  generalize no % (sc - 1) = r at HM hlt ⊢
  go_enter Tryz.func75, Tryz.ntmps75
  go_wp2
  go_quiet (first | (go_at_call 74; refine Calls.quiet_of_same (HS.out _)))
  go_wp2
  go_ret
  rw [HM.out]
  rw [IntWalk.wrap64_in (r : Int) (by omega), IntWalk.wrap64_in _ (by omega)]
  exact ⟨by congr 1, _, rfl⟩
end Go.Proofs.YtkbnjniglngjgaaGreatDoor

namespace Go.Proofs.YtkbnjniglngjgaaGreatDoor
open Go.RowKit

/-- A frame's cells: is it held, was it asked for, the page as it is, the page as the File has it. -/
structure Fr where
  held : Bool
  asked : Bool
  no : Int
  lsn : Int
  s : Value
  no2 : Int
  lsn2 : Int
  s2 : Value
def Fr.cells (f : Fr) : List Value := [.bool f.held, .bool f.asked, .int .i64 f.no, .int .u64 f.lsn, f.s, .int .i64 f.no2, .int .u64 f.lsn2, f.s2]
def Fr.none : Fr := ⟨false, false, 0, 0, .slice Option.none 0 0, 0, 0, .slice Option.none 0 0⟩
def restC : Nat → List Value
  | 0 => []
  | k + 1 => Fr.none.cells ++ restC k
theorem restC_len : ∀ k, (restC k).length = 8 * k
  | 0 => rfl
  | k + 1 => by
    unfold restC
    rw [List.length_append, restC_len k]
    show 8 + 8 * k = _
    omega
theorem restC_at : ∀ {k i : Nat}, i < k → (restC k)[i * 8]? = some (.bool false)
  | 0, _, h => by omega
  | k + 1, 0, _ => rfl
  | k + 1, i + 1, h => by
    unfold restC
    rw [show (i + 1) * 8 = 8 + i * 8 by omega, List.getElem?_append_right (by show 8 ≤ 8 + i * 8; omega)]
    show (restC k)[8 + i * 8 - 8]? = _
    rw [show 8 + i * 8 - 8 = i * 8 by omega]
    exact restC_at (by omega)
/-- A Pool of k + 1 frames. -/
structure PlI (W : World) (P F L g k : Nat) (f : Fr) : Prop where
  pool : W.heap[P]? = some (.cells #[.pointer (some ⟨F, 0, none⟩), .pointer (some ⟨L, 0, none⟩), .slice (some ⟨g, 0, none⟩) (k + 1) (k + 1), .int .i64 0] 55 (0, 0))
  row : W.heap[g]? = some (.cells (f.cells ++ restC k).toArray 62 (0, 0))
  kk : k ≤ 63
theorem PlI.ne {W : World} {P F L g k : Nat} {f : Fr} (h : PlI W P F L g k f) : P ≠ g := fun e => by
  have h1 := h.pool
  rw [e, h.row] at h1
  injection h1 with h1
  injection h1 with _ h1 _
  revert h1
  decide
theorem PlI.below {W W' : World} {P F L g k : Nat} {f : Fr} (h : PlI W P F L g k f) (hb : Below W.heap.size W W') : PlI W' P F L g k f :=
  ⟨(hb.block _ (lt_of_heap h.pool)).trans h.pool, (hb.block _ (lt_of_heap h.row)).trans h.row, h.kk⟩
theorem PlI.cP {W : World} {P F L g k : Nat} {f : Fr} (h : PlI W P F L g k f) : W.cell? ⟨P, 0, none⟩ = some (.pointer (some ⟨F, 0, none⟩)) ∧ W.cell? ⟨P, 1, none⟩ = some (.pointer (some ⟨L, 0, none⟩)) ∧ W.cell? ⟨P, 2, none⟩ = some (.slice (some ⟨g, 0, none⟩) (k + 1) (k + 1)) := by
  have hp := h.pool
  refine ⟨?_, ?_, ?_⟩ <;> simp [World.cell?, hp]
theorem PlI.at {W : World} {P F L g k : Nat} {f : Fr} (h : PlI W P F L g k f) (j : Nat) (v : Value) (hv : f.cells[j]? = some v) : W.cell? ⟨g, j, none⟩ = some v := by
  have hr := h.row
  have hj : j < f.cells.length := (List.getElem?_eq_some_iff.1 hv).1
  simp only [World.cell?, hr]
  rw [List.getElem?_toArray, List.getElem?_append_left hj]
  exact hv
theorem PlI.rest {W : World} {P F L g k : Nat} {f : Fr} (h : PlI W P F L g k f) {i : Nat} (hi : 1 ≤ i) (hk : i < k + 1) : W.cell? ⟨g, i * 8, none⟩ = some (.bool false) := by
  have hr := h.row
  have hl : f.cells.length = 8 := rfl
  simp only [World.cell?, hr]
  rw [List.getElem?_toArray, List.getElem?_append_right (by rw [hl]; omega), hl, show i * 8 - 8 = (i - 1) * 8 by omega]
  exact restC_at (by omega)
theorem PlI.frz {W : World} {P F L g k : Nat} {f : Fr} (h : PlI W P F L g k f) (j : Nat) : W.frozen? ⟨g, j, none⟩ = false := by
  have hr := h.row
  simp [World.frozen?, hr]
/-- What a call on a Pool that writes no disk leaves as it was: all but the frames. -/
structure Kx (g : Nat) (w w' : World) : Prop where
  size : w.heap.size ≤ w'.heap.size
  keep : ∀ k, k < w.heap.size → k ≠ g → w'.heap[k]? = w.heap[k]?
  st : w'.os = w.os ∧ w'.tape = w.tape ∧ w'.output = w.output
theorem Kx.refl (g : Nat) (w : World) : Kx g w w := ⟨Nat.le_refl _, fun _ _ _ => rfl, rfl, rfl, rfl⟩
theorem Kx.trans {g : Nat} {a b c : World} (h : Kx g a b) (k : Kx g b c) : Kx g a c := ⟨Nat.le_trans h.size k.size, fun i hi hg => (k.keep i (Nat.lt_of_lt_of_le hi h.size) hg).trans (h.keep i hi hg), k.st.1.trans h.st.1, k.st.2.1.trans h.st.2.1, k.st.2.2.trans h.st.2.2⟩
theorem Kx.fresh {g : Nat} {w w' : World} (h : Below w.heap.size w w') : Kx g w w' := ⟨h.size, fun k hk _ => h.block k hk, h.os, h.tape, h.output⟩
theorem Kx.below {g base : Nat} {w w' : World} (h : Kx g w w') (hg : base ≤ g) (hb : base ≤ w.heap.size) : Below base w w' := ⟨h.st.1, h.st.2.1, h.st.2.2, h.size, fun k hk => h.keep k (by omega) (by omega)⟩
/-- One more step on blocks from N on. -/
theorem Kx.step {g B : Nat} {w a b : World} (h : Kx g w a) (k : Below B a b) (hk : ∀ i, i < w.heap.size → i ≠ g → b.heap[i]? = a.heap[i]?) : Kx g w b := ⟨Nat.le_trans h.size k.size, fun i hi hg => (hk i hi hg).trans (h.keep i hi hg), k.os.trans h.st.1, k.tape.trans h.st.2.1, k.output.trans h.st.2.2⟩
end Go.Proofs.YtkbnjniglngjgaaGreatDoor
