/-
  A region that draws its order, whose last operations (stores) wait for all others and for one another: the first ones in whatever order, only reading and calling, in a class of worlds; then the last ones as they stand.
-/
import Derived.StillTail
import Derived.Lib.QuietBelow
import Derived.Test.YtkdnkmheidbfdaaGreatRows
import Derived.WalkKit
import Derived.ProofKit
import Derived.BigQuiet
import Derived.Outline
import Derived.PlainAid
import Derived.WalkMore
import Derived.Deep.RegionHeld
namespace Go.Proofs.YtkdnkmheidbfdaaGreat
open Go.RowKit

/-- T at the normal end, else Q. -/
def Hd (T : Act → World → Prop) (Q : Exit → Act → World → Prop) : Exit → Act → World → Prop
  | .normal, a, w => T a w
  | .exit l, a, w => Q (.exit l) a w
  | .goto l, a, w => Q (.goto l) a w
  | .ret, a, w => Q .ret a w
  | .panic c, a, w => Q (.panic c) a w
  | .outgrown, a, w => Q .outgrown a w

theorem upon_hd {P : Program} {o : Oper} {a : Act} {K : Act → World → Prop} {T : Act → World → Prop} {Q : Exit → Act → World → Prop} : ∀ {r : Result Next}, Oper.upon P o a K (Hd T Q) r → Oper.upon P o a K Q r
  | .ok n w', h => by
    cases n <;> first
      | exact h
      | exact Calls.mono h fun e w'' he => by cases e <;> exact he
  | .halt x w', h => by cases x <;> exact h

/-- The first n operations wait for earlier ones alone, and their guards are among them. -/
def headB (md : Region.Mode) (L : List Oper) (n : Nat) : Bool :=
  (List.range n).all fun i => match L[i]? with
    | some o => o.after.all (fun e => !Region.binds md e || decide (e.on < i)) && (match o.guard with | some (g, _) => decide (g < n) | none => true)
    | none => false

section
variable {P : Program} {md : Region.Mode} {L : List Oper} {n g : Nat} {T : Act → World → Prop} {Q : Exit → Act → World → Prop}

theorem headB_at (h : headB md L n = true) {i : Nat} (hi : i < n) : ∃ o, L[i]? = some o ∧ (∀ e ∈ o.after, Region.binds md e = true → e.on < i) ∧ (∀ k b, o.guard = some (k, b) → k < n) := by
  have h1 := List.all_eq_true.1 h i (List.mem_range.2 hi)
  cases ho : L[i]? with
  | none => rw [ho] at h1; cases h1
  | some o =>
    rw [ho] at h1
    simp only [Bool.and_eq_true] at h1
    refine ⟨o, rfl, fun e he hb => ?_, fun k b hk => ?_⟩
    · have h2 := (Array.all_eq_true_iff_forall_mem.1 h1.1) e he
      simpa [hb] using h2
    · have h2 := h1.2
      rw [hk] at h2
      simpa using h2

theorem take_at {i : Nat} (hi : i < n) : (L.take n).toArray[i]? = L.toArray[i]? := by
  simp [hi]

theorem wpOp_hd (hh : headB md L n = true) {i : Nat} (hi : i < n) {K K' : Act → World → Prop} (hK : ∀ a w, K a w → K' a w) {a : Act} {w : World} (h : wpOp P (L.take n).toArray (Hd T Q) i K a w) : wpOp P L.toArray Q i K' a w := by
  obtain ⟨o, ho, _, hg⟩ := headB_at hh hi
  have ho' : L.toArray[i]? = some o := by simpa using ho
  unfold wpOp at h ⊢
  rw [take_at hi, ho'] at h
  rw [ho']
  have hw : Region.wanted o (yielded (L.take n).toArray a.tmps) = Region.wanted o (yielded L.toArray a.tmps) := by
    unfold Region.wanted
    cases hgd : o.guard with
    | none => rfl
    | some p =>
      obtain ⟨k, b⟩ := p
      have : yielded (L.take n).toArray a.tmps k = yielded L.toArray a.tmps k := by
        unfold yielded
        rw [take_at (hg k b hgd)]
      simp only [this]
  simp only [hw] at h ⊢
  split
  · rename_i h1
    rw [if_pos h1] at h
    rcases h with h | ⟨h2, x, y, h3⟩
    · exact .inl (Oper.wp_mono hK (show o.wp P a w K Q from upon_hd h))
    · exact .inr ⟨h2, x, y, h3⟩
  · rename_i h1
    rw [if_neg h1] at h
    exact hK _ _ h

theorem wpAny_more {ops : Array Oper} : ∀ (f : Nat) (listed : Array Bool) (a : Act) (w : World), wpAny P md ops Q f listed a w → wpAny P md ops Q (f + 1) listed a w
  | 0, _, _, _, h => ⟨fun _ => h.2, fun i hi => by rw [h.1] at hi; cases hi⟩
  | f + 1, _, _, _, h => ⟨h.1, fun i hi => wpOp_mono (fun a' w' h' => wpAny_more f _ a' w' h') (h.2 i hi)⟩
theorem wpAny_fuel {ops : Array Oper} {g : Nat} {listed : Array Bool} {a : Act} {w : World} (h : wpAny P md ops Q g listed a w) : ∀ f, wpAny P md ops Q (f + g) listed a w
  | 0 => by rw [Nat.zero_add]; exact h
  | f + 1 => by rw [show f + 1 + g = (f + g) + 1 by omega]; exact wpAny_more _ _ _ _ (wpAny_fuel h f)

theorem least_open {listed : Array Bool} {n : Nat} (h : ¬ ∀ i, i < n → listed.getD i true = true) : ∃ i, i < n ∧ listed.getD i true = false ∧ ∀ j, j < i → listed.getD j true = true := by
  induction n with
  | zero => exact absurd (fun i hi => by omega) h
  | succ n ih =>
    by_cases h1 : ∀ i, i < n → listed.getD i true = true
    · refine ⟨n, by omega, ?_, h1⟩
      cases h2 : listed.getD n true with
      | false => rfl
      | true => exact absurd (fun i hi => (Nat.lt_succ_iff_lt_or_eq.1 hi).elim (h1 i) (fun e => e ▸ h2)) h
    · obtain ⟨i, hi, h2, h3⟩ := ih h1
      exact ⟨i, by omega, h2, h3⟩
theorem getD_some {A : Array Bool} {i : Nat} (hi : i < A.size) : A.getD i true = A.getD i false := by simp [hi]

/-- Where all the first ones have come up. -/
def doneL (n m : Nat) : Array Bool := Array.replicate n true ++ Array.replicate m false

theorem done_is {listed : Array Bool} (hn : n < L.length) (inv : HeadInv md L.toArray n listed) (hall : ∀ i, i < n → listed.getD i true = true) : listed = doneL n (L.length - n) := by
  have hls : listed.size = L.length := by rw [inv.size]; simp
  refine Array.ext (by simp [doneL, hls]; omega) fun i hi hi' => ?_
  rcases Nat.lt_or_ge i n with h1 | h1
  · have := hall i h1
    simp [hi] at this
    simp [doneL, h1, this]
  · have := inv.tail i h1 (by simp; omega)
    simp [hi] at this
    simp [doneL, Array.getElem_append, Nat.not_lt.2 h1, this]

theorem wpAny_hd (hh : headB md L n = true) (hs : Region.sinkB md L.toArray n = true) (hc : Region.chainB md L.toArray n = true) (hn : n < L.length)
    (hT : ∀ a w, T a w → wpAny P md L.toArray Q g (doneL n (L.length - n)) a w) :
    ∀ (f : Nat) (listed lH : Array Bool) (a : Act) (w : World), HeadInv md L.toArray n listed → lH.size = n → (∀ i d, i < n → lH.getD i d = listed.getD i d) →
      wpAny P md (L.take n).toArray (Hd T Q) f lH a w → wpAny P md L.toArray Q (f + g) listed a w := by
  intro f
  induction f with
  | zero =>
    intro listed lH a w inv hsz hag h
    have hall : ∀ i, i < n → listed.getD i true = true := by
      refine Classical.byContradiction fun hx => ?_
      obtain ⟨i, hi, h1, h2⟩ := least_open hx
      obtain ⟨o, ho, ha, _⟩ := headB_at hh hi
      have : i ∈ Region.ready md (L.take n).toArray lH := by
        refine mem_ready.2 ⟨by rw [hag i true hi]; exact h1, o, by rw [take_at hi]; simpa using ho, fun e he hb => ?_⟩
        have hlt := ha e he hb
        rw [hag e.on false (by omega), ← getD_some (by rw [inv.size]; simp; omega)]
        exact h2 _ hlt
      rw [h.1] at this
      cases this
    have hd := done_is hn inv hall
    subst hd
    rw [Nat.zero_add]
    exact hT _ _ h.2
  | succ f ih =>
    intro listed lH a w inv hsz hag h
    by_cases hall : ∀ i, i < n → listed.getD i true = true
    · have hr : Region.ready md (L.take n).toArray lH = [] := by
        refine List.eq_nil_iff_forall_not_mem.2 fun i hi => ?_
        obtain ⟨h0, o, ho, _⟩ := mem_ready.1 hi
        have hin : i < n := by
          have := (Array.getElem?_eq_some_iff.1 ho).1
          simp at this; omega
        rw [hag i true hin, hall i hin] at h0
        cases h0
      have hd := done_is hn inv hall
      subst hd
      exact wpAny_fuel (hT _ _ (h.1 hr)) (f + 1)
    · obtain ⟨i, hi, h1, h2⟩ := least_open hall
      obtain ⟨o, ho, ha, _⟩ := headB_at hh hi
      have hri : i ∈ Region.ready md L.toArray listed := by
        refine mem_ready.2 ⟨h1, o, by simpa using ho, fun e he hb => ?_⟩
        have hlt := ha e he hb
        rw [← getD_some (by rw [inv.size]; simp; omega)]
        exact h2 _ hlt
      rw [show f + 1 + g = (f + g) + 1 by omega]
      refine ⟨fun hr => absurd hri (by rw [hr]; simp), fun j hj => ?_⟩
      have hjn : j < n := by
        rcases Nat.lt_or_ge j n with hx | hx
        · exact hx
        · exact absurd hj (tail_waits hs hc (by simpa using hn) inv _ i rfl hi h1 j hx)
      obtain ⟨h0, oj, hoj, hej⟩ := mem_ready.1 hj
      obtain ⟨oj', hoj', haj, _⟩ := headB_at hh hjn
      have heo : oj' = oj := by
        rw [show L.toArray[j]? = L[j]? by simp, hoj'] at hoj
        exact Option.some.inj hoj
      subst heo
      have hjH : j ∈ Region.ready md (L.take n).toArray lH := by
        refine mem_ready.2 ⟨by rw [hag j true hjn]; exact h0, oj', by rw [take_at hjn]; exact hoj, fun e he hb => ?_⟩
        have hlt := haj e he hb
        rw [hag e.on false (by omega)]
        exact hej e he hb
      refine wpOp_hd hh hjn (fun a' w' h' => ih _ _ a' w' (inv.set hj hjn) (by simp [hsz]) (fun k d hk => ?_) h') (h.2 j hjH)
      by_cases hjk : j = k
      · subst hjk
        have e1 : j < listed.size := by rw [inv.size]; simp; omega
        simp [hsz, hjn, e1]
      · rw [getD_set_ne d hjk, getD_set_ne d hjk]
        exact hag k d hk
end

/-- All that is asked of the region's shape: reckoned by the kernel. -/
def tailB (L : List Oper) (n : Nat) : Bool :=
  headB .any L n && Region.sinkB .any L.toArray n && Region.chainB .any L.toArray n && decide (n < L.length) && Region.lexB .any (L.take n).toArray && Region.seqB .any L.toArray (L.drop n).length n (doneL n (L.length - n))

theorem wp_region_tail {P : Program} {id : Nat} {Q : Exit → Act → World → Prop} {C : World → Prop} {a : Act} {w : World} {L : List Oper} (n : Nat) (hm : P.follows .mixedOrders = true) (hB : tailB L n = true) (hC : C w.drew)
    (h : wpQuiet P (L.take n).toArray C (fun a' => ∀ w', C w' → wpList P L.toArray Q (L.drop n) a' w') (L.take n) a) : (Code.region id L.toArray true).wp P Q a w := by
  simp only [tailB, Bool.and_eq_true, decide_eq_true_eq] at hB
  obtain ⟨⟨⟨⟨⟨h1, h2⟩, h3⟩, h4⟩, h5⟩, h6⟩ := hB
  simp only [Region.lexB, Bool.and_eq_true] at h5
  have hq := wpAnyQ_lex (C := C) (P := P) (md := .any) h5.1 (L.take n) 0 (Array.replicate (L.take n).toArray.size false) a (by simp) (by simpa using h5.2) h
  have hl : (L.take n).length = n := by simp; omega
  refine wp_region_any hm ?_
  have hsz : L.toArray.size = n + (L.drop n).length := by simp; omega
  rw [hsz]
  refine wpAny_hd (g := (L.drop n).length) (T := fun a' w' => wpList P L.toArray Q (L.drop n) a' w') h1 h2 h3 h4 (fun a' w' ht => wpAny_of_seq (L.drop n) n _ a' w' (fun j => by simp [List.getElem?_drop]) h6 ht) n _ (Array.replicate (L.take n).toArray.size false) a _ ?_ (by simp; omega) (fun i d hi => ?_) ?_
  · refine ⟨by simp; omega, fun j oj hj hl' => ?_, fun t _ ht => ?_⟩
    · rw [getD_replicate_false] at hl'; cases hl'
    · have : t < n + (L.drop n).length := by rw [← hsz]; exact ht
      simp only [Array.getD_eq_getD_getElem?, Array.getElem?_replicate, this, if_true, Option.getD_some]
  · have h7 : i < n + (L.drop n).length := by omega
    have h8 : i < (L.take n).toArray.size := by simp; omega
    simp only [Array.getD_eq_getD_getElem?, Array.getElem?_replicate, h7, h8, if_true, Option.getD_some]
  · have := wpAny_of_quiet (P := P) (md := .any) (C := C) (Q := fun a' => ∀ w', C w' → wpList P L.toArray Q (L.drop n) a' w') (Q' := Hd (fun a' w' => wpList P L.toArray Q (L.drop n) a' w') Q) (fun a' w' hw' ht => ht w' hw') (L.take n).length _ a w.drew hC hq
    rw [hl] at this
    exact this
end Go.Proofs.YtkdnkmheidbfdaaGreat

namespace Go.Proofs.YtkdnkmheidbfdaaGreat
open Go.RowKit Go.Sort

theorem hid {p : Prop} (h : p) : Hid p := h
/-- The nearest number of the grid. -/
def near (x : Int) : Int := if x < -1048576 then -1048576 else if 1048576 < x then 1048576 else x
theorem near_lo (x : Int) : -1048576 ≤ near x := by unfold near; split <;> (try split) <;> omega
theorem near_hi (x : Int) : near x ≤ 1048576 := by unfold near; split <;> (try split) <;> omega
theorem near_in {x : Int} (h0 : -1048576 ≤ x) (h1 : x ≤ 1048576) : near x = x := by unfold near; rw [if_neg (by omega), if_neg (by omega)]
theorem near_near (x : Int) : near (near x) = near x := near_in (near_lo x) (near_hi x)
/-- A point as a value. -/
abbrev pv (x y : Int) : Value := .agg #[.int .i64 x, .int .i64 y]
/-- A point in a block of its own. -/
def Pt (w : World) (b : Nat) (x y : Int) : Prop := w.heap[b]? = some (.cells #[.int .i64 x, .int .i64 y] 23 (0, 0))
theorem lt_of_heap {w : World} {b : Nat} {o : Obj} (h : w.heap[b]? = some o) : b < w.heap.size := (Array.getElem?_eq_some_iff.1 h).1
theorem Pt.lt {w : World} {b : Nat} {x y : Int} (h : Pt w b x y) : b < w.heap.size := lt_of_heap h
theorem Pt.c0 {w : World} {b : Nat} {x y : Int} (h : Pt w b x y) : w.cell? ⟨b, 0, none⟩ = some (.int .i64 x) := by
  unfold Pt at h; simp [World.cell?, h]
theorem Pt.c1 {w : World} {b : Nat} {x y : Int} (h : Pt w b x y) : w.cell? ⟨b, 1, none⟩ = some (.int .i64 y) := by
  unfold Pt at h; simp [World.cell?, h]
theorem Pt.f0 {w : World} {b : Nat} {x y : Int} (h : Pt w b x y) : w.frozen? ⟨b, 0, none⟩ = false := by
  unfold Pt at h; simp [World.frozen?, h]
theorem Pt.f1 {w : World} {b : Nat} {x y : Int} (h : Pt w b x y) : w.frozen? ⟨b, 1, none⟩ = false := by
  unfold Pt at h; simp [World.frozen?, h]
theorem Pt.below {w w' : World} {b n : Nat} {x y : Int} (h : Pt w b x y) (hb : Below n w w') (hl : b < n) : Pt w' b x y := (hb.block b hl).trans h
theorem Pt.alloc {w : World} {b : Nat} {x y : Int} (h : Pt w b x y) (o : Obj) : Pt (w.alloc o) b x y := (Below.heap_alloc _ _ _ h.lt).trans h
theorem Pt.new (w : World) (x y : Int) : Pt (w.alloc (.cells #[.int .i64 x, .int .i64 y] 23)) w.heap.size x y := by
  unfold Pt World.alloc; simp
theorem below_set2 {w W : World} {n b : Nat} {u v : Value} (h : Below n w W) (hb : n ≤ b) : Below n w ((W.setCell ⟨b, 0, none⟩ u).setCell ⟨b, 1, none⟩ v) :=
  (h.setCell (p := ⟨b, 0, none⟩) hb _).setCell (p := ⟨b, 1, none⟩) hb _
/-- The sign of a number. -/
def sgn (t : Int) : Int := if t < 0 then -1 else if 0 < t then 1 else 0
/-- The worlds behind three and four boxes. -/
theorem box4 {w wA wB wC wD : World} {a0 a1 b0 b1 c0 c1 d0 d1 : Int} (hA : w.alloc (.cells #[.int .i64 a0, .int .i64 a1] 23) = wA) (hB : wA.alloc (.cells #[.int .i64 b0, .int .i64 b1] 23) = wB)
    (hC : wB.alloc (.cells #[.int .i64 c0, .int .i64 c1] 23) = wC) (hD : wC.alloc (.cells #[.int .i64 d0, .int .i64 d1] 23) = wD) :
    Pt wD w.heap.size a0 a1 ∧ Pt wD (w.heap.size + 1) b0 b1 ∧ Pt wD (w.heap.size + 2) c0 c1 ∧ Pt wD (w.heap.size + 3) d0 d1 ∧ Below w.heap.size w wD ∧ wD.heap.size = w.heap.size + 4 ∧ wA.heap.size = w.heap.size + 1 ∧ wB.heap.size = w.heap.size + 2 ∧ wC.heap.size = w.heap.size + 3 := by
  have hszA : wA.heap.size = w.heap.size + 1 := by rw [← hA]; simp
  have hszB : wB.heap.size = w.heap.size + 2 := by rw [← hB]; simp [hszA]
  have hszC : wC.heap.size = w.heap.size + 3 := by rw [← hC]; simp [hszB]
  have hszD : wD.heap.size = w.heap.size + 4 := by rw [← hD]; simp [hszC]
  refine ⟨?_, ?_, ?_, ?_, ?_, hszD, hszA, hszB, hszC⟩
  · rw [← hD, ← hC, ← hB, ← hA]; exact (((Pt.new w a0 a1).alloc _).alloc _).alloc _
  · rw [← hD, ← hC, ← hB, ← hszA]; exact ((Pt.new wA b0 b1).alloc _).alloc _
  · rw [← hD, ← hC, ← hszB]; exact (Pt.new wB c0 c1).alloc _
  · rw [← hD, ← hszC]; exact Pt.new wC d0 d1
  · rw [← hD, ← hC, ← hB, ← hA]; exact ((((Below.refl _ w).alloc (Nat.le_refl _) _).alloc (by simp) _).alloc (by simp; omega) _).alloc (by simp; omega) _
theorem box3 {w wA wB wC : World} {a0 a1 b0 b1 c0 c1 : Int} (hA : w.alloc (.cells #[.int .i64 a0, .int .i64 a1] 23) = wA) (hB : wA.alloc (.cells #[.int .i64 b0, .int .i64 b1] 23) = wB)
    (hC : wB.alloc (.cells #[.int .i64 c0, .int .i64 c1] 23) = wC) :
    Pt wC w.heap.size a0 a1 ∧ Pt wC (w.heap.size + 1) b0 b1 ∧ Pt wC (w.heap.size + 2) c0 c1 ∧ Below w.heap.size w wC ∧ wC.heap.size = w.heap.size + 3 ∧ wA.heap.size = w.heap.size + 1 ∧ wB.heap.size = w.heap.size + 2 := by
  have hszA : wA.heap.size = w.heap.size + 1 := by rw [← hA]; simp
  have hszB : wB.heap.size = w.heap.size + 2 := by rw [← hB]; simp [hszA]
  have hszC : wC.heap.size = w.heap.size + 3 := by rw [← hC]; simp [hszB]
  refine ⟨?_, ?_, ?_, ?_, hszC, hszA, hszB⟩
  · rw [← hC, ← hB, ← hA]; exact ((Pt.new w a0 a1).alloc _).alloc _
  · rw [← hC, ← hB, ← hszA]; exact (Pt.new wA b0 b1).alloc _
  · rw [← hC, ← hszB]; exact Pt.new wB c0 c1
  · rw [← hC, ← hB, ← hA]; exact (((Below.refl _ w).alloc (Nat.le_refl _) _).alloc (by simp) _).alloc (by simp; omega) _
theorem box2 {w wA wB : World} {a0 a1 b0 b1 : Int} (hA : w.alloc (.cells #[.int .i64 a0, .int .i64 a1] 23) = wA) (hB : wA.alloc (.cells #[.int .i64 b0, .int .i64 b1] 23) = wB) :
    Pt wB w.heap.size a0 a1 ∧ Pt wB (w.heap.size + 1) b0 b1 ∧ Below w.heap.size w wB ∧ wB.heap.size = w.heap.size + 2 ∧ wA.heap.size = w.heap.size + 1 := by
  have hszA : wA.heap.size = w.heap.size + 1 := by rw [← hA]; simp
  have hszB : wB.heap.size = w.heap.size + 2 := by rw [← hB]; simp [hszA]
  refine ⟨?_, ?_, ?_, hszB, hszA⟩
  · rw [← hB, ← hA]; exact (Pt.new w a0 a1).alloc _
  · rw [← hB, ← hszA]; exact Pt.new wA b0 b1
  · rw [← hB, ← hA]; exact ((Below.refl _ w).alloc (Nat.le_refl _) _).alloc (by simp) _
theorem box1 {w wA : World} {a0 a1 : Int} (hA : w.alloc (.cells #[.int .i64 a0, .int .i64 a1] 23) = wA) : Pt wA w.heap.size a0 a1 ∧ Below w.heap.size w wA ∧ wA.heap.size = w.heap.size + 1 := by
  refine ⟨?_, ?_, ?_⟩
  · rw [← hA]; exact Pt.new w a0 a1
  · rw [← hA]; exact (Below.refl _ w).alloc (Nat.le_refl _) _
  · rw [← hA]; simp
theorem Pt.set {w : World} {b : Nat} {x y : Int} (h : Pt w b x y) (x' y' : Int) : Pt ((w.setCell ⟨b, 0, none⟩ (.int .i64 x')).setCell ⟨b, 1, none⟩ (.int .i64 y')) b x' y' := by
  have h1 := heap_setCell_same w b 0 _ _ (.int .i64 x') h
  have h2 := heap_setCell_same _ b 1 _ _ (.int .i64 y') h1
  exact h2
theorem Pt.far {w : World} {b c : Nat} {x y : Int} (h : Pt w c x y) (hne : c ≠ b) (u v : Value) : Pt ((w.setCell ⟨b, 0, none⟩ u).setCell ⟨b, 1, none⟩ v) c x y := by
  unfold Pt
  rw [Below.heap_setCell _ _ _ _ (by exact hne), Below.heap_setCell _ _ _ _ (by exact hne)]
  exact h
/-- A slice of points. -/
def Pts (w : World) (v : Value) (ps : List (Int × Int)) : Prop :=
  ∃ a cap, v = .slice a ps.length cap ∧ (1 ≤ ps.length → ∃ b off, a = some ⟨b, off, none⟩ ∧ ∀ k p, ps[k]? = some p → w.cell? ⟨b, off + k * 2, none⟩ = some (.int .i64 p.1) ∧ w.cell? ⟨b, off + k * 2 + 1, none⟩ = some (.int .i64 p.2))
abbrev Pp : Type := Int × Int
theorem sgn_neg (t : Int) : sgn (-t) = -sgn t := by
  unfold sgn
  split <;> split <;> (try split) <;> omega
/-- A number of 64 bits. -/
def I64 (x : Int) : Prop := -9223372036854775808 ≤ x ∧ x ≤ 9223372036854775807
def P64 (p : Pp) : Prop := I64 p.1 ∧ I64 p.2
end Go.Proofs.YtkdnkmheidbfdaaGreat
