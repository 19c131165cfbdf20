/-
  Layer 15: borders put in order by their areas: plainly; two of a row exchanged.
-/
import Derived.Test.YtkdnkmheidbfdaaGreatMS
import Derived.Deep.RegionHeld3
namespace Go.Proofs.YtkdnkmheidbfdaaGreat
open Go.RowKit Go.Sort

/-- A border goes ahead of those of greater area; the row is told from behind. -/
def insR (x : Bd) : List Bd → List Bd
  | [] => [x]
  | y :: l => if x.ar < y.ar then y :: insR x l else x :: y :: l
def insB (S : List Bd) (x : Bd) : List Bd := (insR x S.reverse).reverse
def sortB (l : List Bd) : List Bd := l.foldl insB []
theorem insR_skip {x : Bd} : ∀ {D T : List Bd}, (∀ y ∈ D, x.ar < y.ar) → insR x (D ++ T) = D ++ insR x T
  | [], _, _ => rfl
  | y :: D, T, h => by
    rw [List.cons_append, insR, if_pos (h y List.mem_cons_self), insR_skip fun z hz => h z (List.mem_cons_of_mem _ hz), List.cons_append]
theorem insR_len (x : Bd) : ∀ l : List Bd, (insR x l).length = l.length + 1
  | [] => rfl
  | y :: l => by
    unfold insR
    split
    · rw [List.length_cons, insR_len x l, List.length_cons]
    · rfl
theorem insB_len (S : List Bd) (x : Bd) : (insB S x).length = S.length + 1 := by unfold insB; rw [List.length_reverse, insR_len, List.length_reverse]
theorem insB_at {A D : List Bd} {x : Bd} (hD : ∀ y ∈ D, x.ar < y.ar) (hA : ∀ y, A.getLast? = some y → ¬ x.ar < y.ar) : insB (A ++ D) x = A ++ x :: D := by
  unfold insB
  rw [List.reverse_append, insR_skip (fun y hy => hD y (List.mem_reverse.1 hy))]
  have e : insR x A.reverse = x :: A.reverse := by
    cases hr : A.reverse with
    | nil => rfl
    | cons y l =>
      have hy : A.getLast? = some y := by
        rw [List.getLast?_eq_head?_reverse, hr]
        rfl
      rw [insR, if_neg (hA y hy)]
  rw [e]
  simp
theorem sortB_snoc (l : List Bd) (x : Bd) : sortB (l ++ [x]) = insB (sortB l) x := by unfold sortB; rw [List.foldl_append]; rfl
theorem sortB_len : ∀ l : List Bd, (sortB l).length = l.length := by
  suffices h : ∀ n (l : List Bd), l.length = n → (sortB l).length = n from fun l => h _ l rfl
  intro n
  induction n with
  | zero =>
    intro l hl
    obtain rfl := List.eq_nil_of_length_eq_zero hl
    rfl
  | succ n ih =>
    intro l hl
    obtain ⟨l', x, rfl⟩ : ∃ l' x, l = l' ++ [x] := ⟨l.dropLast, l.getLast (by intro e; rw [e] at hl; cases hl), (List.dropLast_concat_getLast _).symm⟩
    have h' : l'.length = n := by simp at hl; exact hl
    rw [sortB_snoc, insB_len, ih l' h']
theorem insR_mem (x : Bd) : ∀ (l : List Bd) (y : Bd), y ∈ insR x l ↔ y = x ∨ y ∈ l
  | [], y => by simp [insR]
  | z :: l, y => by
    unfold insR
    split
    · rw [List.mem_cons, insR_mem x l y, List.mem_cons]
      constructor
      · rintro (h | h | h)
        · exact .inr (.inl h)
        · exact .inl h
        · exact .inr (.inr h)
      · rintro (h | h | h)
        · exact .inr (.inl h)
        · exact .inl h
        · exact .inr (.inr h)
    · rw [List.mem_cons]
theorem insB_mem (S : List Bd) (x y : Bd) : y ∈ insB S x ↔ y = x ∨ y ∈ S := by unfold insB; rw [List.mem_reverse, insR_mem, List.mem_reverse]
theorem sortB_mem (l : List Bd) (y : Bd) : y ∈ sortB l ↔ y ∈ l := by
  suffices h : ∀ (l S : List Bd), y ∈ l.foldl insB S ↔ y ∈ S ∨ y ∈ l by
    unfold sortB
    rw [h]
    simp
  intro l
  induction l with
  | nil => intro S; simp
  | cons x l ih =>
    intro S
    rw [List.foldl_cons, ih, insB_mem, List.mem_cons]
    constructor
    · rintro ((h | h) | h)
      · exact .inr (.inl h)
      · exact .inl h
      · exact .inr (.inr h)
    · rintro (h | h | h)
      · exact .inl (.inr h)
      · exact .inl (.inl h)
      · exact .inr h

/-- A border stored into a row. -/
def put9 (W : World) (g o : Nat) (x : Bd) : World := ((((((((W.setCell ⟨g, o, none⟩ (.slice x.wo x.wl x.wc)).setCell ⟨g, o + 1, none⟩ (.slice x.po x.pl x.pc)).setCell ⟨g, o + 2, none⟩ (.int .i64 x.lx)).setCell ⟨g, o + 3, none⟩ (.int .i64 x.ly)).setCell ⟨g, o + 4, none⟩ (.int .i64 x.hx)).setCell ⟨g, o + 5, none⟩ (.int .i64 x.hy)).setCell ⟨g, o + 6, none⟩ (.int .i64 x.ar)).setCell ⟨g, o + 7, none⟩ (.int .i64 x.pt)).setCell ⟨g, o + 8, none⟩ (.int .i64 x.nr)
def set9 (C : Array Value) (o : Nat) (x : Bd) : Array Value := ((((((((C.setIfInBounds o (.slice x.wo x.wl x.wc)).setIfInBounds (o + 1) (.slice x.po x.pl x.pc)).setIfInBounds (o + 2) (.int .i64 x.lx)).setIfInBounds (o + 3) (.int .i64 x.ly)).setIfInBounds (o + 4) (.int .i64 x.hx)).setIfInBounds (o + 5) (.int .i64 x.hy)).setIfInBounds (o + 6) (.int .i64 x.ar)).setIfInBounds (o + 7) (.int .i64 x.pt)).setIfInBounds (o + 8) (.int .i64 x.nr)
theorem put9_heap {W : World} {g : Nat} {C : Array Value} {t : TypeId} (h : W.heap[g]? = some (.cells C t (0, 0))) (o : Nat) (x : Bd) : (put9 W g o x).heap[g]? = some (.cells (set9 C o x) t (0, 0)) :=
  set1 (set1 (set1 (set1 (set1 (set1 (set1 (set1 (set1 h _) _) _) _) _) _) _) _) _
theorem put9_off {W : World} {g k : Nat} (o : Nat) (x : Bd) (hk : k ≠ g) : (put9 W g o x).heap[k]? = W.heap[k]? := by
  unfold put9
  rw [RowKit.Below.heap_setCell _ _ _ _ hk, RowKit.Below.heap_setCell _ _ _ _ hk, RowKit.Below.heap_setCell _ _ _ _ hk, RowKit.Below.heap_setCell _ _ _ _ hk, RowKit.Below.heap_setCell _ _ _ _ hk, RowKit.Below.heap_setCell _ _ _ _ hk, RowKit.Below.heap_setCell _ _ _ _ hk, RowKit.Below.heap_setCell _ _ _ _ hk, RowKit.Below.heap_setCell _ _ _ _ hk]
theorem put9_below {w W : World} {base g : Nat} (h : Below base w W) (hg : base ≤ g) (o : Nat) (x : Bd) : Below base w (put9 W g o x) :=
  ((((((((h.setCell (p := ⟨g, o, none⟩) hg _).setCell (p := ⟨g, o + 1, none⟩) hg _).setCell (p := ⟨g, o + 2, none⟩) hg _).setCell (p := ⟨g, o + 3, none⟩) hg _).setCell (p := ⟨g, o + 4, none⟩) hg _).setCell (p := ⟨g, o + 5, none⟩) hg _).setCell (p := ⟨g, o + 6, none⟩) hg _).setCell (p := ⟨g, o + 7, none⟩) hg _).setCell (p := ⟨g, o + 8, none⟩) hg _
theorem set9_size (C : Array Value) (o : Nat) (x : Bd) : (set9 C o x).size = C.size := by unfold set9; simp only [Array.size_setIfInBounds]
theorem set9_far (C : Array Value) (o : Nat) (x : Bd) {k : Nat} (hk : k < o ∨ o + 8 < k) : (set9 C o x)[k]? = C[k]? := by
  unfold set9
  rw [Array.getElem?_setIfInBounds_ne (by omega), Array.getElem?_setIfInBounds_ne (by omega), Array.getElem?_setIfInBounds_ne (by omega), Array.getElem?_setIfInBounds_ne (by omega), Array.getElem?_setIfInBounds_ne (by omega), Array.getElem?_setIfInBounds_ne (by omega), Array.getElem?_setIfInBounds_ne (by omega), Array.getElem?_setIfInBounds_ne (by omega), Array.getElem?_setIfInBounds_ne (by omega)]
theorem sin_ne {C : Array Value} {i j : Nat} {v u : Value} (h : i ≠ j) (hc : C[j]? = some u) : (C.setIfInBounds i v)[j]? = some u := by rw [Array.getElem?_setIfInBounds_ne h]; exact hc
theorem sin_eq {C : Array Value} {i : Nat} {v : Value} (h : i < C.size) : (C.setIfInBounds i v)[i]? = some v := by rw [Array.getElem?_setIfInBounds_self_of_lt h]
theorem set9_at {W : World} {g : Nat} {C : Array Value} {t : TypeId} {f : Nat × Nat} {o : Nat} {x : Bd} (h : W.heap[g]? = some (.cells (set9 C o x) t f)) (ho : o + 8 < C.size) : BAt W g o x := by
  have key : ∀ (k : Nat) (u : Value), (set9 C o x)[k]? = some u → W.cell? ⟨g, k, none⟩ = some u := fun k u hu => by simp [World.cell?, h, hu]
  refine ⟨key _ _ ?_, key _ _ ?_, key _ _ ?_, key _ _ ?_, key _ _ ?_, key _ _ ?_, key _ _ ?_, key _ _ ?_, key _ _ ?_⟩ <;> unfold set9
  · exact sin_ne (by omega) (sin_ne (by omega) (sin_ne (by omega) (sin_ne (by omega) (sin_ne (by omega) (sin_ne (by omega) (sin_ne (by omega) (sin_ne (by omega) (sin_eq (by omega)))))))))
  · exact sin_ne (by omega) (sin_ne (by omega) (sin_ne (by omega) (sin_ne (by omega) (sin_ne (by omega) (sin_ne (by omega) (sin_ne (by omega) (sin_eq (by simp only [Array.size_setIfInBounds]; omega))))))))
  · exact sin_ne (by omega) (sin_ne (by omega) (sin_ne (by omega) (sin_ne (by omega) (sin_ne (by omega) (sin_ne (by omega) (sin_eq (by simp only [Array.size_setIfInBounds]; omega)))))))
  · exact sin_ne (by omega) (sin_ne (by omega) (sin_ne (by omega) (sin_ne (by omega) (sin_ne (by omega) (sin_eq (by simp only [Array.size_setIfInBounds]; omega))))))
  · exact sin_ne (by omega) (sin_ne (by omega) (sin_ne (by omega) (sin_ne (by omega) (sin_eq (by simp only [Array.size_setIfInBounds]; omega)))))
  · exact sin_ne (by omega) (sin_ne (by omega) (sin_ne (by omega) (sin_eq (by simp only [Array.size_setIfInBounds]; omega))))
  · exact sin_ne (by omega) (sin_ne (by omega) (sin_eq (by simp only [Array.size_setIfInBounds]; omega)))
  · exact sin_ne (by omega) (sin_eq (by simp only [Array.size_setIfInBounds]; omega))
  · exact sin_eq (by simp only [Array.size_setIfInBounds]; omega)

/-- A row of borders that may be put in order. -/
structure SwI (W : World) (g n : Nat) (L : List Bd) : Prop where
  len : L.length = n
  blk : ∃ C : Array Value, W.heap[g]? = some (.cells C 105 (0, 0)) ∧ n * 9 ≤ C.size
  cells : ∀ (k : Nat) (x : Bd), L[k]? = some x → BAt W g (k * 9) x
theorem SwI.same {W W' : World} {g n : Nat} {L : List Bd} (h : SwI W g n L) (hk : W'.heap[g]? = W.heap[g]?) : SwI W' g n L := by
  obtain ⟨C, hC, hs⟩ := h.blk
  refine ⟨h.len, ⟨C, hk.trans hC, hs⟩, fun k x hx => ?_⟩
  have hc : ∀ i, W'.cell? ⟨g, i, none⟩ = W.cell? ⟨g, i, none⟩ := fun i => by unfold World.cell?; simp [hk]
  obtain ⟨h0, h1, h2, h3, h4, h5, h6, h7, h8⟩ := h.cells k x hx
  exact ⟨(hc _).trans h0, (hc _).trans h1, (hc _).trans h2, (hc _).trans h3, (hc _).trans h4, (hc _).trans h5, (hc _).trans h6, (hc _).trans h7, (hc _).trans h8⟩
theorem SwI.lt {W : World} {g n : Nat} {L : List Bd} (h : SwI W g n L) : g < W.heap.size := by
  obtain ⟨C, hC, _⟩ := h.blk
  exact lt_of_heap hC
theorem SwI.frz {W : World} {g n : Nat} {L : List Bd} (h : SwI W g n L) (i : Nat) : W.frozen? ⟨g, i, none⟩ = false := by
  obtain ⟨C, hC, _⟩ := h.blk
  simp [World.frozen?, hC]
theorem at_cells {W : World} {g o : Nat} {C : Array Value} {t : TypeId} {f : Nat × Nat} {x : Bd} (h : W.heap[g]? = some (.cells C t f)) (hx : BAt W g o x) : ∀ r, r < 9 → C[o + r]? = x.cs[r]? := by
  have key : ∀ (k : Nat) (u : Value), W.cell? ⟨g, k, none⟩ = some u → C[k]? = some u := fun k u hu => by
    simpa [World.cell?, h] using hu
  obtain ⟨h0, h1, h2, h3, h4, h5, h6, h7, h8⟩ := hx
  intro r hr
  match r, hr with
  | 0, _ => exact key _ _ h0
  | 1, _ => exact key _ _ h1
  | 2, _ => exact key _ _ h2
  | 3, _ => exact key _ _ h3
  | 4, _ => exact key _ _ h4
  | 5, _ => exact key _ _ h5
  | 6, _ => exact key _ _ h6
  | 7, _ => exact key _ _ h7
  | 8, _ => exact key _ _ h8
theorem cells_at {W : World} {g o : Nat} {C : Array Value} {t : TypeId} {f : Nat × Nat} {x : Bd} (h : W.heap[g]? = some (.cells C t f)) (hx : ∀ r, r < 9 → C[o + r]? = x.cs[r]?) : BAt W g o x := by
  have key : ∀ (k : Nat) (u : Value), C[k]? = some u → W.cell? ⟨g, k, none⟩ = some u := fun k u hu => by simp [World.cell?, h, hu]
  exact ⟨key _ _ (hx 0 (by omega)), key _ _ (hx 1 (by omega)), key _ _ (hx 2 (by omega)), key _ _ (hx 3 (by omega)), key _ _ (hx 4 (by omega)), key _ _ (hx 5 (by omega)), key _ _ (hx 6 (by omega)), key _ _ (hx 7 (by omega)), key _ _ (hx 8 (by omega))⟩
theorem swap_at {A B : List Bd} {x y z : Bd} {k : Nat} (h : (A ++ x :: y :: B)[k]? = some z) : (k = A.length ∧ z = x) ∨ (k = A.length + 1 ∧ z = y) ∨ (k ≠ A.length ∧ k ≠ A.length + 1 ∧ (A ++ y :: x :: B)[k]? = some z) := by
  by_cases h0 : k = A.length
  · subst h0
    simp at h
    exact .inl ⟨rfl, h.symm⟩
  · by_cases h1 : k = A.length + 1
    · subst h1
      rw [List.getElem?_append_right (by omega)] at h
      simp at h
      exact .inr (.inl ⟨rfl, h.symm⟩)
    · right; right
      refine ⟨h0, h1, ?_⟩
      by_cases h2 : k < A.length
      · rw [List.getElem?_append_left h2] at h ⊢
        exact h
      · rw [List.getElem?_append_right (by omega)] at h ⊢
        obtain ⟨m, hm⟩ : ∃ m, k - A.length = m + 2 := ⟨k - A.length - 2, by omega⟩
        rw [hm] at h ⊢
        exact h
theorem SwI.swap {W : World} {g n : Nat} {A B : List Bd} {x y : Bd} (h : SwI W g n (A ++ y :: x :: B)) {j : Nat} (hj : A.length = j) : SwI (put9 (put9 W g ((j + 1) * 9) y) g (j * 9) x) g n (A ++ x :: y :: B) := by
  subst hj
  obtain ⟨C, hC, hs⟩ := h.blk
  have hl := h.len
  simp at hl
  have h1 := put9_heap hC ((A.length + 1) * 9) y
  have h2 := put9_heap h1 (A.length * 9) x
  refine ⟨by simp; omega, ⟨_, h2, by rw [set9_size, set9_size]; exact hs⟩, fun k z hz => ?_⟩
  rcases swap_at hz with ⟨rfl, rfl⟩ | ⟨rfl, rfl⟩ | ⟨e0, e1, hz'⟩
  · exact set9_at h2 (by rw [set9_size]; omega)
  · have hb := set9_at h1 (by omega)
    refine cells_at h2 fun r hr => ?_
    rw [set9_far _ _ _ (by omega)]
    exact at_cells h1 hb r hr
  · have hk : k < n := by rw [← h.len]; exact (List.getElem?_eq_some_iff.1 hz').1
    refine cells_at h2 fun r hr => ?_
    rw [set9_far _ _ _ (by omega), set9_far _ _ _ (by omega)]
    exact at_cells hC (h.cells k z hz') r hr
/-- All blocks but one are as they were. -/
structure KG (g : Nat) (W W' : World) : Prop where
  size : W.heap.size ≤ W'.heap.size
  keep : ∀ k, k < W.heap.size → k ≠ g → W'.heap[k]? = W.heap[k]?
theorem KG.refl (g : Nat) (W : World) : KG g W W := ⟨Nat.le_refl _, fun _ _ _ => rfl⟩
theorem KG.trans {g : Nat} {A B C : World} (h : KG g A B) (k : KG g B C) : KG g A C := ⟨Nat.le_trans h.size k.size, fun i hi hg => (k.keep i (Nat.lt_of_lt_of_le hi h.size) hg).trans (h.keep i hi hg)⟩
theorem KG.below {g : Nat} {A B : World} (h : Below A.heap.size A B) : KG g A B := ⟨h.size, fun k hk _ => h.block k hk⟩
theorem KG.put (W : World) (g o : Nat) (x : Bd) : KG g W (put9 W g o x) := ⟨(put9_below (Below.refl 0 W) (Nat.zero_le g) o x).size, fun _ _ hk => put9_off o x hk⟩
theorem KG.drew (g : Nat) (W : World) : KG g W W.drew := ⟨Nat.le_refl _, fun _ _ _ => rfl⟩
end Go.Proofs.YtkdnkmheidbfdaaGreat

namespace Go.Proofs.YtkdnkmheidbfdaaGreat
open Go.RowKit Go.Sort

set_option maxRecDepth 100000 in
set_option maxHeartbeats 1600000 in
theorem look1_any (x y : Bd) (w : World) : Calls Tryz.prog 93 #[bdV x, bdV y] w fun e w' => e = .returned (.int .i64 (sgn (x.ar - y.ar))) ∧ Below w.heap.size w w' := by
  obtain ⟨wA, hwA⟩ : ∃ wA, w.alloc (bdO x) = wA := ⟨_, rfl⟩
  have hbA : Below w.heap.size w wA := by rw [← hwA]; exact (Below.refl _ w).alloc (Nat.le_refl _) _
  have hhA : wA.heap[w.heap.size]? = some (bdO x) := by rw [← hwA]; exact bd_new w x
  obtain ⟨wB, hwB⟩ : ∃ wB, wA.alloc (bdO y) = wB := ⟨_, rfl⟩
  have hbB : Below wA.heap.size wA wB := by rw [← hwB]; exact (Below.refl _ wA).alloc (Nat.le_refl _) _
  have hhB : wB.heap[wA.heap.size]? = some (bdO y) := by rw [← hwB]; exact bd_new wA y
  obtain ⟨_, _, _, _, _, _, a6, _, _⟩ := bd_cells ((hbB.block _ (lt_of_heap hhA)).trans hhA)
  obtain ⟨_, _, _, _, _, _, b6, _, _⟩ := bd_cells hhB
  have HC := hid (compareL_any x.ar y.ar wB)
  have HB := hid (hbA.trans (hbB.mono hbA.size))
  clear hbA hbB hhA hhB
  go_enter Tryz.func93, Tryz.ntmps93
  go_wp2_with (go_at_call 94; refine HC.out.mono ?_; rintro e w1 ⟨rfl, hb1⟩; replace HB := hid (HB.out.trans (hb1.mono HB.out.size)); clear HC hb1)
  go_ret
  exact ⟨rfl, HB.out⟩

theorem SwI.drew {W : World} {g n : Nat} {L : List Bd} (h : SwI W g n L) : SwI W.drew g n L := h.same rfl
theorem getLast_take {P : List Bd} {t : Nat} {y z : Bd} (hy : P[t]? = some y) (hz : (P.take (t + 1)).getLast? = some z) : z = y := by
  rw [List.take_add_one, hy] at hz
  simp at hz
  exact hz.symm
theorem sgnlt9 {a b : Int} : decide (sgn (a - b) < 0) = decide (a < b) := by
  unfold sgn
  split
  · rw [decide_eq_decide]
    omega
  · split
    · rw [decide_eq_decide]
      omega
    · rw [decide_eq_decide]
      omega

set_option maxRecDepth 100000 in
set_option maxHeartbeats 6400000 in
theorem insertionB_any {w : World} {base g n cap : Nat} {L : List Bd} (h : SwI w g n L) (hbg : base ≤ g) (hn : n ≤ 100000) :
    Calls Tryz.prog 152 #[.slice (some ⟨g, 0, none⟩) n cap, .int .i64 0, .int .i64 (n : Nat), .func (.func 93) #[] #[]] w fun e w' => e = .returned (.tuple #[]) ∧ SwI w' g n (sortB L) ∧ KG g w w' ∧ Below base w w' := by
  have HS := hid h
  have HBG := hid hbg
  have hlen := h.len
  clear h hbg
  go_enter Tryz.func152, Tryz.ntmps152
  go_wp2
  go_loopw [8, 9] (fun iv _ wr => ∃ i : Nat, 1 ≤ i ∧ i ≤ n + 1 ∧ iv = .int .i64 (i : Int) ∧ SwI wr g n (sortB (L.take (min i n)) ++ L.drop (min i n)) ∧ KG g w wr ∧ Below base w wr) (fun iv _ _ => n + 1 - (intOf iv).toNat)
  case atStart =>
    refine ⟨1, Nat.le_refl _, by omega, by go_num, ?_, KG.refl _ _, Below.refl _ _⟩
    have e : sortB (L.take (min 1 n)) ++ L.drop (min 1 n) = L := by
      cases hL : L with
      | nil => simp [sortB]
      | cons x l =>
        rw [hL] at hlen
        rw [show min 1 n = 1 by simp at hlen; omega]
        rfl
    rw [e]
    exact HS.out
  case round =>
    obtain ⟨i, hi1, hi2, rfl, hsw, hkg, hbr⟩ := hrel
    clear HS
    by_cases hlt : i < n
    · have hltI : (i : Int) < (n : Int) := by omega
      obtain ⟨x, hx⟩ : ∃ x, L[i]? = some x := ⟨L[i]'(by omega), by rw [List.getElem?_eq_getElem]⟩
      rw [show min i n = i by omega] at hsw
      obtain ⟨P, hP⟩ : ∃ P, sortB (L.take i) = P := ⟨_, rfl⟩
      obtain ⟨R, hR⟩ : ∃ R, L.drop (i + 1) = R := ⟨_, rfl⟩
      have hPl : P.length = i := by rw [← hP, sortB_len, List.length_take]; omega
      have hdrop : L.drop i = x :: R := by
        rw [List.drop_eq_getElem_cons (by omega), hR]
        congr 1
        exact (List.getElem?_eq_some_iff.1 hx).2
      have HNX := hid (show sortB (L.take (min (i + 1) n)) ++ L.drop (min (i + 1) n) = insB P x ++ R by
        rw [show min (i + 1) n = i + 1 by omega, hR, List.take_add_one, hx]
        show sortB (L.take i ++ [x]) ++ R = _
        rw [sortB_snoc, hP])
      rw [hP, hdrop] at hsw
      have HSW := hid hsw
      have HK := hid (And.intro hkg hbr)
      have HPL := hid hPl
      clear hsw hkg hbr hP hR hdrop hx hPl
      go_wp2
      go_loopw [9] (fun jv wq => ∃ j : Nat, j ≤ i ∧ jv = .int .i64 (j : Int) ∧ SwI wq g n (P.take j ++ x :: (P.drop j ++ R)) ∧ (∀ y ∈ P.drop j, x.ar < y.ar) ∧ KG g w wq ∧ Below base w wq) (fun jv _ => (intOf jv).toNat)
      case atStart =>
        refine ⟨i, Nat.le_refl _, rfl, ?_, ?_, HK.out.1, HK.out.2⟩
        · rw [List.take_of_length_le (by rw [HPL.out]; exact Nat.le_refl _), List.drop_of_length_le (by rw [HPL.out]; exact Nat.le_refl _)]
          exact HSW.out
        · rw [List.drop_of_length_le (by rw [HPL.out]; exact Nat.le_refl _)]
          intro y hy
          cases hy
      case round =>
        obtain ⟨j, hji, rfl, hsw, hgt, hkg, hbr⟩ := hrel
        clear HSW HK
        by_cases hj0 : 0 < j
        · have hjI : (0 : Int) < (j : Int) := by omega
          obtain ⟨t, ht⟩ : ∃ t, j = t + 1 := ⟨j - 1, by omega⟩
          have htI : (j : Int) - 1 = (t : Int) := by omega
          have hjn : (j : Int) < (n : Int) := by omega
          have htn : (t : Int) < (n : Int) := by omega
          have hti : t < i := by omega
          have htw : IntKind.i64.wrap ((j : Int) - 1) = (t : Int) := by rw [IntKind.wrap_i64]; omega
          obtain ⟨y, hy⟩ : ∃ y, P[t]? = some y := ⟨P[t]'(by rw [HPL.out]; exact hti), by rw [List.getElem?_eq_getElem]⟩
          have hsp : P.take j ++ x :: (P.drop j ++ R) = P.take t ++ y :: x :: (P.drop j ++ R) := by
            rw [ht, List.take_add_one, hy]
            simp
          have hdr : P.drop t = y :: P.drop j := by
            rw [List.drop_eq_getElem_cons (by rw [HPL.out]; exact hti), ht]
            congr 1
            exact (List.getElem?_eq_some_iff.1 hy).2
          have htl : (P.take t).length = t := by rw [List.length_take, HPL.out]; omega
          have HLA := hid (fun z (hz : (P.take j).getLast? = some z) => getLast_take hy (by rw [← ht]; exact hz))
          rw [hsp] at hsw
          obtain ⟨a0, a1, a2, a3, a4, a5, a6, a7, a8⟩ := hsw.cells j x (by rw [List.getElem?_append_right (by omega), htl, ht, show t + 1 - t = 1 by omega]; rfl)
          obtain ⟨b0, b1, b2, b3, b4, b5, b6, b7, b8⟩ := hsw.cells t y (by rw [List.getElem?_append_right (by omega), htl, Nat.sub_self]; rfl)
          have HSW := hid hsw
          have HK := hid (And.intro hkg hbr)
          have HGT := hid hgt
          have HD := hid (And.intro hdr htl)
          have HT := hid ht
          have HSP := hid hsp
          have cq := fun d os => look1_any x y (grow (redrawn wr d) os)
          have hsg : decide (sgn (x.ar - y.ar) < 0) = decide (x.ar < y.ar) := sgnlt9
          generalize sgn (x.ar - y.ar) = sg at cq hsg
          have k0 := cell_regrown a0; have k1 := cell_regrown a1; have k2 := cell_regrown a2; have k3 := cell_regrown a3; have k4 := cell_regrown a4; have k5 := cell_regrown a5; have k6 := cell_regrown a6; have k7 := cell_regrown a7; have k8 := cell_regrown a8
          have l0 := cell_regrown b0; have l1 := cell_regrown b1; have l2 := cell_regrown b2; have l3 := cell_regrown b3; have l4 := cell_regrown b4; have l5 := cell_regrown b5; have l6 := cell_regrown b6; have l7 := cell_regrown b7; have l8 := cell_regrown b8
          clear hy hsp hdr htl hsw hkg hbr hgt ht hti
          cases hc : decide (x.ar < y.ar) with
          | true =>
            rw [hc] at hsg
            have HC := hid (of_decide_eq_true hc)
            clear hc
            go_wp2
            refine wp_region_quiet_below (by kernel_rfl) (by kernel_rfl) ?_
            go_big_quiet_step (fail)
            go_big_quiet_step (fail)
            go_big_quiet_step (fail)
            go_big_quiet_step (fail)
            go_big_quiet_step (fail)
            go_big_quiet_step (fail)
            go_big_quiet_step (fail)
            go_big_quiet_step (fail)
            go_big_quiet_step (fail)
            go_big_quiet_step (fail)
            go_big_quiet_step (fail)
            go_big_quiet_step (fail)
            go_big_quiet_step (fail)
            go_big_quiet_step (fail)
            go_big_quiet_step (exact Calls.regrown_of (cq _ _))
            go_big_quiet_step (fail)
            go_big_quiet_step (fail)
            refine wpQuiet_nil ?_
            intro W hW'
            obtain ⟨⟨dq, osq⟩, hW⟩ := hW'
            have hbW : Below wr.heap.size wr W := by rw [hW]; exact below_regrown _ _ _
            have HSWW := hid (HSW.out.same (hbW.block _ HSW.out.lt))
            have HKW := hid (And.intro (HK.out.1.trans (KG.below hbW)) (HK.out.2.trans (hbW.mono (Nat.le_trans HBG.out (Nat.le_of_lt HSW.out.lt)))))
            clear hbW hW k0 k1 k2 k3 k4 k5 k6 k7 k8 l0 l1 l2 l3 l4 l5 l6 l7 l8 cq a0 a1 a2 a3 a4 a5 a6 a7 a8 b0 b1 b2 b3 b4 b5 b6 b7 b8
            obtain ⟨a0, a1, a2, a3, a4, a5, a6, a7, a8⟩ := HSWW.out.cells j x (by rw [List.getElem?_append_right (by rw [HD.out.2, HT.out]; omega), HD.out.2, HT.out, show t + 1 - t = 1 by omega]; rfl)
            obtain ⟨b0, b1, b2, b3, b4, b5, b6, b7, b8⟩ := HSWW.out.cells t y (by rw [List.getElem?_append_right (by rw [HD.out.2]; exact Nat.le_refl _), HD.out.2, Nat.sub_self]; rfl)
            have u0 := HSWW.out.frz (j * 9); have u1 := HSWW.out.frz (j * 9 + 1); have u2 := HSWW.out.frz (j * 9 + 2); have u3 := HSWW.out.frz (j * 9 + 3); have u4 := HSWW.out.frz (j * 9 + 4); have u5 := HSWW.out.frz (j * 9 + 5); have u6 := HSWW.out.frz (j * 9 + 6); have u7 := HSWW.out.frz (j * 9 + 7); have u8 := HSWW.out.frz (j * 9 + 8)
            have v0 := HSWW.out.frz (t * 9); have v1 := HSWW.out.frz (t * 9 + 1); have v2 := HSWW.out.frz (t * 9 + 2); have v3 := HSWW.out.frz (t * 9 + 3); have v4 := HSWW.out.frz (t * 9 + 4); have v5 := HSWW.out.frz (t * 9 + 5); have v6 := HSWW.out.frz (t * 9 + 6); have v7 := HSWW.out.frz (t * 9 + 7); have v8 := HSWW.out.frz (t * 9 + 8)
            have HFIN := hid (show SwI (put9 (put9 W g (j * 9) y) g (t * 9) x) g n (P.take t ++ x :: (P.drop t ++ R)) by
              rw [HD.out.1, HT.out]
              have q := HSWW.out.swap HD.out.2
              rw [HT.out] at q
              exact q)
            have HFK := hid (And.intro (HKW.out.1.trans ((KG.put W g (j * 9) y).trans (KG.put _ g (t * 9) x))) (put9_below (put9_below HKW.out.2 HBG.out (j * 9) y) HBG.out (t * 9) x))
            have HFG := hid (show ∀ z ∈ P.drop t, x.ar < z.ar by
              intro z hz
              rw [HD.out.1] at hz
              rcases List.mem_cons.1 hz with rfl | hz
              · exact HC.out
              · exact HGT.out z hz)
            unfold put9 at HFIN HFK
            go_wp2
            go_big_region
            all_goals go_wp2
            go_roundw
            case rel => exact ⟨t, by have := HT.out; omega, by go_num, HFIN.out.drew, HFG.out, HFK.out.1.trans (KG.drew _ _), HFK.out.2.drew⟩
            case measure => simp [intOf]; omega
          | false =>
            rw [hc] at hsg
            have HC := hid (of_decide_eq_false hc)
            clear hc
            have HFIN := hid (show insB P x = P.take j ++ x :: P.drop j by
              have q := insB_at (A := P.take j) (D := P.drop j) (x := x) HGT.out (fun z hz => by rw [HLA.out z hz]; exact HC.out)
              rw [List.take_append_drop] at q
              exact q)
            go_wp2
            refine wp_region_quiet_below (by kernel_rfl) (by kernel_rfl) ?_
            go_big_quiet_step (fail)
            go_big_quiet_step (fail)
            go_big_quiet_step (fail)
            go_big_quiet_step (fail)
            go_big_quiet_step (fail)
            go_big_quiet_step (fail)
            go_big_quiet_step (fail)
            go_big_quiet_step (fail)
            go_big_quiet_step (fail)
            go_big_quiet_step (fail)
            go_big_quiet_step (fail)
            go_big_quiet_step (fail)
            go_big_quiet_step (fail)
            go_big_quiet_step (fail)
            go_big_quiet_step (exact Calls.regrown_of (cq _ _))
            go_big_quiet_step (fail)
            go_big_quiet_step (fail)
            refine wpQuiet_nil ?_
            intro W hW'
            obtain ⟨⟨dq, osq⟩, hW⟩ := hW'
            have hbW : Below wr.heap.size wr W := by rw [hW]; exact below_regrown _ _ _
            have HSWW := hid (HSW.out.same (hbW.block _ HSW.out.lt))
            have HKW := hid (And.intro (HK.out.1.trans (KG.below hbW)) (HK.out.2.trans (hbW.mono (Nat.le_trans HBG.out (Nat.le_of_lt HSW.out.lt)))))
            clear hbW hW k0 k1 k2 k3 k4 k5 k6 k7 k8 l0 l1 l2 l3 l4 l5 l6 l7 l8 cq a0 a1 a2 a3 a4 a5 a6 a7 a8 b0 b1 b2 b3 b4 b5 b6 b7 b8
            go_wp2
            go_roundw
            case rel =>
              refine ⟨i + 1, by omega, by omega, by go_num, ?_, HKW.out.1, HKW.out.2⟩
              rw [HNX.out, HFIN.out, List.append_assoc, List.cons_append, HSP.out]
              exact HSWW.out
            case measure => simp [intOf]; omega
        · have hjI : ¬ (0 : Int) < (j : Int) := by omega
          obtain rfl : j = 0 := by omega
          have HSW := hid hsw
          have HK := hid (And.intro hkg hbr)
          have HFIN := hid (show insB P x = x :: P by
            have q := insB_at (A := []) (D := P) (x := x) (by rw [List.drop_zero] at hgt; exact hgt) (fun z hz => by cases hz)
            exact q)
          clear hsw hkg hbr hgt
          go_wp2
          refine wp_region_quiet_below (by kernel_rfl) (by kernel_rfl) ?_
          go_big_quiet_step (fail)
          go_big_quiet_step (fail)
          go_big_quiet_step (fail)
          go_big_quiet_step (fail)
          go_big_quiet_step (fail)
          go_big_quiet_step (fail)
          go_big_quiet_step (fail)
          go_big_quiet_step (fail)
          go_big_quiet_step (fail)
          go_big_quiet_step (fail)
          go_big_quiet_step (fail)
          go_big_quiet_step (fail)
          go_big_quiet_step (fail)
          go_big_quiet_step (fail)
          go_big_quiet_step (fail)
          go_big_quiet_step (fail)
          go_big_quiet_step (fail)
          refine wpQuiet_nil ?_
          intro W hW'
          obtain ⟨⟨dq, osq⟩, hW⟩ := hW'
          have hbW : Below wr.heap.size wr W := by rw [hW]; exact below_regrown _ _ _
          have HSWW := hid (HSW.out.same (hbW.block _ HSW.out.lt))
          have HKW := hid (And.intro (HK.out.1.trans (KG.below hbW)) (HK.out.2.trans (hbW.mono (Nat.le_trans HBG.out (Nat.le_of_lt HSW.out.lt)))))
          clear hbW hW
          go_wp2
          go_roundw
          case rel =>
            refine ⟨i + 1, by omega, by omega, by go_num, ?_, HKW.out.1, HKW.out.2⟩
            rw [HNX.out, HFIN.out, List.cons_append]
            have q := HSWW.out
            rw [List.take_zero, List.drop_zero, List.nil_append] at q
            exact q
          case measure => simp [intOf]; omega
    · have hltI : ¬ (i : Int) < (n : Int) := by omega
      have HFIN := hid (show SwI wr g n (sortB L) by
        rw [show min i n = n by omega, List.take_of_length_le (by omega), List.drop_of_length_le (by omega), List.append_nil] at hsw
        exact hsw)
      have HK := hid (And.intro hkg hbr)
      clear hsw hkg hbr
      go_wp2
      go_end0
      exact ⟨rfl, HFIN.out, HK.out.1, HK.out.2⟩

set_option maxRecDepth 100000 in
set_option maxHeartbeats 3200000 in
theorem stableB_any {w : World} {base g n cap : Nat} {L : List Bd} (h : SwI w g n L) (hbg : base ≤ g) (hn : n ≤ 19) :
    Calls Tryz.prog 92 #[.slice (some ⟨g, 0, none⟩) n cap, .func (.func 93) #[] #[]] w fun e w' => e = .returned (.tuple #[]) ∧ SwI w' g n (sortB L) ∧ KG g w w' ∧ Below base w w' := by
  have HI := hid (insertionB_any (cap := cap) h hbg (by omega))
  clear h hbg
  have HS := hid (show Calls Tryz.prog 122 #[.slice (some ⟨g, 0, none⟩) n cap, .int .i64 n, .func (.func 93) #[] #[]] w fun e w' => e = .returned (.tuple #[]) ∧ SwI w' g n (sortB L) ∧ KG g w w' ∧ Below base w w' by
    go_enter Tryz.func122, Tryz.ntmps122
    go_wp2
    go_loopw [7, 8] (fun av bv wr => av = .int .i64 0 ∧ bv = .int .i64 20 ∧ wr = w) (fun _ _ _ => 0)
    case atStart => exact ⟨rfl, rfl, rfl⟩
    case round =>
      obtain ⟨rfl, rfl, rfl⟩ := hrel
      have h20 : ¬ (20 : Int) ≤ (n : Int) := by omega
      go_wp2_with (go_at_call 152; refine HI.out.mono ?_; rintro e w1 ⟨rfl, hs1, hk1, hb1⟩; have H1 := hid (And.intro hs1 (And.intro hk1 hb1)); clear hs1 hk1 hb1 HI)
      go_loopw [6, 7, 8, 9] (fun sv _ _ _ wq => sv = .int .i64 20 ∧ wq = w1) (fun _ _ _ _ _ => 0)
      case atStart => exact ⟨rfl, rfl⟩
      case round =>
        obtain ⟨rfl, rfl⟩ := hrel
        have h20' : ¬ (20 : Int) < (n : Int) := by omega
        go_wp2
        go_end0
        exact ⟨rfl, H1.out.1, H1.out.2.1, H1.out.2.2⟩)
  clear HI
  go_enter Tryz.func92, Tryz.ntmps92
  go_wp2_with (go_at_call 122; refine HS.out.mono ?_; rintro e w1 ⟨rfl, hs1, hk1, hb1⟩; have H1 := hid (And.intro hs1 (And.intro hk1 hb1)); clear hs1 hk1 hb1 HS)
  go_end0
  exact ⟨rfl, H1.out.1, H1.out.2.1, H1.out.2.2⟩
end Go.Proofs.YtkdnkmheidbfdaaGreat
