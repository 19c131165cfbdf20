/-
  Layer 15: rows of nodes that may be written; those that have no part.
-/
import Derived.Test.YtkdnkmheidbfdaaGreatFLook
import Derived.Test.YtkdnkmheidbfdaaGreatMY
import Derived.Lib.SliceRun
import Derived.Deep.Upon
import Derived.Maps.AppendAt
namespace Go.Proofs.YtkdnkmheidbfdaaGreat
open Go.RowKit Go.Sort Go.Maps

/-- Has an edge this node? -/
def isJ (f : Int → Option Int) (n : NR) : Bool := (f n.id).isSome
def notJ (f : Int → Option Int) (n : NR) : Bool := !isJ f n

def put4 (W : World) (g o : Nat) (x : NR) : World := (((W.setCell ⟨g, o, none⟩ (.int .i64 x.id)).setCell ⟨g, o + 1, none⟩ (.int .i64 x.x)).setCell ⟨g, o + 2, none⟩ (.int .i64 x.y)).setCell ⟨g, o + 3, none⟩ (.int .i64 x.fc)
def set4 (C : Array Value) (o : Nat) (x : NR) : Array Value := (((C.setIfInBounds o (.int .i64 x.id)).setIfInBounds (o + 1) (.int .i64 x.x)).setIfInBounds (o + 2) (.int .i64 x.y)).setIfInBounds (o + 3) (.int .i64 x.fc)
theorem put4_heap {W : World} {g : Nat} {C : Array Value} {t : TypeId} (h : W.heap[g]? = some (.cells C t (0, 0))) (o : Nat) (x : NR) : (put4 W g o x).heap[g]? = some (.cells (set4 C o x) t (0, 0)) :=
  set1 (set1 (set1 (set1 h _) _) _) _
theorem put4_off {W : World} {g k : Nat} (o : Nat) (x : NR) (hk : k ≠ g) : (put4 W g o x).heap[k]? = W.heap[k]? := by
  unfold put4
  rw [RowKit.Below.heap_setCell _ _ _ _ hk, RowKit.Below.heap_setCell _ _ _ _ hk, RowKit.Below.heap_setCell _ _ _ _ hk, RowKit.Below.heap_setCell _ _ _ _ hk]
theorem put4_below {w W : World} {base g : Nat} (h : Below base w W) (hg : base ≤ g) (o : Nat) (x : NR) : Below base w (put4 W g o x) :=
  (((h.setCell (p := ⟨g, o, none⟩) hg _).setCell (p := ⟨g, o + 1, none⟩) hg _).setCell (p := ⟨g, o + 2, none⟩) hg _).setCell (p := ⟨g, o + 3, none⟩) hg _
theorem set4_size (C : Array Value) (o : Nat) (x : NR) : (set4 C o x).size = C.size := by unfold set4; simp only [Array.size_setIfInBounds]
theorem set4_far (C : Array Value) (o : Nat) (x : NR) {k : Nat} (hk : k < o ∨ o + 3 < k) : (set4 C o x)[k]? = C[k]? := by
  unfold set4
  rw [Array.getElem?_setIfInBounds_ne (by omega), Array.getElem?_setIfInBounds_ne (by omega), Array.getElem?_setIfInBounds_ne (by omega), Array.getElem?_setIfInBounds_ne (by omega)]
theorem set4_at {W : World} {g : Nat} {C : Array Value} {t : TypeId} {f : Nat × Nat} {o : Nat} {x : NR} (h : W.heap[g]? = some (.cells (set4 C o x) t f)) (ho : o + 3 < C.size) : NAt W g o x := by
  have key : ∀ (k : Nat) (u : Value), (set4 C o x)[k]? = some u → W.cell? ⟨g, k, none⟩ = some u := fun k u hu => by simp [World.cell?, h, hu]
  refine ⟨key _ _ ?_, key _ _ ?_, key _ _ ?_, key _ _ ?_⟩ <;> unfold set4
  · exact sin_ne (by omega) (sin_ne (by omega) (sin_ne (by omega) (sin_eq (by omega))))
  · exact sin_ne (by omega) (sin_ne (by omega) (sin_eq (by simp only [Array.size_setIfInBounds]; omega)))
  · exact sin_ne (by omega) (sin_eq (by simp only [Array.size_setIfInBounds]; omega))
  · exact sin_eq (by simp only [Array.size_setIfInBounds]; omega)
theorem nat_cells {W W' : World} {g g' o o' : Nat} {C C' : Array Value} {t t' : TypeId} {f f' : Nat × Nat} {x : NR} (h : W.heap[g]? = some (.cells C t f)) (h' : W'.heap[g']? = some (.cells C' t' f')) (hc : ∀ r, r < 4 → C'[o' + r]? = C[o + r]?) (hx : NAt W g o x) : NAt W' g' o' x := by
  have key : ∀ r, r < 4 → ∀ u, W.cell? ⟨g, o + r, none⟩ = some u → W'.cell? ⟨g', o' + r, none⟩ = some u := fun r hr u hu => by
    have q : C[o + r]? = some u := by simpa [World.cell?, h] using hu
    simp [World.cell?, h', hc r hr, q]
  exact ⟨key 0 (by omega) _ hx.1, key 1 (by omega) _ hx.2.1, key 2 (by omega) _ hx.2.2.1, key 3 (by omega) _ hx.2.2.2⟩

/-- A row of nodes that may be written. -/
structure NwI (W : World) (g n : Nat) (L : List NR) : Prop where
  len : L.length = n
  blk : 1 ≤ n → ∃ C : Array Value, W.heap[g]? = some (.cells C 25 (0, 0)) ∧ n * 4 ≤ C.size
  cells : ∀ (k : Nat) (x : NR), L[k]? = some x → NAt W g (k * 4) x
theorem NwI.same {W W' : World} {g n : Nat} {L : List NR} (h : NwI W g n L) (hk : W'.heap[g]? = W.heap[g]?) : NwI W' g n L := by
  refine ⟨h.len, fun h1 => ?_, fun k x hx => ?_⟩
  · obtain ⟨C, hC, hs⟩ := h.blk h1
    exact ⟨C, hk.trans hC, hs⟩
  · have hc : ∀ i, W'.cell? ⟨g, i, none⟩ = W.cell? ⟨g, i, none⟩ := fun i => by unfold World.cell?; simp [hk]
    obtain ⟨h0, h1, h2, h3⟩ := h.cells k x hx
    exact ⟨(hc _).trans h0, (hc _).trans h1, (hc _).trans h2, (hc _).trans h3⟩
theorem NwI.lt {W : World} {g n : Nat} {L : List NR} (h : NwI W g n L) (h1 : 1 ≤ n) : g < W.heap.size := by
  obtain ⟨C, hC, _⟩ := h.blk h1
  exact lt_of_heap hC
theorem NwI.frz {W : World} {g n : Nat} {L : List NR} (h : NwI W g n L) (h1 : 1 ≤ n) (i : Nat) : W.frozen? ⟨g, i, none⟩ = false := by
  obtain ⟨C, hC, _⟩ := h.blk h1
  simp [World.frozen?, hC]
theorem put_at {A B : List NR} {x y z : NR} {k : Nat} (h : (A ++ x :: B)[k]? = some z) : (k = A.length ∧ z = x) ∨ (k ≠ A.length ∧ (A ++ y :: B)[k]? = some z) := by
  by_cases h0 : k = A.length
  · subst h0
    simp at h
    exact .inl ⟨rfl, h.symm⟩
  · right
    refine ⟨h0, ?_⟩
    by_cases h2 : k < A.length
    · rw [List.getElem?_append_left h2] at h ⊢
      exact h
    · rw [List.getElem?_append_right (by omega)] at h ⊢
      obtain ⟨m, hm⟩ : ∃ m, k - A.length = m + 1 := ⟨k - A.length - 1, by omega⟩
      rw [hm] at h ⊢
      exact h
theorem NwI.put {W : World} {g n : Nat} {A B : List NR} {y : NR} (h : NwI W g n (A ++ y :: B)) (x : NR) {j : Nat} (hj : A.length = j) : NwI (put4 W g (j * 4) x) g n (A ++ x :: B) := by
  subst hj
  have hl := h.len
  simp at hl
  obtain ⟨C, hC, hs⟩ := h.blk (by omega)
  have h1 := put4_heap hC (A.length * 4) x
  refine ⟨by simp; omega, fun _ => ⟨_, h1, by rw [set4_size]; exact hs⟩, fun k z hz => ?_⟩
  rcases put_at (y := y) hz with ⟨rfl, rfl⟩ | ⟨e0, hz'⟩
  · exact set4_at h1 (by omega)
  · refine nat_cells hC h1 (fun r hr => ?_) (h.cells k z hz')
    exact set4_far _ _ _ (by omega)
theorem KG.put4 (W : World) (g o : Nat) (x : NR) : KG g W (put4 W g o x) := ⟨(put4_below (Below.refl 0 W) (Nat.zero_le g) o x).size, fun _ _ hk => put4_off o x hk⟩
theorem NwI.drew {W : World} {g n : Nat} {L : List NR} (h : NwI W g n L) : NwI W.drew g n L := h.same rfl

/-- 'clear' of the end of a row of nodes. -/
theorem run_clearN (w : World) (ty : TypeId) {g o m c : Nat} {C : Array Value} (hC : w.heap[g]? = some (.cells C 25 (0, 0))) (hm : 0 < m) (hs : o + m * 4 ≤ C.size) :
    (Builtin.clear_ #[26] ty #[.slice (some ⟨g, o, none⟩) m c]).run Tryz.prog w = .ok (.tuple #[]) (w.setCells g o (List.replicate (m * 4) (.int .i64 0))) := by
  have hz : (zeroValue 25).run Tryz.prog w = .ok (.agg #[.int .i64 0, .int .i64 0, .int .i64 0, .int .i64 0]) w := by kernel_rfl
  have hzc : (Builtin.zeroCells (Value.agg #[.int .i64 0, .int .i64 0, .int .i64 0, .int .i64 0]).cells m).toList = List.replicate (m * 4) (.int .i64 0) := by
    apply List.ext_getElem
    · simp [Builtin.zeroCells, Value.cells]
    · intro i h1 h2
      simp [Builtin.zeroCells, Value.cells]
      rcases (show i % 4 = 0 ∨ i % 4 = 1 ∨ i % 4 = 2 ∨ i % 4 = 3 by omega) with q | q | q | q <;> simp [q]
  have hst := run_storeCells_cells (P := Tryz.prog) g o (List.replicate (m * 4) (Value.int .i64 0)) 0 w
    (fun j hj => by
      rw [List.length_replicate] at hj
      simp [World.cell?, hC]
      omega)
    (fun j _ => by simp [World.frozen?, hC])
    (by intro v hv'; rw [List.eq_of_mem_replicate hv']; rfl)
  rw [Nat.add_zero] at hst
  obtain ⟨m', rfl⟩ : ∃ m', m = m' + 1 := ⟨m - 1, by omega⟩
  simp [Builtin.clear_, run_underlying Tryz.underlying26, hz, hzc, hst]
theorem wpList_clear_run {P : Program} {ops : Array Oper} {rest : List Oper} {o : Oper} {a : Act} {w w' : World} {Q : Exit → Act → World → Prop} (hg : o.guard = none) (s : Operand) (t : TypeId) (hop : o.op = Op.call { callee := Callee.builtin Builtin.clear, args := #[s], argTypes := #[t] }) {v v' : Value} (hs : a.eval s = v)
    (hrun : (Builtin.clear_ #[t] o.type #[v]).run P w = .ok v' w') (hK : wpList P ops Q rest (a.put o.dst v') w') : wpList P ops Q (o :: rest) a w :=
  wpList_plain hg fun K hK' => by
    unfold Oper.wp
    rw [show (execOp a.eval o).run P w = .ok (.value v') w' by simp [execOp, hop, resolve, invoke, builtin, hs, hrun, Result.andThen]]
    exact hK' _ _ hK
end Go.Proofs.YtkdnkmheidbfdaaGreat

namespace Go.Proofs.YtkdnkmheidbfdaaGreat
open Go.RowKit Go.Sort Go.Maps

set_option maxRecDepth 100000 in
set_option maxHeartbeats 1600000 in
theorem alone1_any (n : NR) {J B N : Nat} {f : Int → Option Int} {w : World} (hJ : w.cell? ⟨J, 0, none⟩ = some (.map (some B))) (hm : MapI w B N f) (hn : -1000000 ≤ n.id ∧ n.id ≤ 1000000) :
    Calls Tryz.prog 99 #[nrV n, .pointer (some ⟨J, 0, none⟩)] w fun e w' => e = .returned (.bool (isJ f n)) ∧ Below w.heap.size w w' := by
  obtain ⟨wA, hwA⟩ : ∃ wA, w.alloc (nrO n) = wA := ⟨_, rfl⟩
  have hbA : Below w.heap.size w wA := by rw [← hwA]; exact (Below.refl _ w).alloc (Nat.le_refl _) _
  obtain ⟨a0, a1, a2, a3⟩ := nr_cells (show wA.heap[w.heap.size]? = some (nrO n) by rw [← hwA]; exact World.alloc_heap_new w _)
  have j0 := cell_below hJ hbA (lt_of_cell hJ)
  have hl := mapI_look2 (MapV.kept hm (grownOf hbA) (by simp)) hn
  have HB := hid hbA
  unfold isJ
  generalize f n.id = q at hl ⊢
  generalize q.getD 0 = z at hl
  clear hbA hJ hm hn
  go_enter Tryz.func99, Tryz.ntmps99
  go_wp2
  go_ret
  exact ⟨rfl, HB.out⟩
/-- Where the first node of a kind stands; below nought: there is none. -/
def idxP (p : NR → Bool) : List NR → Nat → Int
  | [], _ => -1
  | x :: xs, k => if p x then (k : Int) else idxP p xs (k + 1)
theorem idxP_at {p : NR → Bool} {xs : List NR} {k : Nat} {x : NR} (hx : xs[k]? = some x) : idxP p (xs.drop k) k = if p x then (k : Int) else idxP p (xs.drop (k + 1)) (k + 1) := by
  have hk := (List.getElem?_eq_some_iff.1 hx).1
  have e : xs.drop k = x :: xs.drop (k + 1) := by
    rw [List.drop_eq_getElem_cons hk]
    congr 1
    exact (List.getElem?_eq_some_iff.1 hx).2
  rw [e, idxP]
theorem idxP_none {p : NR → Bool} : ∀ (xs : List NR) (k : Nat), idxP p xs k = -1 → ∀ x ∈ xs, p x = false
  | [], _, _, x, hx => by cases hx
  | y :: xs, k, h, x, hx => by
    rw [idxP] at h
    cases hp : p y with
    | true => rw [hp, if_pos rfl] at h; omega
    | false =>
      rw [hp, if_neg Bool.false_ne_true] at h
      rcases List.mem_cons.1 hx with rfl | hx
      · exact hp
      · exact idxP_none xs (k + 1) h x hx
theorem idxP_some {p : NR → Bool} : ∀ (xs : List NR) (k : Nat), idxP p xs k ≠ -1 → ∃ (j : Nat) (x : NR), idxP p xs k = ((k + j : Nat) : Int) ∧ xs[j]? = some x ∧ p x = true ∧ ∀ y ∈ xs.take j, p y = false
  | [], _, h => absurd rfl h
  | y :: xs, k, h => by
    rw [idxP] at h ⊢
    cases hp : p y with
    | true => exact ⟨0, y, by rw [if_pos rfl]; rfl, rfl, hp, fun z hz => by simp at hz⟩
    | false =>
      rw [hp, if_neg Bool.false_ne_true] at h
      obtain ⟨j, x, h1, h2, h3, h4⟩ := idxP_some xs (k + 1) h
      refine ⟨j + 1, x, by rw [if_neg Bool.false_ne_true, h1]; congr 1; omega, by rw [List.getElem?_cons_succ]; exact h2, h3, fun z hz => ?_⟩
      rw [List.take_succ_cons] at hz
      rcases List.mem_cons.1 hz with rfl | hz
      · exact hp
      · exact h4 z hz

set_option maxRecDepth 100000 in
set_option maxHeartbeats 1600000 in
theorem indexJ_any {w : World} {g n cap : Nat} {ao : Option Addr} {ns : List NR} (h : NwI w g n ns) (hao : 1 ≤ n → ao = some ⟨g, 0, none⟩) (hl : n ≤ 1000) {J B N : Nat} {f : Int → Option Int} (hJ : w.cell? ⟨J, 0, none⟩ = some (.map (some B))) (hm : MapI w B N f) (hn : ∀ x ∈ ns, -1000000 ≤ x.id ∧ x.id ≤ 1000000) :
    Calls Tryz.prog 43 #[.slice ao n cap, .func (.func 99) #[] #[.pointer (some ⟨J, 0, none⟩)]] w fun e w' => e = .returned (.int .i64 (idxP (isJ f) ns 0)) ∧ Below w.heap.size w w' := by
  have HE := hid h
  have HI := hid (fun x (hx : x ∈ ns) W (hW : Below w.heap.size w W) => alone1_any x (cell_below hJ hW (lt_of_cell hJ)) (MapV.kept hm (grownOf hW) (by simp)) (hn x hx))
  have HAO := hid hao
  clear h hJ hm hn hao
  go_enter Tryz.func43, Tryz.ntmps43
  go_wp2
  go_loopw [5, 8] (fun _ iv wr => ∃ k : Nat, k ≤ n ∧ iv = .int .i64 (k : Int) ∧ idxP (isJ f) ns 0 = idxP (isJ f) (ns.drop k) k ∧ Below w.heap.size w wr) (fun _ iv _ => n - (intOf iv).toNat)
  case atStart => exact ⟨0, Nat.zero_le _, rfl, by rw [List.drop_zero], Below.refl _ _⟩
  case round =>
    obtain ⟨k, hk, rfl, hix, hbr⟩ := hrel
    have HBR := hid hbr
    by_cases hlt : k < n
    · have hltI : (k : Int) < (n : Int) := by omega
      obtain ⟨x, hx⟩ : ∃ x, ns[k]? = some x := ⟨ns[k]'(by have := HE.out.len; omega), by rw [List.getElem?_eq_getElem]⟩
      obtain rfl := HAO.out (by omega)
      have hx0 := HE.out.cells k x hx
      obtain ⟨a0, a1, a2, a3⟩ := hx0.below hbr (lt_of_cell hx0.1)
      rw [idxP_at hx] at hix
      have HC := hid (HI.out x (List.mem_of_getElem? hx) wr hbr)
      clear hx hx0 hbr
      cases ha : isJ f x with
      | true =>
        rw [ha, if_pos rfl] at hix
        rw [ha] at HC
        have HX := hid hix
        clear hix ha
        go_wp2_with (go_at_call 99; refine HC.out.mono ?_; rintro e w1 ⟨rfl, hb1⟩; have HB1 := hid (HBR.out.trans (hb1.mono HBR.out.size)); clear hb1 HC)
        go_ret
        rw [HX.out]; exact ⟨rfl, HB1.out⟩
      | false =>
        rw [ha, if_neg Bool.false_ne_true] at hix
        rw [ha] at HC
        have HX := hid hix
        clear hix ha
        go_wp2_with (go_at_call 99; refine HC.out.mono ?_; rintro e w1 ⟨rfl, hb1⟩; have HB1 := hid (HBR.out.trans (hb1.mono HBR.out.size)); clear hb1 HC)
        go_roundw
        case rel => exact ⟨k + 1, by omega, by go_num, HX.out, HB1.out⟩
        case measure => simp [intOf]; omega
    · have hltI : ¬ (k : Int) < (n : Int) := by omega
      have HX := hid (show idxP (isJ f) ns 0 = -1 by rw [hix, List.drop_of_length_le (by have := HE.out.len; omega)]; rfl)
      clear hix hbr
      go_wp2
      go_ret
      rw [HX.out]; exact ⟨rfl, HBR.out⟩
/-- What a delete leaves of a row. -/
structure DlI (w : World) (base g n j c : Nat) (f : Int → Option Int) (L : List NR) (W : World) : Prop where
  cnt : ((L.take j).filter (notJ f)).length = c
  row : ∃ X : List NR, X.length + c = j ∧ NwI W g n ((L.take j).filter (notJ f) ++ X ++ L.drop j)
  kg : KG g w W
  below : Below base w W
theorem DlI.skip {w W W' : World} {base g n j c : Nat} {f : Int → Option Int} {L : List NR} {x : NR} (h : DlI w base g n j c f L W) (hx : L[j]? = some x) (hf : isJ f x = true) (hk : KG g W W') (hg : W'.heap[g]? = W.heap[g]?) (hb : Below base w W') : DlI w base g n (j + 1) c f L W' := by
  have hj := (List.getElem?_eq_some_iff.1 hx).1
  have ht : (L.take (j + 1)).filter (notJ f) = (L.take j).filter (notJ f) := by
    rw [List.take_add_one, hx]
    simp [List.filter_append, notJ, hf]
  obtain ⟨X, hX, hrow⟩ := h.row
  refine ⟨by rw [ht]; exact h.cnt, ⟨X ++ [x], by simp; omega, ?_⟩, h.kg.trans hk, hb⟩
  have e : (L.take j).filter (notJ f) ++ X ++ L.drop j = (L.take (j + 1)).filter (notJ f) ++ (X ++ [x]) ++ L.drop (j + 1) := by
    rw [ht, List.drop_eq_getElem_cons hj, (List.getElem?_eq_some_iff.1 hx).2]
    simp
  rw [← e]
  exact hrow.same hg
theorem DlI.keep {w W : World} {base g n j c : Nat} {f : Int → Option Int} {L : List NR} {x : NR} (h : DlI w base g n j c f L W) (hx : L[j]? = some x) (hf : isJ f x = false) (hc : c < j) (hbg : base ≤ g) : DlI w base g n (j + 1) (c + 1) f L (put4 W g (c * 4) x) := by
  have hj := (List.getElem?_eq_some_iff.1 hx).1
  have ht : (L.take (j + 1)).filter (notJ f) = (L.take j).filter (notJ f) ++ [x] := by
    rw [List.take_add_one, hx]
    simp [List.filter_append, notJ, hf]
  obtain ⟨X, hX, hrow⟩ := h.row
  obtain ⟨y, X', rfl⟩ : ∃ y X', X = y :: X' := by
    cases X with
    | nil => simp at hX; omega
    | cons y X' => exact ⟨y, X', rfl⟩
  refine ⟨by rw [ht, List.length_append, h.cnt]; rfl, ⟨X' ++ [x], by simp at hX ⊢; omega, ?_⟩, h.kg.trans (KG.put4 _ _ _ _), put4_below h.below hbg _ _⟩
  have e0 : (L.take j).filter (notJ f) ++ (y :: X') ++ L.drop j = (L.take j).filter (notJ f) ++ y :: (X' ++ L.drop j) := by simp
  rw [e0] at hrow
  have q := hrow.put x h.cnt
  have e : (L.take j).filter (notJ f) ++ x :: (X' ++ L.drop j) = (L.take (j + 1)).filter (notJ f) ++ (X' ++ [x]) ++ L.drop (j + 1) := by
    rw [ht, List.drop_eq_getElem_cons hj, (List.getElem?_eq_some_iff.1 hx).2]
    simp
  rw [← e]
  exact q
end Go.Proofs.YtkdnkmheidbfdaaGreat

namespace Go.Proofs.YtkdnkmheidbfdaaGreat
open Go.RowKit Go.Sort

def NR.cs (x : NR) : List Value := [.int .i64 x.id, .int .i64 x.x, .int .i64 x.y, .int .i64 x.fc]
/-- The cells of a row of nodes. -/
def ncs : List NR → List Value
  | [] => []
  | x :: xs => x.cs ++ ncs xs
theorem ncs_len : ∀ xs : List NR, (ncs xs).length = xs.length * 4
  | [] => rfl
  | x :: xs => by rw [ncs, List.length_append, ncs_len xs, List.length_cons, Nat.succ_mul]; simp [NR.cs]; omega
theorem ncs_at : ∀ (xs : List NR) (k r : Nat) (x : NR), r < 4 → xs[k]? = some x → (ncs xs)[k * 4 + r]? = x.cs[r]?
  | [], k, r, x, _, h => by simp at h
  | y :: xs, 0, r, x, hr, h => by
    simp at h
    subst h
    rw [ncs, List.getElem?_append_left (by simp [NR.cs]; omega), Nat.zero_mul, Nat.zero_add]
  | y :: xs, k + 1, r, x, hr, h => by
    rw [List.getElem?_cons_succ] at h
    rw [ncs, List.getElem?_append_right (by simp [NR.cs]; omega), show (k + 1) * 4 + r - y.cs.length = k * 4 + r by simp [NR.cs]; omega]
    exact ncs_at xs k r x hr h
theorem ncs_one {xs : List NR} : ∀ u ∈ ncs xs, u.oneCell' = true := by
  induction xs with
  | nil => intro u hu; simp [ncs] at hu
  | cons x xs ih =>
    intro u hu
    rw [ncs, List.mem_append] at hu
    rcases hu with hu | hu
    · simp only [NR.cs, List.mem_cons, List.not_mem_nil, or_false] at hu
      rcases hu with rfl | rfl | rfl | rfl <;> rfl
    · exact ih u hu
theorem NdE.vals {w : World} {b off n : Nat} {ao : Option Addr} {xs : List NR} (h : NdE w b off n ao xs) : ∀ (j : Nat) (u : Value), (ncs xs)[j]? = some u → w.cell? ((⟨b, off, none⟩ : Addr).add j) = some u := fun j u hu => by
  have hj : j < xs.length * 4 := by rw [← ncs_len]; exact (List.getElem?_eq_some_iff.1 hu).1
  obtain ⟨x, hx⟩ : ∃ x, xs[j / 4]? = some x := ⟨xs[j / 4]'(by omega), by rw [List.getElem?_eq_getElem]⟩
  have hat := ncs_at xs (j / 4) (j % 4) x (by omega) hx
  rw [show j / 4 * 4 + j % 4 = j by omega, hu] at hat
  obtain ⟨h0, h1, h2, h3⟩ := h.cells (j / 4) x hx
  rw [addr_add, show off + j = off + j / 4 * 4 + j % 4 by omega]
  generalize hr : j % 4 = r at hat ⊢
  have hr4 : r < 4 := by omega
  match r, hr4, hat with
  | 0, _, hat => simp [NR.cs] at hat; rw [hat]; exact h0
  | 1, _, hat => simp [NR.cs] at hat; rw [hat]; exact h1
  | 2, _, hat => simp [NR.cs] at hat; rw [hat]; exact h2
  | 3, _, hat => simp [NR.cs] at hat; rw [hat]; exact h3
theorem nwi_own {w : World} {base g n cap : Nat} {xs : List NR} (h : w.ownsRow base 25 4 (.slice (some ⟨g, 0, none⟩) n cap) n (ncs xs)) (hn : xs.length = n) : NwI w g n xs ∧ n ≤ cap := by
  rcases h.2 with ⟨e, _⟩ | ⟨g', cap', cur, e, h1, h2, h3, h4, h5, h6⟩
  · cases e
  · injection e with e1 _ e3
    injection e1 with e1
    injection e1 with e1 _ _
    subst e1 e3
    refine ⟨⟨hn, fun _ => ⟨cur, h2, by rw [h5]; omega⟩, fun k x hx => ?_⟩, h3⟩
    have hk : k < xs.length := (List.getElem?_eq_some_iff.1 hx).1
    have key : ∀ r, r < 4 → w.cell? ⟨g, k * 4 + r, none⟩ = x.cs[r]? := fun r hr => by
      have := h.cellAt (k * 4 + r) (by omega)
      rw [ncs_at xs k r x hr hx] at this
      exact this
    exact ⟨key 0 (by omega), key 1 (by omega), key 2 (by omega), key 3 (by omega)⟩

/-- A row of nodes in new memory. -/
def NewN (w w' : World) (v : Value) (n : Nat) (xs : List NR) : Prop := ∃ ao g cap, v = .slice ao n cap ∧ (1 ≤ n → ao = some ⟨g, 0, none⟩) ∧ w.heap.size ≤ g ∧ n ≤ cap ∧ NwI w' g n xs
set_option maxRecDepth 100000 in
set_option maxHeartbeats 1600000 in
theorem cloneN_any {w : World} {b off n cap : Nat} {ao : Option Addr} {xs : List NR} (h : NdE w b off n ao xs) (h0 : n = 0 → ao = none) :
    Calls Tryz.prog 37 #[.slice ao n cap] w fun e w' => (∃ v', e = .returned v' ∧ NewN w w' v' n xs) ∧ Below w.heap.size w w' := by
  have hnil : ∀ (wx : World) (a : Option Addr) (n c : Nat), (binOp .eql 26 (.slice a n c) (.slice none 0 0)).run Tryz.prog wx = .ok (.bool a.isNone) wx := fun wx a n c => Lib.run_eql_slice_nil wx _ _ a n c 0 0 Tryz.underlying26
  have hn := h.len
  have hl := h.few
  by_cases hz : n = 0
  · obtain rfl := h0 hz
    subst hz
    obtain rfl : xs = [] := List.eq_nil_of_length_eq_zero hn
    clear h
    go_enter Tryz.func37, Tryz.ntmps37
    go_wp2
    go_ret
    exact ⟨⟨_, rfl, none, w.heap.size, 0, rfl, fun hx => absurd hx (by decide), Nat.le_refl _, Nat.le_refl _, ⟨rfl, fun hx => absurd hx (by decide), fun k x hx => by cases hx⟩⟩, Below.refl _ _⟩
  · obtain rfl := h.at' (by omega)
    obtain ⟨i0, hi, hz0, hz1, hz2⟩ := info_parts infoNd
    have hb0 : Below w.heap.size w (w.alloc (.cells #[] 25)) := (Below.refl _ _).alloc (Nat.le_refl _) _
    have hcells : ∀ j u, (ncs xs)[j]? = some u → (w.alloc (.cells #[] 25)).cell? ((⟨b, off, none⟩ : Addr).add j) = some u := fun j u hu => by
      have h1 := h.vals j u hu
      exact (hb0.cell (World.block_lt_of_cell? w _ h1)).trans h1
    have hown : (w.alloc (.cells #[] 25)).ownsRow w.heap.size 25 4 (.slice (some ⟨w.heap.size, 0, none⟩) 0 0) 0 [] := World.ownsRow_lit w #[] 0 (Nat.le_refl _) (by unfold maxLen; omega) (by simp)
    have hlen' : (ncs xs).length = n * 4 := by rw [ncs_len, hn]
    have HOW := hid hown
    have HCE := hid hcells
    have HN := hid hn
    clear hown hcells h hn
    go_enter Tryz.func37, Tryz.ntmps37
    go_wp2_with (at_builtin; refine wpList_append_own _ rfl (.tmp 5) (.tmp 6) 26 rfl w.heap.size 25 i0 _ 4 32 Tryz.underlying26 hi hz0 hz1 hz2 rfl (by decide) (.slice (some ⟨w.heap.size, 0, none⟩) 0 0) 0 [] rfl HOW.out ⟨b, off, none⟩ n cap (ncs xs) rfl hlen' HCE.out ncs_one (by unfold maxLen; omega) (by omega) (by simp) ?_; intro v2 w2 hown2 hgrow2 _; have hB2 : Below w.heap.size w w2 := hb0.grown hgrow2 (by simp) (fun k hk => (HOW.out.lt k hk).1); have HO2 := hid hown2; clear hown2 hgrow2)
    go_ret
    have ho := HO2.out
    rw [Nat.zero_add, List.nil_append] at ho
    obtain ⟨g', c', rfl, hg'⟩ : ∃ g' c', v2 = .slice (some ⟨g', 0, none⟩) n c' ∧ w.heap.size ≤ g' := by
      rcases ho.2 with ⟨_, hx⟩ | ⟨g', c', cur, rfl, hg1, _⟩
      · omega
      · exact ⟨g', c', rfl, hg1⟩
    obtain ⟨q1, q2⟩ := nwi_own ho HN.out
    exact ⟨⟨_, rfl, _, g', c', rfl, fun _ => rfl, hg', q2, q1⟩, hB2⟩
end Go.Proofs.YtkdnkmheidbfdaaGreat
