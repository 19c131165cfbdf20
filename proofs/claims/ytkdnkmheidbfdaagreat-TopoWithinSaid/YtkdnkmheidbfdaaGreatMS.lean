/-
  Layer 15: nodes in memory; whether one stands at a point.
-/
import Derived.Test.YtkdnkmheidbfdaaGreatMN
import Derived.Test.YtkdnkmheidbfdaaGreatFLeast
import Derived.Test.YtkdnkmheidbfdaaGreatMJ
namespace Go.Proofs.YtkdnkmheidbfdaaGreat
open Go.RowKit Go.Sort

/-- A node as it lies in memory. -/
structure NR where
  id : Int
  x : Int
  y : Int
  fc : Int
abbrev nrV (n : NR) : Value := .agg #[.int .i64 n.id, .int .i64 n.x, .int .i64 n.y, .int .i64 n.fc]
abbrev nrO (n : NR) : Obj := .cells #[.int .i64 n.id, .int .i64 n.x, .int .i64 n.y, .int .i64 n.fc] 25 (0, 0)
def NAt (w : World) (b o : Nat) (n : NR) : Prop := w.cell? ⟨b, o, none⟩ = some (.int .i64 n.id) ∧ w.cell? ⟨b, o + 1, none⟩ = some (.int .i64 n.x) ∧ w.cell? ⟨b, o + 2, none⟩ = some (.int .i64 n.y) ∧ w.cell? ⟨b, o + 3, none⟩ = some (.int .i64 n.fc)
theorem NAt.below {w w' : World} {b o B : Nat} {n : NR} (h : NAt w b o n) (hb : Below B w w') (hB : b < B) : NAt w' b o n :=
  ⟨cell_below h.1 hb hB, cell_below h.2.1 hb hB, cell_below h.2.2.1 hb hB, cell_below h.2.2.2 hb hB⟩
theorem nr_cells {w : World} {b : Nat} {n : NR} (h : w.heap[b]? = some (nrO n)) : NAt w b 0 n := by
  refine ⟨?_, ?_, ?_, ?_⟩ <;> simp [World.cell?, h]
/-- A row of nodes. -/
structure NdE (w : World) (b off n : Nat) (ao : Option Addr) (ns : List NR) : Prop where
  len : ns.length = n
  few : n ≤ 1000
  cells : ∀ (k : Nat) (x : NR), ns[k]? = some x → NAt w b (off + k * 4) x
  at' : 1 ≤ n → ao = some ⟨b, off, none⟩
theorem NdE.below {w w' : World} {b off n : Nat} {ao : Option Addr} {ns : List NR} (h : NdE w b off n ao ns) (hb : Below w.heap.size w w') : NdE w' b off n ao ns :=
  ⟨h.len, h.few, fun k x hx => (h.cells k x hx).below hb (lt_of_cell (h.cells k x hx).1), h.at'⟩
def atN (qx qy : Int) (n : NR) : Bool := n.x == qx && n.y == qy

set_option maxRecDepth 100000 in
set_option maxHeartbeats 1600000 in
theorem taken1_any (n : NR) {qx qy : Int} {g : Nat} {w : World} (h0 : w.cell? ⟨g, 0, none⟩ = some (.int .i64 qx)) (h1 : w.cell? ⟨g, 1, none⟩ = some (.int .i64 qy)) :
    Calls Tryz.prog 85 #[nrV n, .pointer (some ⟨g, 0, none⟩)] w fun e w' => e = .returned (.bool (atN qx qy n)) ∧ Below w.heap.size w w' := by
  obtain ⟨wA, hwA⟩ : ∃ wA, w.alloc (nrO n) = wA := ⟨_, rfl⟩
  have hbA : Below w.heap.size w wA := by rw [← hwA]; exact (Below.refl _ w).alloc (Nat.le_refl _) _
  obtain ⟨a0, a1, a2, a3⟩ := nr_cells (show wA.heap[w.heap.size]? = some (nrO n) by rw [← hwA]; exact World.alloc_heap_new w _)
  have b0 := cell_below h0 hbA (lt_of_cell h0)
  have b1 := cell_below h1 hbA (lt_of_cell h1)
  have HB := hid hbA
  unfold atN
  clear hbA h0 h1
  go_enter Tryz.func85, Tryz.ntmps85
  go_wp2
  all_goals
    go_ret
    refine ⟨?_, HB.out⟩
    simp [*]
/-- Where the first node at a point stands; below nought: there is none. -/
def idxN (qx qy : Int) : List NR → Nat → Int
  | [], _ => -1
  | x :: xs, k => if atN qx qy x then (k : Int) else idxN qx qy xs (k + 1)
theorem idxN_at {qx qy : Int} {xs : List NR} {k : Nat} {x : NR} (hx : xs[k]? = some x) : idxN qx qy (xs.drop k) k = if atN qx qy x then (k : Int) else idxN qx qy (xs.drop (k + 1)) (k + 1) := by
  have hk := (List.getElem?_eq_some_iff.1 hx).1
  have e : xs.drop k = x :: xs.drop (k + 1) := by
    rw [List.drop_eq_getElem_cons hk]
    congr 1
    exact (List.getElem?_eq_some_iff.1 hx).2
  rw [e, idxN]
theorem idxN_any (qx qy : Int) : ∀ (xs : List NR) (k : Nat), decide (0 ≤ idxN qx qy xs k) = xs.any (atN qx qy)
  | [], k => rfl
  | x :: xs, k => by
    rw [idxN, List.any_cons]
    cases h : atN qx qy x with
    | true => simp
    | false => simpa using idxN_any qx qy xs (k + 1)

set_option maxRecDepth 100000 in
set_option maxHeartbeats 1600000 in
theorem indexN_any {w : World} {b off n cap : Nat} {ao : Option Addr} {ns : List NR} (h : NdE w b off n ao ns) {qx qy : Int} {g : Nat} (h0 : w.cell? ⟨g, 0, none⟩ = some (.int .i64 qx)) (h1 : w.cell? ⟨g, 1, none⟩ = some (.int .i64 qy)) :
    Calls Tryz.prog 43 #[.slice ao n cap, .func (.func 85) #[] #[.pointer (some ⟨g, 0, none⟩)]] w fun e w' => e = .returned (.int .i64 (idxN qx qy ns 0)) ∧ Below w.heap.size w w' := by
  have HE := hid h
  have HI := hid (And.intro h0 h1)
  have hfew := h.few
  clear h h0 h1
  go_enter Tryz.func43, Tryz.ntmps43
  go_wp2
  go_loopw [5, 8] (fun _ iv wr => ∃ k : Nat, k ≤ n ∧ iv = .int .i64 (k : Int) ∧ idxN qx qy ns 0 = idxN qx qy (ns.drop k) k ∧ Below w.heap.size w wr) (fun _ iv _ => n - (intOf iv).toNat)
  case atStart => exact ⟨0, Nat.zero_le _, rfl, by rw [List.drop_zero], Below.refl _ _⟩
  case round =>
    obtain ⟨k, hk, rfl, hix, hbr⟩ := hrel
    have HBR := hid hbr
    by_cases hlt : k < n
    · have hltI : (k : Int) < (n : Int) := by omega
      obtain ⟨x, hx⟩ : ∃ x, ns[k]? = some x := ⟨ns[k]'(by have := HE.out.len; omega), by rw [List.getElem?_eq_getElem]⟩
      obtain rfl := HE.out.at' (by omega)
      have hx0 := HE.out.cells k x hx
      obtain ⟨a0, a1, a2, a3⟩ := hx0.below hbr (lt_of_cell hx0.1)
      rw [idxN_at hx] at hix
      have HC := hid (taken1_any x (cell_below HI.out.1 hbr (lt_of_cell HI.out.1)) (cell_below HI.out.2 hbr (lt_of_cell HI.out.2)))
      clear hx hx0 hbr
      cases ha : atN qx qy x with
      | true =>
        rw [ha, if_pos rfl] at hix
        rw [ha] at HC
        have HX := hid hix
        clear hix ha
        go_wp2_with (go_at_call 85; refine HC.out.mono ?_; rintro e w1 ⟨rfl, hb1⟩; have HB1 := hid (HBR.out.trans (hb1.mono HBR.out.size)); clear hb1 HC)
        go_ret
        rw [HX.out]; exact ⟨rfl, HB1.out⟩
      | false =>
        rw [ha, if_neg Bool.false_ne_true] at hix
        rw [ha] at HC
        have HX := hid hix
        clear hix ha
        go_wp2_with (go_at_call 85; refine HC.out.mono ?_; rintro e w1 ⟨rfl, hb1⟩; have HB1 := hid (HBR.out.trans (hb1.mono HBR.out.size)); clear hb1 HC)
        go_roundw
        case rel => exact ⟨k + 1, by omega, by go_num, HX.out, HB1.out⟩
        case measure => simp [intOf]; omega
    · have hltI : ¬ (k : Int) < (n : Int) := by omega
      have HX := hid (show idxN qx qy ns 0 = -1 by rw [hix, List.drop_of_length_le (by have := HE.out.len; omega)]; rfl)
      clear hix hbr
      go_wp2
      go_ret
      rw [HX.out]; exact ⟨rfl, HBR.out⟩

set_option maxRecDepth 100000 in
set_option maxHeartbeats 1600000 in
theorem containsN_any {w : World} {b off n cap : Nat} {ao : Option Addr} {ns : List NR} (h : NdE w b off n ao ns) {qx qy : Int} {g : Nat} (h0 : w.cell? ⟨g, 0, none⟩ = some (.int .i64 qx)) (h1 : w.cell? ⟨g, 1, none⟩ = some (.int .i64 qy)) :
    Calls Tryz.prog 84 #[.slice ao n cap, .func (.func 85) #[] #[.pointer (some ⟨g, 0, none⟩)]] w fun e w' => e = .returned (.bool (ns.any (atN qx qy))) ∧ Below w.heap.size w w' := by
  have HC := hid (indexN_any (cap := cap) h h0 h1)
  rw [← idxN_any qx qy ns 0]
  generalize idxN qx qy ns 0 = z at HC ⊢
  clear h h0 h1
  go_enter Tryz.func84, Tryz.ntmps84
  go_wp2_with (go_at_call 43; refine HC.out.mono ?_; rintro e w1 ⟨rfl, hb1⟩; have HB1 := hid hb1; clear hb1 HC)
  go_ret
  exact ⟨rfl, HB1.out⟩
end Go.Proofs.YtkdnkmheidbfdaaGreat

namespace Go.Proofs.YtkdnkmheidbfdaaGreat
open Go.RowKit Go.Sort

/-- The cells of a row of borders. -/
def bcs : List Bd → List Value
  | [] => []
  | x :: xs => x.cs ++ bcs xs
theorem bcs_len : ∀ xs : List Bd, (bcs xs).length = xs.length * 9
  | [] => rfl
  | x :: xs => by rw [bcs, List.length_append, bcs_len xs, List.length_cons, Nat.succ_mul]; simp [Bd.cs]; omega
theorem bcs_app : ∀ a b : List Bd, bcs (a ++ b) = bcs a ++ bcs b
  | [], _ => rfl
  | x :: a, b => by rw [List.cons_append, bcs, bcs, bcs_app a b, List.append_assoc]
theorem bcs_at : ∀ (xs : List Bd) (k r : Nat) (x : Bd), r < 9 → xs[k]? = some x → (bcs xs)[k * 9 + r]? = x.cs[r]?
  | [], k, r, x, _, h => by simp at h
  | y :: xs, 0, r, x, hr, h => by
    simp at h
    subst h
    rw [bcs, List.getElem?_append_left (by simp [Bd.cs]; omega), Nat.zero_mul, Nat.zero_add]
  | y :: xs, k + 1, r, x, hr, h => by
    rw [List.getElem?_cons_succ] at h
    rw [bcs, List.getElem?_append_right (by simp [Bd.cs]; omega), show (k + 1) * 9 + r - y.cs.length = k * 9 + r by simp [Bd.cs]; omega]
    exact bcs_at xs k r x hr h
/-- A row of borders in memory of the call's own. -/
def BRow (W : World) (base : Nat) (v : Value) (xs : List Bd) : Prop := W.ownsRow base 105 9 v xs.length (bcs xs)
theorem BRow.nil (w : World) (base : Nat) : BRow w base (.slice none 0 0) [] := World.ownsRow_nil w base _ 9
theorem BRow.form {w : World} {base : Nat} {v : Value} {xs : List Bd} (h : BRow w base v xs) : ∃ ao cap, v = .slice ao xs.length cap := own_form h
theorem BRow.below {w w' : World} {base : Nat} {v : Value} {xs : List Bd} (h : BRow w base v xs) (hb : Below w.heap.size w w') : BRow w' base v xs := own_keep h fun k _ hk => hb.block k (lt_of_heap hk)
theorem BRow.at {w : World} {base g n cap : Nat} {xs : List Bd} (h : BRow w base (.slice (some ⟨g, 0, none⟩) n cap) xs) (hn : xs.length = n) {k : Nat} {x : Bd} (hx : xs[k]? = some x) : BAt w g (0 + k * 9) x := by
  have hk : k < xs.length := (List.getElem?_eq_some_iff.1 hx).1
  unfold BRow at h
  rw [hn] at h
  have key : ∀ r, r < 9 → w.cell? ⟨g, 0 + k * 9 + r, none⟩ = x.cs[r]? := fun r hr => by
    have := h.cellAt (k * 9 + r) (by omega)
    rw [bcs_at xs k r x hr hx] at this
    rw [Nat.zero_add]
    exact this
  exact ⟨key 0 (by omega), key 1 (by omega), key 2 (by omega), key 3 (by omega), key 4 (by omega), key 5 (by omega), key 6 (by omega), key 7 (by omega), key 8 (by omega)⟩
theorem infoBd : (Tryz.prog.info? 105).map (fun i => (i.zero, i.size, i.bytes)) = some (some (.agg #[.slice none 0 0, .slice none 0 0, .int .i64 0, .int .i64 0, .int .i64 0, .int .i64 0, .int .i64 0, .int .i64 0, .int .i64 0]), 9, 104) := by kernel_rfl
/-- A border more. -/
theorem BRow.snoc {w : World} {base : Nat} {v : Value} {xs : List Bd} (h : BRow w base v xs) (hb : base ≤ w.heap.size) (hl : xs.length ≤ 100000) (x : Bd) :
    ∃ ao cap w', (Builtin.append_ #[99, 99] 99 #[v, .slice (some ⟨w.heap.size, 0, none⟩) 1 1]).run Tryz.prog (w.alloc (bdO x)) = .ok (.slice ao (xs.length + 1) cap) w' ∧
      BRow w' base (.slice ao (xs.length + 1) cap) (xs ++ [x]) ∧ (w.alloc (bdO x)).grownBy w' v.ownBlock ∧ ((Value.slice ao (xs.length + 1) cap).ownBlock = v.ownBlock ∨ (Value.slice ao (xs.length + 1) cap).ownBlock = some (w.heap.size + 1)) := by
  obtain ⟨i0, hi, hz0, hz1, hz2⟩ := info_parts infoBd
  obtain ⟨wA, hwA⟩ : ∃ wA, wA = w.alloc (bdO x) := ⟨_, rfl⟩
  have hbA : Below w.heap.size w wA := by rw [hwA]; exact (Below.refl _ _).alloc (Nat.le_refl _) _
  obtain ⟨e0, e1, e2, e3, e4, e5, e6, e7, e8⟩ := bd_cells (show wA.heap[w.heap.size]? = some (bdO x) by rw [hwA]; exact bd_new w x)
  have h2 : BRow wA base v xs := h.below hbA
  obtain ⟨v', w', hrun, r1, r2, _, r4⟩ := run_append_own_at (P := Tryz.prog) wA base 99 99 105 i0 _ 9 104 Tryz.underlying99 hi hz0 hz1 hz2 rfl (by decide) v xs.length _ h2 ⟨w.heap.size, 0, none⟩ 1 1 x.cs rfl
    (fun j u hj => by
      match j, hj with
      | 0, hj => simp [Bd.cs] at hj; subst hj; rw [addr_add]; exact e0
      | 1, hj => simp [Bd.cs] at hj; subst hj; rw [addr_add]; exact e1
      | 2, hj => simp [Bd.cs] at hj; subst hj; rw [addr_add]; exact e2
      | 3, hj => simp [Bd.cs] at hj; subst hj; rw [addr_add]; exact e3
      | 4, hj => simp [Bd.cs] at hj; subst hj; rw [addr_add]; exact e4
      | 5, hj => simp [Bd.cs] at hj; subst hj; rw [addr_add]; exact e5
      | 6, hj => simp [Bd.cs] at hj; subst hj; rw [addr_add]; exact e6
      | 7, hj => simp [Bd.cs] at hj; subst hj; rw [addr_add]; exact e7
      | 8, hj => simp [Bd.cs] at hj; subst hj; rw [addr_add]; exact e8
      | j + 9, hj => simp [Bd.cs] at hj) (by intro u hu'; simp [Bd.cs] at hu'; rcases hu' with rfl | rfl | rfl | rfl | rfl | rfl | rfl | rfl | rfl <;> rfl) (by unfold maxLen; omega) (by omega) (by rw [hwA]; simp; omega)
  obtain ⟨ao, cap, rfl⟩ := own_form r1
  rw [← hwA]
  refine ⟨ao, cap, w', hrun, ?_, r2, by rw [hwA, World.size_alloc] at r4; exact r4⟩
  unfold BRow
  rw [List.length_append, bcs_app]
  show w'.ownsRow base _ 9 _ (xs.length + 1) (bcs xs ++ (x.cs ++ []))
  rw [List.append_nil]
  exact r1
end Go.Proofs.YtkdnkmheidbfdaaGreat

namespace Go.Proofs.YtkdnkmheidbfdaaGreat

def insC (a : LdT) : List LdT → List LdT
  | [] => [a]
  | b :: l => if leL a b then a :: b :: l else b :: insC a l
/-- The same order as ordL's, by insertion. -/
def ordC : List LdT → List LdT
  | [] => []
  | a :: l => insC a (ordC l)
theorem insC_perm (a : LdT) : ∀ l, (insC a l).Perm (a :: l)
  | [] => List.Perm.refl _
  | b :: l => by
    unfold insC
    split
    · exact List.Perm.refl _
    · exact ((insC_perm a l).cons b).trans (List.Perm.swap a b l)
theorem ordC_perm : ∀ l, (ordC l).Perm l
  | [] => List.Perm.refl _
  | a :: l => (insC_perm a (ordC l)).trans ((ordC_perm l).cons a)
theorem insC_sorted (a : LdT) : ∀ l, l.Pairwise (fun x y => leL x y = true) → (insC a l).Pairwise (fun x y => leL x y = true)
  | [], _ => by simp [insC]
  | b :: l, h => by
    obtain ⟨h1, h2⟩ := List.pairwise_cons.1 h
    unfold insC
    by_cases hab : leL a b = true
    · rw [if_pos hab]
      refine List.pairwise_cons.2 ⟨fun x hx => ?_, h⟩
      rcases List.mem_cons.1 hx with rfl | hx
      · exact hab
      · exact leL_trans _ _ _ hab (h1 x hx)
    · rw [if_neg hab]
      have hba : leL b a = true := by
        have := leL_total a b
        cases h3 : leL a b with
        | true => exact absurd h3 hab
        | false => rw [h3, Bool.false_or] at this; exact this
      refine List.pairwise_cons.2 ⟨fun x hx => ?_, insC_sorted a l h2⟩
      rcases List.mem_cons.1 ((insC_perm a l).mem_iff.1 hx) with rfl | hx
      · exact hba
      · exact h1 x hx
theorem ordC_sorted : ∀ l, (ordC l).Pairwise (fun x y => leL x y = true)
  | [] => List.Pairwise.nil
  | a :: l => insC_sorted a _ (ordC_sorted l)
theorem befL_of_le {a b : LdT} (h : leL a b = true) (hn : a.1 ≠ b.1) : befL a b := by
  unfold leL at h
  unfold befL
  have := of_decide_eq_true h
  rcases this with h1 | ⟨h1, h2⟩
  · exact .inl h1
  · exact .inr ⟨h1, by omega⟩
theorem ordC_eq {l : List LdT} (hn : (l.map (·.1)).Nodup) : ordL l = ordC l := by
  refine ordL_eq (ordC_perm l) ?_ hn
  have hn2 : ((ordC l).map (·.1)).Nodup := ((ordC_perm l).map _).nodup_iff.2 hn
  rw [List.Nodup, List.pairwise_map] at hn2
  exact (List.Pairwise.and (ordC_sorted l) hn2).imp fun h => befL_of_le h.1 h.2
/-- Next, computable. -/
def nxtC (ys : List LdT) (k : Int) : Option Int :=
  (ys.find? fun l => l.1 == -k).map fun l => aheadL (ordC (grp ys l.2.1)) ((ordC (grp ys l.2.1)).idxOf l)
theorem nxtC_eq {ys : List LdT} (hn : (ys.map (·.1)).Nodup) : nxtF ys = nxtC ys := by
  funext k
  unfold nxtF nxtC
  congr 1
  funext l
  rw [ordC_eq (grp_nodup hn l.2.1)]
end Go.Proofs.YtkdnkmheidbfdaaGreat
