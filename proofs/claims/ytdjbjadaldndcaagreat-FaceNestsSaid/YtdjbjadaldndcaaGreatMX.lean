/-
  Layer 15: a plan that a law makes, its nodes known.
-/
import Derived.Test.YtdjbjadaldndcaaGreatMU
import Derived.Test.YtdjbjadaldndcaaGreatMN
import Derived.Test.YtdjbjadaldndcaaGreatMW
import Derived.Test.YtdjbjadaldndcaaGreatFAwkW
namespace Go.Proofs.YtdjbjadaldndcaaGreat
open Go.RowKit Go.Shelf Go.Sort

theorem ncs_app : ∀ a b : List NR, ncs (a ++ b) = ncs a ++ ncs b
  | [], _ => rfl
  | x :: a, b => by rw [List.cons_append, ncs, ncs, ncs_app a b, List.append_assoc]
/-- A plan under way, its nodes known. -/
structure PlN (w : World) (Bp : Nat) (nv ev : Value) (ns : List NR) (xs : List ER) (ls : List (List Pp)) (W : World) : Prop where
  plb : PlB w Bp nv ev ns.length xs ls W
  row : W.ownsRow w.heap.size 29 4 nv ns.length (ncs ns)
  nnil : ns = [] → nv = .slice none 0 0
theorem PlN.fresh {w W W' : World} {Bp : Nat} {nv ev : Value} {ns : List NR} {xs : List ER} {ls : List (List Pp)} (h : PlN w Bp nv ev ns xs ls W) (hb : Below W.heap.size W W') : PlN w Bp nv ev ns xs ls W' :=
  ⟨h.plb.fresh hb, own_keep h.row fun k _ hk => hb.block k (lt_of_heap hk), h.nnil⟩
theorem PlN.start (w : World) : PlN w w.heap.size (.slice none 0 0) (.slice none 0 0) [] [] [] (w.alloc (.cells #[.slice none 0 0, .slice none 0 0] 25)) :=
  ⟨⟨World.alloc_heap_new w _, ⟨[], World.ownsRow_nil _ _ _ 4⟩, World.ownsRow_nil _ _ _ 6, fun k x hx => (by cases hx), rfl, fun _ => rfl, (Below.refl _ w).alloc (Nat.le_refl _) _⟩, World.ownsRow_nil _ _ _ 4, fun _ => rfl⟩
theorem PlN.addNode {w W : World} {Bp : Nat} {nv ev : Value} {ns : List NR} {xs : List ER} {ls : List (List Pp)} (h : PlN w Bp nv ev ns xs ls W) (hw : w.heap.size ≤ Bp) (hl : ns.length ≤ 1000000) (n : NR) :
    ∃ ao cap W1, (Builtin.append_ #[22, 22] 22 #[nv, .slice (some ⟨W.heap.size, 0, none⟩) 1 1]).run Tryz.prog (W.alloc (nrO n)) = .ok (.slice ao (ns.length + 1) cap) W1 ∧ W1.heap[Bp]? = W.heap[Bp]? ∧
      PlN w Bp (.slice ao (ns.length + 1) cap) ev (ns ++ [n]) xs ls (W1.setCell ⟨Bp, 0, none⟩ (.slice ao (ns.length + 1) cap)) := by
  obtain ⟨ao, cap, W1, hrun, hbx, hP, _⟩ := h.plb.addNode hw hl n.id n.x n.y n.fc
  obtain ⟨ao', cap', W1', hrun', hrow', hgr'⟩ := node_snoc h.row h.plb.below.size hl n.id n.x n.y n.fc
  rw [hrun] at hrun'
  injection hrun' with e1 e2
  subst e2
  rw [← e1] at hrow'
  refine ⟨ao, cap, W1, hrun, hbx, by rw [List.length_append]; exact hP, ?_, fun e => by simp at e⟩
  rw [List.length_append, ncs_app]
  show World.ownsRow _ _ _ 4 _ (ns.length + 1) (ncs ns ++ (n.cs ++ []))
  rw [List.append_nil]
  exact own_keep hrow' fun k c hk => RowKit.Below.heap_setCell _ _ _ _ (fun e => by
    have e' : k = Bp := e
    subst e'
    rw [hbx, h.plb.box] at hk
    injection hk with hk
    injection hk with _ e2 _
    exact absurd e2 (by decide))
theorem PlN.addEdge {w W : World} {Bp : Nat} {nv ev : Value} {ns : List NR} {xs : List ER} {ls : List (List Pp)} (h : PlN w Bp nv ev ns xs ls W) (hw : w.heap.size ≤ Bp) (hl : xs.length ≤ 1000000) (x : ER) (l : List Pp) {g : Nat} (x1 : x.lo = some ⟨g, 0, none⟩) (x2 : x.ll = l.length) (x3 : x.lc = x.ll) (x4 : W.heap[g]? = some (.cells (ptCells l).toArray 27 (0, 0))) :
    ∃ ao cap W1, (Builtin.append_ #[23, 23] 23 #[ev, .slice (some ⟨W.heap.size, 0, none⟩) 1 1]).run Tryz.prog (W.alloc (.cells #[.int .i64 x.id, .int .i64 x.st, .int .i64 x.en, .slice x.lo x.ll x.lc, .int .i64 x.lf, .int .i64 x.rt] 32)) = .ok (.slice ao (xs.length + 1) cap) W1 ∧ W1.heap[Bp]? = W.heap[Bp]? ∧
      PlN w Bp nv (.slice ao (xs.length + 1) cap) ns (xs ++ [x]) (ls ++ [l]) (W1.setCell ⟨Bp, 1, none⟩ (.slice ao (xs.length + 1) cap)) := by
  obtain ⟨ao, cap, W1, hrun, hbx, hP, hk⟩ := h.plb.addEdge hw hl x l x1 x2 x3 x4
  exact ⟨ao, cap, W1, hrun, hbx, hP, own_keep h.row fun k c hk' => (hk k c _ hk' (by decide) (by decide)).trans hk'.symm, h.nnil⟩
/-- What plan's and face's calls take. -/
theorem PlN.ends {w W : World} {Bp : Nat} {nv ev : Value} {ns : List NR} {xs : List ER} {ls : List (List Pp)} (h : PlN w Bp nv ev ns xs ls W) (hfew : xs.length ≤ 30) (hr : Rise xs) (hi : ∀ x ∈ xs, 1 ≤ x.id ∧ x.id ≤ 1000000) (hn : ∀ x ∈ xs, -1000000 ≤ x.st ∧ x.st ≤ 1000000 ∧ -1000000 ≤ x.en ∧ x.en ≤ 1000000) (hs : ∀ k, (ls.getD k []).length ≤ 1000) (hl : ns.length ≤ 1000) :
    ∃ b ao cap nb no nc, ev = .slice ao xs.length cap ∧ nv = .slice no ns.length nc ∧ PlE W b 0 xs.length ao xs ls ∧ NdE W nb 0 ns.length no ns ∧ (ns.length = 0 → no = none) := by
  obtain ⟨b, ao, cap, _, _, _, he, _, hE⟩ := h.plb.toPlE hfew hr hi hn hs
  obtain ⟨no, nc, hno⟩ := own_form h.row
  by_cases h1 : ns.length = 0
  · have h0 : ns = [] := List.eq_nil_of_length_eq_zero h1
    have hnil := h.nnil h0
    rw [hno] at hnil
    injection hnil with e1 _ _
    exact ⟨b, ao, cap, 0, no, nc, he, hno, hE, ⟨rfl, hl, fun k x hx => (by rw [h0] at hx; cases hx), fun hx => absurd h1 (by omega)⟩, fun _ => e1⟩
  · rcases h.row.2 with ⟨_, h0⟩ | ⟨g, cp, cur, e, hg⟩
    · exact absurd h0 h1
    · have hrow := h.row
      rw [hno] at e
      injection e with e1 _ e3
      subst e1 e3
      rw [hno] at hrow
      obtain ⟨q1, _⟩ := nwi_own hrow rfl
      exact ⟨b, ao, cap, g, _, nc, he, hno, hE, ⟨rfl, hl, fun k x hx => by rw [Nat.zero_add]; exact q1.cells k x hx, fun _ => rfl⟩, fun h0 => absurd h0 h1⟩
/-- A node more, and an edge with its line. -/
theorem PlN.round {w W : World} {Bp : Nat} {nv ev : Value} {ns : List NR} {xs : List ER} {ls : List (List Pp)} (h : PlN w Bp nv ev ns xs ls W) (hw : w.heap.size ≤ Bp) (hl : ns.length ≤ 1000) (hxl : xs.length ≤ 1000) (n : NR) (id st en lf rt : Int) (pts : List Pp) {L : Nat} (hL : pts.length = L) :
    ∃ no nc eo ec ao cap W1, nv = .slice no ns.length nc ∧ ev = .slice eo xs.length ec ∧ W.heap[Bp]? = some (.cells #[nv, ev] 25 (0, 0)) ∧ (Builtin.append_ #[22, 22] 22 #[nv, .slice (some ⟨W.heap.size, 0, none⟩) 1 1]).run Tryz.prog (W.alloc (nrO n)) = .ok (.slice ao (ns.length + 1) cap) W1 ∧ W1.heap[Bp]? = some (.cells #[nv, ev] 25 (0, 0)) ∧
      ∃ V1, W1.setCell ⟨Bp, 0, none⟩ (.slice ao (ns.length + 1) cap) = V1 ∧ V1.heap[Bp]? = some (.cells #[.slice ao (ns.length + 1) cap, ev] 25 (0, 0)) ∧
      ∃ P1, V1.alloc (.cells (ptCells pts).toArray 27) = P1 ∧ P1.heap[Bp]? = some (.cells #[.slice ao (ns.length + 1) cap, ev] 25 (0, 0)) ∧
      ∃ ao2 cap2 W2, (Builtin.append_ #[23, 23] 23 #[ev, .slice (some ⟨P1.heap.size, 0, none⟩) 1 1]).run Tryz.prog (P1.alloc (.cells #[.int .i64 id, .int .i64 st, .int .i64 en, .slice (some ⟨V1.heap.size, 0, none⟩) L L, .int .i64 lf, .int .i64 rt] 32)) = .ok (.slice ao2 (xs.length + 1) cap2) W2 ∧ W2.heap[Bp]? = some (.cells #[.slice ao (ns.length + 1) cap, ev] 25 (0, 0)) ∧
      ∃ V2, W2.setCell ⟨Bp, 1, none⟩ (.slice ao2 (xs.length + 1) cap2) = V2 ∧ PlN w Bp (.slice ao (ns.length + 1) cap) (.slice ao2 (xs.length + 1) cap2) (ns ++ [n]) (xs ++ [⟨id, st, en, some ⟨V1.heap.size, 0, none⟩, L, L, lf, rt⟩]) (ls ++ [pts]) V2 := by
  obtain ⟨no, nc, hno⟩ := own_form h.row
  obtain ⟨eo, ec, heo⟩ := own_form h.plb.edges
  obtain ⟨ao, cap, W1, hrun, hbx, hP1⟩ := h.addNode hw (by omega) n
  refine ⟨no, nc, eo, ec, ao, cap, W1, hno, heo, h.plb.box, hrun, hbx.trans h.plb.box, _, rfl, hP1.plb.box, ?_⟩
  generalize W1.setCell ⟨Bp, 0, none⟩ (.slice ao (ns.length + 1) cap) = V1 at hP1 ⊢
  have hbP : Below V1.heap.size V1 (V1.alloc (.cells (ptCells pts).toArray 27)) := (Below.refl _ V1).alloc (Nat.le_refl _) _
  have hP2 := hP1.fresh hbP
  have hg : (V1.alloc (.cells (ptCells pts).toArray 27)).heap[V1.heap.size]? = some (.cells (ptCells pts).toArray 27 (0, 0)) := World.alloc_heap_new V1 _
  generalize V1.alloc (.cells (ptCells pts).toArray 27) = P1 at hP2 hg ⊢
  refine ⟨P1, rfl, hP2.plb.box, ?_⟩
  obtain ⟨ao2, cap2, W2, hrun2, hbx2, hP3⟩ := hP2.addEdge hw (by omega) ⟨id, st, en, some ⟨V1.heap.size, 0, none⟩, L, L, lf, rt⟩ pts rfl hL.symm rfl hg
  exact ⟨ao2, cap2, W2, hrun2, hbx2.trans hP2.plb.box, _, rfl, hP3⟩
end Go.Proofs.YtdjbjadaldndcaaGreat

namespace Go.Proofs.YtdjbjadaldndcaaGreat
open Go.RowKit Go.Shelf Go.Sort

theorem nst255_i64 (n : Int) : bits .and .i64 n 255 = n % 256 := by
  have h31 : (BitVec.ofInt 64 255).toNat = 2 ^ 8 - 1 := by decide
  have key : (BitVec.ofInt 64 n &&& BitVec.ofInt 64 255).toNat = (n % ((2 ^ 64 : Nat) : Int)).toNat % 2 ^ 8 := by
    rw [BitVec.toNat_and, BitVec.toNat_ofInt, h31, Nat.and_two_pow_sub_one_eq_mod]
  show IntKind.i64.wrap ((BitVec.ofInt 64 n &&& BitVec.ofInt 64 255).toNat : Nat) = n % 256
  rw [key, IntKind.wrap_i64]
  omega
theorem nst255 (y : Int) : ∃ p q : Nat, bits .and .i64 y 255 = (p : Int) ∧ (p : Int).tmod 12 = (q : Int) ∧ p < 256 ∧ q < 12 := ⟨(y % 256).toNat, (y % 256).toNat % 12, by rw [nst255_i64]; omega, by rw [Int.tmod_eq_emod_of_nonneg (by omega)]; omega, by omega, by omega⟩

theorem nestX_succ (i : Nat) : nestX (i + 1) = nestX i ++ [⟨(i : Int) + 1, (i : Int) + 1, (i : Int) + 1, none, 0, 0, 0, 0⟩] := by unfold nestX; rw [List.range_succ, List.map_append]; rfl
theorem nestL_succ (i : Nat) : nestL (i + 1) = nestL i ++ [nestB i] := by unfold nestL; rw [List.range_succ, List.map_append]; rfl
theorem nestN_succ (i : Nat) : nestN (i + 1) = nestN i ++ [⟨(i : Int) + 1, 2 * (i : Int), 2 * (i : Int), -1⟩] := by unfold nestN; rw [List.range_succ, List.map_append]; rfl
theorem nestX_len (i : Nat) : (nestX i).length = i := by unfold nestX; rw [List.length_map, List.length_range]
theorem nestN_len (i : Nat) : (nestN i).length = i := by unfold nestN; rw [List.length_map, List.length_range]
theorem nest_xlen {xs : List ER} {i : Nat} (h : xs.map bare = nestX i) : xs.length = i := by rw [← List.length_map (f := bare), h, nestX_len]
theorem nest_get {xs : List ER} {i k : Nat} {x : ER} (h : xs.map bare = nestX i) (hx : xs[k]? = some x) : k < i ∧ x.id = (k : Int) + 1 ∧ x.st = (k : Int) + 1 ∧ x.en = (k : Int) + 1 := by
  have hk : k < i := by rw [← nest_xlen h]; exact (List.getElem?_eq_some_iff.1 hx).1
  have e : (xs.map bare)[k]? = some (bare x) := by rw [List.getElem?_map, hx]; rfl
  rw [h] at e
  unfold nestX at e
  rw [List.getElem?_map, List.getElem?_range hk] at e
  have e' := Option.some.inj e
  unfold bare at e'
  injection e' with e1 e2 e3
  exact ⟨hk, e1.symm, e2.symm, e3.symm⟩
theorem nest_rise {xs : List ER} {i : Nat} (h : xs.map bare = nestX i) : Rise xs := fun a b x y hab hx hy => by
  have h1 := (nest_get h hx).2.1
  have h2 := (nest_get h hy).2.1
  omega
theorem nest_of_mem {xs : List ER} {i : Nat} (h : xs.map bare = nestX i) {x : ER} (hx : x ∈ xs) : ∃ k, k < i ∧ x.id = (k : Int) + 1 ∧ x.st = (k : Int) + 1 ∧ x.en = (k : Int) + 1 := by
  obtain ⟨k, hk⟩ := List.mem_iff_getElem?.1 hx
  exact ⟨k, nest_get h hk⟩
theorem nestN_get {i k : Nat} {x : NR} (hx : (nestN i)[k]? = some x) : k < i ∧ x.id = (k : Int) + 1 := by
  have hk : k < i := by rw [← nestN_len i]; exact (List.getElem?_eq_some_iff.1 hx).1
  unfold nestN at hx
  rw [List.getElem?_map, List.getElem?_range hk] at hx
  have e' := Option.some.inj hx
  rw [← e']
  exact ⟨hk, rfl⟩
theorem nestN_rise (i : Nat) : RiseN (nestN i) := fun a b x y hab hx hy => by
  have h1 := (nestN_get hx).2
  have h2 := (nestN_get hy).2
  omega
theorem nestL_short (i k : Nat) : ((nestL i).getD k []).length ≤ 1000 := by
  rw [List.getD_eq_getElem?_getD]
  unfold nestL
  rw [List.getElem?_map]
  cases (List.range i)[k]? with
  | none => decide
  | some j => exact (by decide : (5 : Nat) ≤ 1000)
theorem nestK_mem {i k : Nat} (h : k < i) : (k : Int) + 1 ∈ nestK i := by unfold nestK; exact List.mem_map.2 ⟨k, List.mem_range.2 h, rfl⟩
theorem nestK_nodup (i : Nat) : (nestK i).Nodup := by
  unfold nestK
  unfold List.Nodup
  rw [List.pairwise_map]
  exact (List.nodup_range (n := i)).imp fun {a b} h e => h (by omega)
theorem nestK_bd {i : Nat} (hi : i ≤ 1000) : ∀ k ∈ nestK i, -1000000 ≤ k ∧ k ≤ 1000000 := fun k hk => by
  unfold nestK at hk
  obtain ⟨j, hj, rfl⟩ := List.mem_map.1 hk
  have := List.mem_range.1 hj
  omega

/-- What the law asks at region k. -/
structure NestAt (n k : Nat) : Prop where
  out : 0 < k → ∃ b, (rgsF id (outersC (nestX n) (nestL n)) (bordersC (nestX n) (nestL n))).1 k = some b ∧ b.ways = [(k : Int)]
  inn : k < n → ∃ b, (rgsF id (outersC (nestX n) (nestL n)) (bordersC (nestX n) (nestL n))).2 k = [b] ∧ b.ways = [-((k : Int) + 1)]
  none : n ≤ k → (rgsF id (outersC (nestX n) (nestL n)) (bordersC (nestX n) (nestL n))).2 k = []
  free : takenF (nestN n) n (nestL n) (2 * (k : Int) - 1, 30) = false
  at_ : leastP (fun _ => true) (2 * (k : Int) - 1, 30) (outersC (nestX n) (nestL n)) = (k : Int)
theorem nestAt_of {n k : Nat} (h : chkAt n k = true) : NestAt n k := by
  unfold chkAt at h
  simp only [Bool.and_eq_true, beq_iff_eq, Bool.not_eq_true'] at h
  obtain ⟨⟨⟨h1, h2⟩, h3⟩, h4⟩ := h
  refine ⟨fun h0 => ?_, fun h0 => ?_, fun h0 => ?_, h3, h4⟩
  · rw [if_neg (by omega)] at h1
    revert h1
    cases (rgsF id (outersC (nestX n) (nestL n)) (bordersC (nestX n) (nestL n))).1 k with
    | none => intro h1; cases h1
    | some b => intro h1; exact ⟨b, rfl, by simpa using h1⟩
  · rw [if_pos h0] at h2
    revert h2
    cases (rgsF id (outersC (nestX n) (nestL n)) (bordersC (nestX n) (nestL n))).2 k with
    | nil => intro h2; cases h2
    | cons b l =>
      cases l with
      | nil => intro h2; exact ⟨b, rfl, by simpa using h2⟩
      | cons c l => intro h2; cases h2
  · rw [if_neg (by omega)] at h2
    revert h2
    cases (rgsF id (outersC (nestX n) (nestL n)) (bordersC (nestX n) (nestL n))).2 k with
    | nil => intro _; rfl
    | cons b l => intro h2; cases h2
theorem nest_all {n : Nat} (hn : n < 12) : ((allLd (nestX (n + 1)) (nestL (n + 1))).map (·.1)).Nodup ∧ (∀ r ∈ ringsC (nestX (n + 1)) (nestL (n + 1)), (ringPtsF (nestX (n + 1)) (nestL (n + 1)) r).length ≤ 4096) ∧ ((bordersC (nestX (n + 1)) (nestL (n + 1))).filter BP.out).length = n + 1 ∧ (∀ k, k ≤ n + 1 → NestAt (n + 1) k) ∧ ((nestK (n + 1)).filter fun k => partsF (n + 1) (nestX (n + 1)) k == some k).length = n + 1 := by
  have h := chk_nests n hn
  unfold chkN at h
  simp only [Bool.and_eq_true, decide_eq_true_eq, List.all_eq_true, beq_iff_eq, List.mem_range] at h
  obtain ⟨⟨⟨⟨h1, h2⟩, h3⟩, h4⟩, h5⟩ := h
  exact ⟨h1, h2, h3, fun k hk => nestAt_of (h4 k (by omega)), h5⟩
end Go.Proofs.YtdjbjadaldndcaaGreat
