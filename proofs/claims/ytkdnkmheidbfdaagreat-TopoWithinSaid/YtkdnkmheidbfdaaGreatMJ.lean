/-
  Layer 14, plain: the way that is next.
-/
import Derived.Test.YtkdnkmheidbfdaaGreatPLRoundF
import Derived.Maps.Range
import Derived.Maps.RangeWalk
import Derived.RangeFuncLeaves
import Derived.Test.YtkdnkmheidbfdaaGreatME
namespace Go.Proofs.YtkdnkmheidbfdaaGreat

/-- Next of a way; none of what is no way. -/
def nxtF (ys : List LdT) (k : Int) : Option Int :=
  (ys.find? fun l => l.1 == -k).map fun l => aheadL (ordL (grp ys l.2.1)) ((ordL (grp ys l.2.1)).idxOf l)
/-- So far: nothing of the nodes that are left. -/
def nxtL (ys : List LdT) (left : Int → Bool) (k : Int) : Option Int :=
  match ys.find? fun l => l.1 == -k with
  | none => none
  | some l => if left l.2.1 then none else some (aheadL (ordL (grp ys l.2.1)) ((ordL (grp ys l.2.1)).idxOf l))
/-- Amid the ways of a node. -/
def nxtG (G : List LdT) (fo : Int → Option Int) (pre : List Nat) : Int → Option Int := pre.foldl (fun f i j => if j = -(G.getD i ld0).1 then some (aheadL G i) else f j) fo
theorem nxtG_snoc (G : List LdT) (fo : Int → Option Int) (pre : List Nat) (i : Nat) : nxtG G fo (pre ++ [i]) = fun j => if j = -(G.getD i ld0).1 then some (aheadL G i) else nxtG G fo pre j := by
  unfold nxtG
  rw [List.foldl_append]
  rfl
theorem nxtG_out (G : List LdT) (fo : Int → Option Int) (k : Int) : ∀ n, (∀ i, i < n → k ≠ -(G.getD i ld0).1) → nxtG G fo (List.range n) k = fo k
  | 0, _ => rfl
  | n + 1, h => by
    rw [List.range_succ, nxtG_snoc]
    dsimp only
    rw [if_neg (h n (by omega))]
    exact nxtG_out G fo k n fun i hi => h i (by omega)
theorem nxtG_in (G : List LdT) (fo : Int → Option Int) (k : Int) (i : Nat) (hk : k = -(G.getD i ld0).1) : ∀ n, i < n → (∀ j, j < n → j ≠ i → k ≠ -(G.getD j ld0).1) → nxtG G fo (List.range n) k = some (aheadL G i)
  | 0, h, _ => by omega
  | n + 1, h, hne => by
    rw [List.range_succ, nxtG_snoc]
    dsimp only
    by_cases hi : n = i
    · subst hi
      rw [if_pos hk]
    · rw [if_neg (hne n (by omega) hi)]
      exact nxtG_in G fo k i hk n (by omega) fun j hj => hne j (by omega)
theorem way_inj {ys : List LdT} (hn : (ys.map (·.1)).Nodup) {a b : LdT} (ha : a ∈ ys) (hb : b ∈ ys) (h : a.1 = b.1) : a = b := by
  rw [List.Nodup, List.pairwise_map] at hn
  obtain ⟨i, hi, ei⟩ := List.getElem_of_mem ha
  obtain ⟨j, hj, ej⟩ := List.getElem_of_mem hb
  rcases (show i < j ∨ i = j ∨ j < i by omega) with g | g | g
  · have := List.pairwise_iff_getElem.1 hn i j hi hj g
    rw [ei, ej] at this
    exact absurd h this
  · subst g
    rw [← ei, ← ej]
  · have := List.pairwise_iff_getElem.1 hn j i hj hi g
    rw [ei, ej] at this
    exact absurd h.symm this
theorem mem_grp {ys : List LdT} {k : Int} {l : LdT} : l ∈ grp ys k ↔ l ∈ ys ∧ l.2.1 = k := by unfold grp; rw [List.mem_filter]; simp
theorem getD_mem {G : List LdT} {i : Nat} (h : i < G.length) : G.getD i ld0 ∈ G := by
  rw [List.getD_eq_getElem?_getD, List.getElem?_eq_getElem h]
  exact List.getElem_mem h
theorem nxt_step {ys : List LdT} (hn : (ys.map (·.1)).Nodup) (left : Int → Bool) (node : Int) (N : Nat) (hN : (ordL (grp ys node)).length = N) (k : Int) :
    nxtG (ordL (grp ys node)) (nxtL ys left) (List.range N) k = nxtL ys (fun j => left j && !(j == node)) k := by
  have hg := grp_nodup hn node
  obtain ⟨hp, _⟩ := ordL_spec _ hg
  have hpn : ((ordL (grp ys node)).map (·.1)).Nodup := (hp.map _).nodup_iff.2 hg
  have hmem : ∀ i, i < N → (ordL (grp ys node)).getD i ld0 ∈ ys ∧ ((ordL (grp ys node)).getD i ld0).2.1 = node := fun i hi => mem_grp.1 (hp.mem_iff.1 (getD_mem (by omega)))
  cases hf : ys.find? fun l => l.1 == -k with
  | none =>
    rw [nxtG_out _ _ _ _ fun i hi e => by
      refine List.find?_eq_none.1 hf _ (hmem i hi).1 (beq_iff_eq.2 ?_)
      omega]
    unfold nxtL
    rw [hf]
  | some l =>
    have hl : l ∈ ys := List.mem_of_find?_eq_some hf
    have hlk : l.1 = -k := by simpa using List.find?_some hf
    by_cases hnd : l.2.1 = node
    · have hlG : l ∈ ordL (grp ys node) := hp.mem_iff.2 (mem_grp.2 ⟨hl, hnd⟩)
      have hi : (ordL (grp ys node)).idxOf l < N := by rw [← hN]; exact List.idxOf_lt_length_of_mem hlG
      have he : (ordL (grp ys node)).getD ((ordL (grp ys node)).idxOf l) ld0 = l := by
        rw [List.getD_eq_getElem?_getD, List.getElem?_eq_getElem (by omega)]
        exact List.getElem_idxOf _
      rw [nxtG_in _ _ k ((ordL (grp ys node)).idxOf l) (by rw [he]; omega) N hi fun j hj hne e => ?_]
      · unfold nxtL
        rw [hf]
        simp [hnd]
      · have e1 : (ordL (grp ys node)).getD j ld0 = l := way_inj hn (hmem j hj).1 hl (by omega)
        have hpn2 := hpn
        rw [List.Nodup, List.pairwise_map] at hpn2
        rw [List.getD_eq_getElem?_getD, List.getElem?_eq_getElem (by omega)] at e1
        simp only [Option.getD_some] at e1
        have hnd2 : (ordL (grp ys node)).Nodup := hpn2.imp fun {a b} h e => h (by rw [e])
        refine hne ?_
        have := hnd2.idxOf_getElem j (by omega)
        rw [e1] at this
        exact this.symm
    · rw [nxtG_out _ _ _ _ fun i hi e => by
        obtain ⟨m1, m2⟩ := hmem i hi
        have e1 := way_inj hn m1 hl (by omega)
        rw [e1] at m2
        exact hnd m2]
      unfold nxtL
      rw [hf]
      simp [hnd]
theorem nxt_start {ys : List LdT} (left : Int → Bool) (h : ∀ k, grp ys k ≠ [] → left k = true) (k : Int) : nxtL ys left k = none := by
  unfold nxtL
  cases hf : ys.find? fun l => l.1 == -k with
  | none => rfl
  | some l =>
    have hl : l ∈ ys := List.mem_of_find?_eq_some hf
    dsimp only
    rw [if_pos (h _ (List.ne_nil_of_mem (mem_grp.2 ⟨hl, rfl⟩)))]
theorem nxt_end {ys : List LdT} (left : Int → Bool) (h : ∀ l ∈ ys, left l.2.1 = false) (k : Int) : nxtL ys left k = nxtF ys k := by
  unfold nxtL nxtF
  cases hf : ys.find? fun l => l.1 == -k with
  | none => rfl
  | some l =>
    have hl : l ∈ ys := List.mem_of_find?_eq_some hf
    dsimp only
    rw [h l hl]
    rfl
end Go.Proofs.YtkdnkmheidbfdaaGreat

namespace Go.Proofs.YtkdnkmheidbfdaaGreat
open Go.RowKit Go.Sort Go.Maps

theorem atKey_of_has {D : DataW Value} {k : Lit} (h : Maps.has D k = true) : ∃ y, ∀ z, D.atKey k z = y := by
  cases D <;> try (cases h; done)
  rename_i es
  obtain ⟨p, hp, hpk⟩ := List.any_eq_true.1 h
  have hs : (es.find? (fun p => p.1.sameKey k)).isSome = true := List.find?_isSome.2 ⟨p, hp, hpk⟩
  obtain ⟨x, hx⟩ := Option.isSome_iff_exists.1 hs
  exact ⟨x.2, fun z => by simp [DataW.atKey, hx]⟩
theorem has_of_at {D : DataW Value} {f : Option Value} {k : Lit} (h : ∀ z, D.atKey k (.held z) = .held (f.getD z)) : Maps.has D k = f.isSome := by
  cases hh : Maps.has D k
  · cases f with
    | none => rfl
    | some v =>
      have e1 := (atKey_of_not_has hh (.held (.bool true))).symm.trans (h (.bool true))
      have e2 := (atKey_of_not_has hh (.held (.bool false))).symm.trans (h (.bool false))
      simp only [Option.getD_some] at e1 e2
      rw [← e1] at e2
      cases e2
  · cases f with
    | some v => rfl
    | none =>
      obtain ⟨y, hy⟩ := atKey_of_has hh
      have e1 := (hy (.held (.bool true))).symm.trans (h (.bool true))
      have e2 := (hy (.held (.bool false))).symm.trans (h (.bool false))
      rw [e1] at e2
      cases e2
theorem MapV.lt {w : World} {B n : Nat} {f : Int → Option Value} (h : MapV w B n f) : B < w.heap.size := by
  obtain ⟨D, h1, _⟩ := h
  exact h1.lt
theorem MapV.congr {w : World} {B n : Nat} {f g : Int → Option Value} (h : MapV w B n f) (e : ∀ k, -9223372036854775808 ≤ k → k ≤ 9223372036854775807 → f k = g k) : MapV w B n g := by
  obtain ⟨D, h1, h2, h3⟩ := h
  exact ⟨D, h1, h2, fun k k0 k1 z => by rw [← e k k0 k1]; exact h3 k k0 k1 z⟩
theorem MapV.look2 {w : World} {B n : Nat} {f : Int → Option Value} (h : MapV w B n f) {t e : TypeId} (ht : Tryz.prog.underlying t = some (.map 3 e)) {z : Value} (hz : (zeroValue e).run Tryz.prog w = .ok z w) {k : Int} (h0 : -9223372036854775808 ≤ k) (h1 : k ≤ 9223372036854775807) :
    (Instr.lookup t (.map (some B)) (.int .i64 k) true).run Tryz.prog w = .ok (.tuple #[(f k).getD z, .bool (f k).isSome]) w := by
  obtain ⟨D, h2, h3, h4⟩ := h
  obtain ⟨v, ps, hrun, hv⟩ := h2.look_ok intKeyed ht hz (zd := .held z) (zp := []) rfl (keyOf_int_mk Tryz.underlying3 (i64_wf h0 h1))
  rw [h4 k h0 h1 z] at hv
  simp only [RV, Option.some.injEq, Prod.mk.injEq, DataW.held.injEq] at hv
  rw [hrun, hv.1, has_of_at (h4 k h0 h1)]
theorem MapV.del {w : World} {B n : Nat} {f : Int → Option Value} (h : MapV w B n f) {t e : TypeId} (ht : Tryz.prog.underlying t = some (.map 3 e)) {k : Int} (h0 : -9223372036854775808 ≤ k) (h1 : k ≤ 9223372036854775807) (ty : TypeId) :
    ∃ w', (Builtin.delete_ #[t, 3] ty #[.map (some B), .int .i64 k]).run Tryz.prog w = .ok (.tuple #[]) w' ∧ MapV w' B n (fun j => if j = k then none else f j) ∧ w.grownBy w' (some B) ∧ w'.heap.size = w.heap.size := by
  obtain ⟨D, h2, h3, h4⟩ := h
  obtain ⟨w', hrun, hown, hg⟩ := h2.drop intKeyed ht (keyOf_int_mk Tryz.underlying3 (i64_wf h0 h1)) ty
  refine ⟨w', hrun, ⟨_, hown, h3.del _, fun j hj0 hj1 z => ?_⟩, hg.grown, ?_⟩
  · dsimp only
    by_cases hj : j = k
    · subst hj
      rw [if_pos rfl]
      exact atKey_del_same _
    · rw [if_neg hj, atKey_del_other (fun e => hj (by injection e))]
      exact h4 j hj0 hj1 z
  · obtain ⟨_, _, _, _, _, rfl⟩ := hg
    simp [Go.ChangeMaps.setBlock]

/-- A range over such a map, under way: left tells which keys are still to come. -/
def MapR (w : World) (B r n : Nat) (f : Int → Option Value) (left : Int → Bool) (cnt : Nat) : Prop :=
  ∃ (D : DataW Value) (lf : Lit → Bool), w.ranges Tryz.prog 3 RV B r n D lf cnt ∧ (∀ k, -9223372036854775808 ≤ k → k ≤ 9223372036854775807 → ∀ z, D.atKey (.int .i64 k) (.held z) = .held ((f k).getD z)) ∧ (∀ k, -9223372036854775808 ≤ k → k ≤ 9223372036854775807 → lf (.int .i64 k) = left k)
theorem MapR.cnt {w : World} {B r n cnt : Nat} {f : Int → Option Value} {left : Int → Bool} (h : MapR w B r n f left cnt) : w.rangeLeft B r = cnt := by
  obtain ⟨D, lf, h1, _⟩ := h
  exact h1.left_eq
theorem MapR.kept {w w' : World} {B r n cnt : Nat} {f : Int → Option Value} {left : Int → Bool} {row : Option Nat} (h : MapR w B r n f left cnt) (hg : w.grownBy w' row) (hB : some B ≠ row) (hr : some r ≠ row) : MapR w' B r n f left cnt := by
  obtain ⟨D, lf, h1, h2, h3⟩ := h
  exact ⟨D, lf, h1.kept hg hB hr, h2, h3⟩
theorem MapR.lt {w : World} {B r n cnt : Nat} {f : Int → Option Value} {left : Int → Bool} (h : MapR w B r n f left cnt) : B < w.heap.size ∧ r < w.heap.size := by
  obtain ⟨D, lf, h1, _⟩ := h
  exact ⟨h1.owns.lt, h1.lt⟩
theorem MapR.maps {w : World} {B r n cnt : Nat} {f : Int → Option Value} {left : Int → Bool} (h : MapR w B r n f left cnt) : (∃ o : Obj, w.heap[B]? = some o ∧ o.isCells = false) ∧ ∃ o : Obj, w.heap[r]? = some o ∧ o.isCells = false := by
  obtain ⟨D, lf, ⟨es, clock, since, seen, c0, hb, _, _, _, hr, _⟩, _⟩ := h
  exact ⟨⟨_, hb, rfl⟩, ⟨_, hr, rfl⟩⟩
theorem MapV.range {w : World} {B n : Nat} {f : Int → Option Value} (h : MapV w B n f) {t e : TypeId} (ht : Tryz.prog.underlying t = some (.map 3 e)) :
    ∃ w' cnt, (Instr.range t (.map (some B))).run Tryz.prog w = .ok (.pointer (some ⟨w.heap.size, 0, none⟩)) w' ∧ MapR w' B w.heap.size n f (fun k => (f k).isSome) cnt ∧ w.grownBy w' none ∧ w'.heap.size = w.heap.size + 1 := by
  obtain ⟨D, h1, _, h3⟩ := h
  obtain ⟨w', hrun, r1, r2, r3⟩ := h1.range intKeyed ht
  exact ⟨w', _, hrun, ⟨D, _, r1, h3, fun k k0 k1 => has_of_at (h3 k k0 k1)⟩, r2, r3⟩
theorem MapR.next {w : World} {B r n cnt : Nat} {f : Int → Option Value} {left : Int → Bool} (h : MapR w B r n f left cnt) (ty : TypeId) :
    ((∀ k, -9223372036854775808 ≤ k → k ≤ 9223372036854775807 → left k = false) ∧ (Instr.next (.pointer (some ⟨r, 0, none⟩)) false ty).run Tryz.prog w = .ok (.tuple #[.bool false]) w) ∨
    ∃ k v w' cnt', -9223372036854775808 ≤ k ∧ k ≤ 9223372036854775807 ∧ left k = true ∧ f k = some v ∧ (Instr.next (.pointer (some ⟨r, 0, none⟩)) false ty).run Tryz.prog w = .ok (.tuple #[.bool true, .int .i64 k, v]) w' ∧
      MapR w' B r n f (fun j => left j && !(j == k)) cnt' ∧ cnt' < cnt ∧ w.grownBy w' (some r) ∧ w'.heap.size = w.heap.size ∧ (Instr.entry (.pointer (some ⟨r, 0, none⟩))).run Tryz.prog w' = .ok (.tuple #[.int .i64 k, v]) w' := by
  obtain ⟨D, lf, h1, h2, h3⟩ := h
  rcases h1.next intKeyed ty with ⟨_, hl, hrun⟩ | ⟨key, v, kl, y, w', cnt', hkey, hlk, hv, hat, hrun, hrg, hlt, hgr, hsz, hen⟩
  · exact .inl ⟨fun k k0 k1 => by rw [← h3 k k0 k1]; exact hl _, hrun⟩
  · obtain ⟨k, rfl, rfl, hwf⟩ := Maps.keyOf_int_inv Tryz.underlying3 hkey
    have e1 : IntKind.i64.min = -9223372036854775808 := by decide
    have e2 : IntKind.i64.max = 9223372036854775807 := by decide
    simp [Lit.wf, e1, e2] at hwf
    obtain ⟨k0, k1⟩ := hwf
    simp only [RV, Option.some.injEq] at hv
    subst hv
    have hf : f k = some v := by
      cases hfk : f k with
      | some u =>
        have q := (h2 k k0 k1 (.bool true)).symm.trans (hat (.held (.bool true)))
        rw [hfk] at q
        simp only [Option.getD_some, DataW.held.injEq] at q
        rw [q]
      | none =>
        have q1 := (h2 k k0 k1 (.bool true)).symm.trans (hat (.held (.bool true)))
        have q2 := (h2 k k0 k1 (.bool false)).symm.trans (hat (.held (.bool false)))
        rw [hfk] at q1 q2
        simp only [Option.getD_none, DataW.held.injEq] at q1 q2
        rw [← q1] at q2
        cases q2
    refine .inr ⟨k, v, w', cnt', k0, k1, by rw [← h3 k k0 k1]; exact hlk, hf, hrun, ⟨D, _, hrg, h2, fun j j0 j1 => ?_⟩, hlt, hgr, hsz, hen⟩
    dsimp only
    rw [h3 j j0 j1]
    by_cases hj : j = k
    · subst hj
      rw [WideAt.sameKey_self (show WideAt.IsKeyLit (.int .i64 j) from trivial)]
      simp
    · have : (Lit.int IntKind.i64 j).sameKey (.int .i64 k) = false := by
        cases hs : (Lit.int IntKind.i64 j).sameKey (.int .i64 k)
        · rfl
        · exact absurd (by injection WideAt.sameKey_eq hs) hj
      rw [this]
      simp [hj]

/-- The marks that ranges over functions leave. -/
def marks (Ds : List Nat) : List Deferred := Ds.map fun D => { target := .collected D, args := #[] }
/-- A function that leaves with such marks alone. -/
theorem leaves_marks {F : Fence} {n : Nat} {P : Program} {fn : Func} {tmps : Array Value} {R : Ending → World → Prop} (I : World → Prop) (lo : Nat) (hI : ∀ W D, I W → lo ≤ D → W.heap[D]? = some (.deferred (some [])) → I (W.putObj D (.deferred none))) :
    ∀ (Ds : List Nat) (W : World), Ds.Nodup → (∀ D ∈ Ds, lo ≤ D ∧ W.heap[D]? = some (.deferred (some []))) → I W → (∀ W', I W' → LeavesIn F n P fn tmps R [] .returning W') → LeavesInM F n P fn tmps R (marks Ds) .returning W
  | [], W, _, _, hW, hR => hR W hW
  | D :: Ds, W, hn, hD, hW, hR => by
    obtain ⟨hD0, hDh⟩ := hD D (List.mem_cons_self ..)
    obtain ⟨hn1, hn2⟩ := List.nodup_cons.1 hn
    refine ⟨by simp, .inl ⟨D, _, rfl, run_takeDeferred hDh, leaves_marks I lo hI Ds _ hn2 (fun E hE => ?_) (hI W D hW hD0 hDh) hR⟩⟩
    obtain ⟨hE0, hEh⟩ := hD E (List.mem_cons_of_mem _ hE)
    exact ⟨hE0, ((grownBy_putObj' W D (.deferred none)).block E (lt_of_heap hEh) (fun e => hn1 (by injection e with e; rw [← e]; exact hE))).trans hEh⟩
end Go.Proofs.YtkdnkmheidbfdaaGreat

namespace Go.Proofs.YtkdnkmheidbfdaaGreat
open Go.RowKit Go.Shelf Go.Sort

attribute [local go_sem] Oper.semAt_some

theorem size_le {w : World} {B n : Nat} {D : DataW Value} (h : w.ownsMap Tryz.prog 3 RV B n D) : Maps.size D ≤ n := by
  obtain ⟨es, clock, hb, F, hs, rfl⟩ := h
  rw [Maps.size_eq, length_sorted]
  simpa using hs
theorem MapV.rangeC {w : World} {B n : Nat} {f : Int → Option Value} (h : MapV w B n f) {t e : TypeId} (ht : Tryz.prog.underlying t = some (.map 3 e)) :
    ∃ w' cnt, (Instr.range t (.map (some B))).run Tryz.prog w = .ok (.pointer (some ⟨w.heap.size, 0, none⟩)) w' ∧ MapR w' B w.heap.size n f (fun k => (f k).isSome) cnt ∧ w.grownBy w' none ∧ w'.heap.size = w.heap.size + 1 ∧ cnt ≤ n := by
  obtain ⟨D, h1, _, h3⟩ := h
  obtain ⟨w', hrun, r1, r2, r3⟩ := h1.range intKeyed ht
  exact ⟨w', _, hrun, ⟨D, _, r1, h3, fun k k0 k1 => has_of_at (h3 k k0 k1)⟩, r2, r3, size_le h1⟩

/-- Between two steps of onward: the box of the map, the map, the range over the nodes, what lay ahead of it, the marks. -/
structure OnI (w w1 : World) (Bx Bn B r n hi : Nat) (f : Int → Option Value) (left : Int → Bool) (cnt : Nat) (Ds : List Nat) (nx : Int → Option Int) (N : Nat) (W : World) : Prop where
  box : W.heap[Bx]? = some (.cells #[.map (some Bn)] 120 (0, 0))
  map : MapV W Bn N (fun k => (nx k).map (Value.int .i64))
  rng : MapR W B r n f left cnt
  keep : ∀ (k : Nat) (c : Array Value) (t : TypeId) (q : Nat × Nat), w1.heap[k]? = some (.cells c t q) → W.heap[k]? = some (.cells c t q)
  ds : ∀ D ∈ Ds, w.heap.size ≤ D ∧ D < hi ∧ W.heap[D]? = some (.deferred (some []))
  below : Below w.heap.size w W
  big : hi ≤ W.heap.size
theorem OnI.turn {w w1 W W' : World} {Bx Bn B r n hi : Nat} {f : Int → Option Value} {left : Int → Bool} {cnt : Nat} {Ds : List Nat} {nx : Int → Option Int} {N : Nat} {row : Option Nat} (h : OnI w w1 Bx Bn B r n hi f left cnt Ds nx N W) (hn : Bn < hi) (hB : B < hi) (hr : r < hi) (hw : w.heap.size ≤ hi)
    (hg : W.grownBy W' row) (hro : ∀ q, row = some q → hi ≤ q ∧ ∃ o : Obj, W.heap[q]? = some o ∧ o.isCells = false) : OnI w w1 Bx Bn B r n hi f left cnt Ds nx N W' :=
  ⟨cellsTurn hg (fun q e => (hro q e).2) h.box, h.map.kept hg (fun e => by have := (hro _ e.symm).1; omega), h.rng.kept hg (fun e => by have := (hro _ e.symm).1; omega) (fun e => by have := (hro _ e.symm).1; omega),
    fun k c t q hk => cellsTurn hg (fun q e => (hro q e).2) (h.keep k c t q hk),
    fun D hD => by
      obtain ⟨d1, d2, d3⟩ := h.ds D hD
      exact ⟨d1, d2, (hg.block D (lt_of_heap d3) (fun e => by have := (hro _ e.symm).1; omega)).trans d3⟩,
    h.below.grown hg h.below.size (fun k e => by have := (hro k e).1; omega), Nat.le_trans h.big hg.size⟩

set_option maxRecDepth 100000 in
/-- A store into the map, amid it. -/
theorem OnI.put {w w1 W : World} {Bx Bn B r n hi : Nat} {f : Int → Option Value} {left : Int → Bool} {cnt : Nat} {Ds : List Nat} {nx : Int → Option Int} {N : Nat} (h : OnI w w1 Bx Bn B r n hi f left cnt Ds nx N W) (hB : Bn ≠ B) (hr : Bn ≠ r) (hw : w.heap.size ≤ Bn) (hN : N ≤ 1000000) {k : Int} (k0 : -9223372036854775808 ≤ k) (k1 : k ≤ 9223372036854775807) (a : Int) :
    ∃ W', (Instr.mapUpdate 120 (.map (some Bn)) (.int .i64 k) (.int .i64 a)).run Tryz.prog W = .ok () W' ∧ OnI w w1 Bx Bn B r n hi f left cnt Ds (fun j => if j = k then some a else nx j) (N + 1) W' ∧ W.grownBy W' (some Bn) := by
  obtain ⟨W', hrun, hm, hg⟩ := h.map.put (t := 120) (e := 3) Tryz.underlying120 (by unfold maxLen; omega) k0 k1 (.int .i64 a)
  have hnc : ∀ q, some Bn = some q → ∃ o : Obj, W.heap[q]? = some o ∧ o.isCells = false := fun q e => by
    injection e with e
    subst e
    obtain ⟨D, ⟨es, ck, hm', _⟩, _⟩ := h.map
    exact ⟨_, hm', rfl⟩
  refine ⟨W', hrun, ⟨cellsTurn hg hnc h.box, hm.congr fun j _ _ => ?_, h.rng.kept hg (fun e => hB (by injection e with e; exact e.symm)) (fun e => hr (by injection e with e; exact e.symm)), fun k c t q hk => cellsTurn hg hnc (h.keep k c t q hk), fun D hD => ?_, h.below.grown hg h.below.size (fun k e => by injection e with e; omega), Nat.le_trans h.big hg.size⟩, hg⟩
  · by_cases hj : j = k
    · rw [if_pos hj, if_pos hj]
      rfl
    · rw [if_neg hj, if_neg hj]
  · obtain ⟨d1, d2, d3⟩ := h.ds D hD
    refine ⟨d1, d2, (hg.block D (lt_of_heap d3) (fun e => ?_)).trans d3⟩
    obtain ⟨D', ⟨es, ck, hm', _⟩, _⟩ := h.map
    injection e with e
    subst e
    rw [d3] at hm'
    cases hm'
theorem Kr.cells {Bo R b bo : Nat} {W W' : World} {row : Option Nat} (hg : W.grownBy W' row) (hr : ∀ q, row = some q → ∃ o : Obj, W.heap[q]? = some o ∧ o.isCells = false) (h : ∀ k, k = Bo ∨ k = R ∨ k = b ∨ k = bo → ∃ c t q, W.heap[k]? = some (.cells c t q)) : Kr Bo R b bo W W' := by
  have key : ∀ k, (k = Bo ∨ k = R ∨ k = b ∨ k = bo) → W'.heap[k]? = W.heap[k]? := fun k hk => by
    obtain ⟨c, t, q, e⟩ := h k hk
    exact (cellsTurn hg hr e).trans e.symm
  exact ⟨hg.size, key _ (.inl rfl), key _ (.inr (.inl rfl)), key _ (.inr (.inr (.inl rfl))), key _ (.inr (.inr (.inr rfl)))⟩

set_option maxRecDepth 100000 in
set_option maxHeartbeats 6400000 in
theorem onward_in {w : World} {b off n cap : Nat} {ao : Option Addr} {xs : List ER} {ls : List (List Pp)} (h : PlE w b off n ao xs ls) (no : Option Addr) (nl nc : Nat) :
    CallsIn Fence.wide 14 Tryz.prog 115 #[plV (.slice no nl nc) (.slice ao n cap)] w fun e w' => ∃ B N, e = .returned (.map (some B)) ∧ MapV w' B N (fun k => (nxtF (allLd xs ls) k).map (Value.int .i64)) ∧ N ≤ 100000 ∧ w.heap.size ≤ B ∧ Below w.heap.size w w' := by
  have hfn : ∀ k, Fence.wide.fn k := fun _ => trivial
  obtain ⟨wA, hwA⟩ : ∃ wA, w.alloc (.cells #[.slice no nl nc, .slice ao n cap] 32) = wA := ⟨_, rfl⟩
  obtain ⟨wB, hwB⟩ : ∃ wB, wA.alloc (.map #[] 0) = wB := ⟨_, rfl⟩
  obtain ⟨wC, hwC⟩ : ∃ wC, wB.alloc (.cells #[.map (some (w.heap.size + 1))] 120) = wC := ⟨_, rfl⟩
  have sA : wA.heap.size = w.heap.size + 1 := by rw [← hwA]; simp
  have sB : wB.heap.size = w.heap.size + 2 := by rw [← hwB]; simp [sA]
  have sC : wC.heap.size = w.heap.size + 3 := by rw [← hwC]; simp [sB]
  have hbA : Below w.heap.size w wA := by rw [← hwA]; exact (Below.refl _ w).alloc (Nat.le_refl _) _
  have hbB : Below wA.heap.size wA wB := by rw [← hwB]; exact (Below.refl _ wA).alloc (Nat.le_refl _) _
  have hbC : Below wB.heap.size wB wC := by rw [← hwC]; exact (Below.refl _ wB).alloc (Nat.le_refl _) _
  have hhA : wA.heap[w.heap.size]? = some (.cells #[.slice no nl nc, .slice ao n cap] 32) := by rw [← hwA]; unfold World.alloc; simp
  have hhC := (hbC.block w.heap.size (by omega)).trans ((hbB.block w.heap.size (by omega)).trans hhA)
  have c0 : wC.cell? ⟨w.heap.size, 0, none⟩ = some (.slice no nl nc) := by simp [World.cell?, hhC]
  have c1 : wC.cell? ⟨w.heap.size, 1, none⟩ = some (.slice ao n cap) := by simp [World.cell?, hhC]
  have bAC : Below w.heap.size w wC := (hbA.trans (hbB.mono (by omega))).trans (hbC.mono (by omega))
  have hbx : wC.heap[w.heap.size + 2]? = some (.cells #[.map (some (w.heap.size + 1))] 120 (0, 0)) := by rw [← hwC, ← sB]; unfold World.alloc; simp
  have hmp : MapV wC (w.heap.size + 1) 0 (fun _ => none) := by
    have h0 := MapV.made wA
    rw [hwB, sA] at h0
    exact h0.kept (grownOf hbC) (by simp)
  have hmkm := @run_makeMap Tryz.prog
  have HBN := hid (byNode_inB (cap := cap) (h.below bAC) no nl nc)
  have HE := hid (show (List.range (2 * n)).map (ldT xs ls) = allLd xs ls by unfold allLd; rw [h.len])
  rw [HE.out] at HBN
  have HWN := hid (ways_nodup ls h.rise fun x hx => (h.ids x hx).1)
  have HLN := hid (show ∀ k, (grp (allLd xs ls) k).length ≤ 60 by rw [← HE.out]; exact h.deg)
  have hll : (allLd xs ls).length ≤ 800 := by unfold allLd; rw [List.length_map, List.length_range, h.len]; have := h.few; omega
  have HBD := hid (show ∀ l ∈ allLd xs ls, (-1000000 ≤ l.1 ∧ l.1 ≤ 1000000) ∧ -1000000 ≤ l.2.1 ∧ l.2.1 ≤ 1000000 from fun l hl => by
    unfold allLd at hl
    obtain ⟨k, hk, rfl⟩ := List.mem_map.1 hl
    rw [List.mem_range] at hk
    have h2 : k / 2 < xs.length := by omega
    have hx : xs.getD (k / 2) default ∈ xs := by rw [List.getD_eq_getElem?_getD, List.getElem?_eq_getElem h2]; exact List.getElem_mem h2
    have i1 := h.ids _ hx
    have i2 := h.nodes _ hx
    show (-1000000 ≤ ldW xs k ∧ ldW xs k ≤ 1000000) ∧ -1000000 ≤ ldN xs k ∧ ldN xs k ≤ 1000000
    unfold ldW ldN
    split <;> omega)
  have HS := hid (And.intro sC (And.intro bAC (And.intro hbx hmp)))
  have hfew := h.few
  generalize allLd xs ls = ys at HBN HWN HLN HBD hll ⊢
  clear h hhA hhC hbA hbB hbC bAC hbx hmp HE
  refine callsIn_of_wp_marks Tryz.func115 rfl trivial ?_ rfl
  simp only [Tryz.ntmps115, List.size_toArray, List.length_cons, List.length_nil, Nat.reduceAdd, Nat.reduceSub, Array.replicate_succ, Array.replicate_zero, List.push_toArray, List.append_toArray, List.nil_append, List.cons_append]
  gi_wp2_with (first
    | (gi_at_call 108; refine (callsIn_wide.2 (callsIn_wide.1 HBN.out)).mono ?_; rintro e w1 ⟨B, f, rfl, hm, hr, _, hnone, hBN, hb1⟩; obtain ⟨w2, cnt, hrun, hR, hg2, hs2, hcnt⟩ := hm.rangeC (t := 142) (e := 141) Tryz.underlying142; have HW1 := hid (And.intro hr (And.intro hnone (And.intro hb1 (And.intro hR (And.intro hg2 (And.intro hs2 (And.intro hcnt (And.intro hm.lt hBN)))))))); clear HBN hm hr hnone hb1 hR hg2 hs2 hcnt hBN))
  obtain ⟨hsC, bAC, hbx, hmp⟩ := HS.out
  obtain ⟨hrow, hnone, hb1, hR, hg2, hs2, hcnt, hBlt, hBN⟩ := HW1.out
  have hBge : w.heap.size + 3 ≤ w1.heap.size := by have := hb1.size; omega
  have hBnB : w.heap.size + 1 ≠ B := by omega
  obtain ⟨r, hr⟩ : ∃ r, w1.heap.size = r := ⟨_, rfl⟩
  rw [hr] at hR hs2 hBlt hBge ⊢
  have hO : OnI w w1 (w.heap.size + 2) (w.heap.size + 1) B r (2 * n) (r + 1) f (fun k => (f k).isSome) cnt [] (nxtL ys fun k => (f k).isSome) 0 w2 := by
    have hst : ∀ k, nxtL ys (fun k => (f k).isSome) k = none := nxt_start _ fun k hk => by
      cases hfk : f k with
      | none => exact absurd ((hnone k).1 hfk) hk
      | some v => rfl
    have hnc : ∀ q, (none : Option Nat) = some q → ∃ o : Obj, w1.heap[q]? = some o ∧ o.isCells = false := fun q e => by cases e
    refine ⟨cellsTurn hg2 hnc ((hb1.block _ (by omega)).trans hbx), ?_, hR, fun k c t q hk => cellsTurn hg2 hnc hk, fun D hD => (by cases hD), (bAC.trans (hb1.mono (by omega))).grown hg2 (by omega) (fun k e => by cases e), by omega⟩
    exact ((hmp.kept (grownOf hb1) (by simp)).kept hg2 (by simp)).congr fun k _ _ => by rw [hst]; rfl
  refine wpIn_loop (fun a wr => ∃ (left : Int → Bool) (cnt : Nat) (Ds : List Nat) (N hi : Nat) (u5 u12 u13 u14 u15 u16 u17 : Value), a = { tmps := #[plV (.slice no nl nc) (.slice ao n cap), .pointer (some ⟨w.heap.size, 0, none⟩), .map none, .pointer (some ⟨w.heap.size + 2, 0, none⟩), undef, u5, undef, undef, .map (some (w.heap.size + 1)), .agg #[.slice no nl nc, .slice ao n cap], .map (some B), .pointer (some ⟨r, 0, none⟩), u12, u13, u14, u15, u16, u17, undef, undef, undef, undef, undef, undef, undef], defers := marks Ds } ∧ OnI w w1 (w.heap.size + 2) (w.heap.size + 1) B r (2 * n) hi f left cnt Ds (nxtL ys left) N wr ∧ Ds.Nodup ∧ r < hi ∧ N ≤ 60 * (2 * n - cnt) ∧ cnt ≤ 2 * n) (fun _ wr => wr.rangeLeft B r) ?start ?round
  case start => exact ⟨_, cnt, [], 0, r + 1, _, _, _, _, _, _, _, rfl, hO, List.nodup_nil, by omega, by omega, hcnt⟩
  case round =>
    rintro a wr ⟨left, cnt, Ds, N, hi, u5, u12, u13, u14, u15, u16, u17, rfl, hI, hnd, hrh, hN, hc⟩
    rw [hI.rng.cnt]
    have cb : wr.cell? ⟨w.heap.size + 2, 0, none⟩ = some (.map (some (w.heap.size + 1))) := by have := hI.box; simp [World.cell?, this]
    rcases hI.rng.next 0 with ⟨hl, hrun⟩ | ⟨node, v, W', cnt', k0, k1, hleft, hfn', hrun, hrg, hlt, hgr, hsz, hen⟩
    · have HI := hid hI
      have HND := hid hnd
      have HX := hid (And.intro hl (And.intro hN hc))
      clear hI hnd hl hN hc hO hR HW1 HS hmp hbx hnone hrow hb1 hg2
      have HB := hid hBge
      gi_wp2
      refine leaves_marks (fun W => MapV W (w.heap.size + 1) N (fun k => (nxtL ys left k).map (Value.int .i64)) ∧ Below w.heap.size w W) w.heap.size (fun W D hW hD0 hDh => ⟨hW.1.kept (grownBy_putObj' W D (.deferred none)) (fun e => ?_), hW.2.grown (grownBy_putObj' W D (.deferred none)) hW.2.size (fun k e => by injection e with e; omega)⟩) Ds wr HND.out (fun D hD => ⟨(HI.out.ds D hD).1, (HI.out.ds D hD).2.2⟩) ⟨HI.out.map, HI.out.below⟩ (fun W hW => ?_)
      · injection e with e
        subst e
        obtain ⟨_, ⟨_, _, hm', _⟩, _⟩ := hW.1
        rw [hDh] at hm'
        cases hm'
      · refine ⟨.map (some (w.heap.size + 1)), ?_, _, N, rfl, hW.1.congr fun k _ _ => ?_, ?_, by omega, hW.2⟩
        · simp [results, Tryz.f115, go_sem]
        · rw [nxt_end left (fun l hl => HX.out.1 _ (by have := HBD.out l hl; omega) (by have := HBD.out l hl; omega)) k]
        · have := HX.out.2.1
          omega
    · have hnc : ∀ q, some r = some q → ∃ o : Obj, wr.heap[q]? = some o ∧ o.isCells = false := fun q e => by injection e with e; subst e; exact hI.rng.maps.2
      have hds' : ∀ D ∈ Ds, w.heap.size ≤ D ∧ D < hi ∧ W'.heap[D]? = some (.deferred (some [])) := fun D hD => by
        obtain ⟨d1, d2, d3⟩ := hI.ds D hD
        refine ⟨d1, d2, (hgr.block D (lt_of_heap d3) (fun e => ?_)).trans d3⟩
        injection e with e
        subst e
        obtain ⟨_, _, ⟨_, _, _, _, _, _, _, _, _, hr', _⟩, _⟩ := hI.rng
        rw [d3] at hr'
        cases hr'
      have hI' : OnI w w1 (w.heap.size + 2) (w.heap.size + 1) B r (2 * n) hi f (fun j => left j && !(j == node)) cnt' Ds (nxtL ys left) N W' := ⟨cellsTurn hgr hnc hI.box, hI.map.kept hgr (by simp; omega), hrg, fun k c t q hk => cellsTurn hgr hnc (hI.keep k c t q hk), hds', hI.below.grown hgr hI.below.size (fun k e => by injection e with e; omega), by have := hI.big; omega⟩
      have hLv : LRow W' wC.heap.size v (grp ys node) := by
        have q := hrow node
        rw [hfn'] at q
        refine ⟨q.1, ?_⟩
        rcases q.2 with h0 | ⟨g', cp', cur, h1, h2, h3, h4⟩
        · exact .inl h0
        · exact .inr ⟨g', cp', cur, h1, h2, hI'.keep _ _ _ _ h3, h4⟩
      obtain ⟨ao1, cap1, hv1⟩ := hLv.form
      subst hv1
      have HRC := hid (round_any hLv (grp_nodup HWN.out node) (HLN.out node))
      have HI := hid hI'
      have HX := hid (And.intro hnd (And.intro hN (And.intro hc (And.intro hlt (And.intro hleft hI.big)))))
      have HGR := hid (And.intro hgr hsz)
      clear hI hI' hLv hnd hN hc hlt hleft hrg hgr hsz hO hR HW1 HS hmp hbx hnone hrow hb1 hg2 hfn' cb
      gi_wp2_with (first
        | (gi_at_call 142; refine (callsIn_wide.2 HRC.out).mono ?_; rintro e w3 ⟨Bo, R, b2, bo, oo, cap2, cap3, ao2, ao3, rfl, hM, hB1, hB2, hB3, hB4, hb3⟩; have HM := hid hM; have HB := hid (And.intro hB1 (And.intro hB2 (And.intro hB3 (And.intro hB4 hb3)))); clear HRC hM hB1 hB2 hB3 hB4 hb3))
      obtain ⟨⟨o1, o1'⟩, ⟨o2, o2'⟩, ⟨o3, o3'⟩, ⟨o4, o4'⟩, hb3⟩ := HB.out
      obtain ⟨hnd, hN, hc, hlt, hleft, hbig⟩ := HX.out
      have hbW : hi ≤ W'.heap.size := HI.out.big
      have hs3 : W'.heap.size ≤ w3.heap.size := hb3.size
      have hI3 : OnI w w1 (w.heap.size + 2) (w.heap.size + 1) B r (2 * n) w3.heap.size f (fun j => left j && !(j == node)) cnt' Ds (nxtL ys left) N w3 := by
        have q := HI.out.turn (row := none) (by omega) (by omega) hrh (by omega) (grownOf hb3) (fun q e => by cases e)
        exact ⟨q.box, q.map, q.rng, q.keep, fun D hD => ⟨(q.ds D hD).1, by have := (q.ds D hD).2.1; omega, (q.ds D hD).2.2⟩, q.below, Nat.le_refl _⟩
      have hM := HM.out
      obtain ⟨N1, hN1⟩ : ∃ N1, (grp ys node).length = N1 := ⟨_, rfl⟩
      rw [hN1] at hM ⊢
      have HG := hid (show ordG (wayS (grp ys node)) = ordL (grp ys node) from rfl)
      have HGL := hid (show (ordL (grp ys node)).length = N1 by rw [ordL_len, hN1])
      have HGW := hid (show ∀ k, k < N1 → -1000000 ≤ ((ordL (grp ys node)).getD k ld0).1 ∧ ((ordL (grp ys node)).getD k ld0).1 ≤ 1000000 from fun k hk => by
        have q := (ordL_spec _ (grp_nodup HWN.out node)).1.mem_iff.1 (getD_mem (i := k) (by rw [HGL.out]; exact hk))
        exact (HBD.out _ (mem_grp.1 q).1).1)
      have hfw := hM.few
      have HRM := hid hM
      have HI3 := hid hI3
      have HST := hid (nxt_step HWN.out left node N1 HGL.out)
      generalize ordL (grp ys node) = G at HG HGL HGW HST
      generalize wayS (grp ys node) = M at HRM HG
      have hmm : ∀ x : Ln N1, x.1 < N1 := fun x => x.2
      clear hM hI3 hb3 HB HM HI HX HGR hen hrun
      refine wpIn_rangeFunc_ownG rfl (by decide) (gf := 171) (lb := #[.pointer (some ⟨Bo, 0, none⟩), .pointer (some ⟨R, 0, none⟩)]) rfl trivial (enters_of Tryz.func171 (by kernel_rfl) rfl)
        (round2_stops (14 - 1) (by decide) Bo R b2 bo oo N1 cap2 cap3 ao2 ao3 M w3 HRM.out o1' o2' o3' o4') (fun h k => Kr.trans h k) (fun W l o o' h1 h2 _ _ => Kr.putObj W l o' (lt_of_heap h2) (by omega) (by omega) (by omega) (by omega)) (Below.refl _ _) (fun _ => rfl)
        (fun pre W => OnI w w1 (w.heap.size + 2) (w.heap.size + 1) B r (2 * n) w3.heap.size f (fun j => left j && !(j == node)) cnt' Ds (nxtG G (nxtL ys left) (pre.map (·.1))) (N + pre.length) W)
        (fun _ _ _ => False) ?hI ?hIx ?h0
        (fun x => { tmps := #[plV (.slice no nl nc) (.slice ao n cap), .pointer (some ⟨w.heap.size, 0, none⟩), .map none, .pointer (some ⟨w.heap.size + 2, 0, none⟩), undef, .slice ao1 N1 cap1, .int .i64 ((ordG M).getD x.1 ld0).1, .int .i64 (aheadL (ordG M) x.1), .map (some (w.heap.size + 1)), .agg #[.slice no nl nc, .slice ao n cap], .map (some B), .pointer (some ⟨r, 0, none⟩), .tuple #[.bool true, .int .i64 node, .slice ao1 N1 cap1], .bool true, .tuple #[.int .i64 node, .slice ao1 N1 cap1], .slice ao1 N1 cap1, .slice ao1 N1 cap1, .func (.func 171) #[] #[.pointer (some ⟨Bo, 0, none⟩), .pointer (some ⟨R, 0, none⟩)], .int .i64 ((ordG M).getD x.1 ld0).1, .int .i64 (aheadL (ordG M) x.1), undef, undef, undef, undef, undef], defers := [] }) ?assign ?body ?done ?stop
      case hI =>
        rintro s A B' row hs hg' hrow
        exact hs.turn (by omega) (by omega) (by omega) (by omega) hg' hrow
      case hIx =>
        rintro c s A B' row h
        exact h.elim
      case h0 => exact HI3.out
      case assign =>
        intro l x W K hK
        gi_wp2
        exact hK
      case stop => exact fun _ _ _ _ _ _ h => h.elim
      case body =>
        rintro l pre x W hI hlt'
        have hx2 := hmm x
        obtain ⟨z, hz⟩ : ∃ z, ((ordG M).getD x.1 ld0).1 = z := ⟨_, rfl⟩
        obtain ⟨a, ha⟩ : ∃ a, aheadL (ordG M) x.1 = a := ⟨_, rfl⟩
        have hzb : -1000000 ≤ z ∧ z ≤ 1000000 := by rw [← hz, HG.out]; exact HGW.out _ hx2
        obtain ⟨W2, hput, hI2, hg2'⟩ := hI.put hBnB (by omega) (by omega) (by omega) (k := -z) (by omega) (by omega) a
        have cb : W.cell? ⟨w.heap.size + 2, 0, none⟩ = some (.map (some (w.heap.size + 1))) := by have := hI.box; simp [World.cell?, this]
        have hneg : IntKind.i64.wrap (-z) = -z := by rw [IntKind.wrap_i64]; omega
        have hbg := hI.big
        have HEND := hid (show KeepsFrom w3.heap.size W W2 ∧ Kr Bo R b2 bo W W2 ∧ OnI w w1 (w.heap.size + 2) (w.heap.size + 1) B r (2 * n) w3.heap.size f (fun j => left j && !(j == node)) cnt' Ds (nxtG G (nxtL ys left) ((pre ++ [x]).map (·.1))) (N + (pre ++ [x]).length) W2 from ⟨KeepsFrom.of_grownBy hg2' (fun j e => by injection e with e; omega), ⟨hg2'.size, hg2'.block _ (by omega) (fun e => by injection e with e; omega), hg2'.block _ (by omega) (fun e => by injection e with e; omega), hg2'.block _ (by omega) (fun e => by injection e with e; omega), hg2'.block _ (by omega) (fun e => by injection e with e; omega)⟩, by
          rw [List.map_append, List.map_cons, List.map_nil, nxtG_snoc, List.length_append, ← HG.out, hz, ha]
          rw [← HG.out] at hI2
          exact hI2⟩)
        rw [hz, ha]
        clear hI hI2 hg2' hz ha hzb HI3 HRM HG HGL HGW HST
        gi_wp2
        exact HEND.out
      case done =>
        rintro D zs W hD hS hI hK
        rw [hS] at hI
        have hzl : zs.length = N1 := by
          have := congrArg List.length hS
          rwa [List.length_map, List.length_range] at this
        rw [hzl] at hI
        have hDW : D < W.heap.size := lt_of_heap hK
        have HFIN := hid (show OnI w w1 (w.heap.size + 2) (w.heap.size + 1) B r (2 * n) (D + 1) f (fun j => left j && !(j == node)) cnt' (D :: Ds) (nxtL ys fun j => left j && !(j == node)) (N + N1) W from ⟨hI.box, hI.map.congr fun k _ _ => by rw [HST.out k], hI.rng, hI.keep, fun E hE => by
          rcases List.mem_cons.1 hE with rfl | hE
          · exact ⟨by omega, by omega, hK⟩
          · obtain ⟨d1, d2, d3⟩ := hI.ds E hE
            exact ⟨d1, by omega, d3⟩, hI.below, hDW⟩)
        have HND := hid (show (D :: Ds).Nodup from List.nodup_cons.2 ⟨fun hE => by have := (hI.ds D hE).2.1; omega, hnd⟩)
        clear hI hK hS hzl HI3 HRM HG HGL HGW HST
        gi_wp2
        refine ⟨⟨_, cnt', D :: Ds, N + N1, D + 1, _, _, _, _, _, _, _, rfl, HFIN.out, HND.out, by omega, by omega, by omega⟩, ?_⟩
        rw [HFIN.out.rng.cnt]
        exact hlt
theorem onward_any {w : World} {b off n cap : Nat} {ao : Option Addr} {xs : List ER} {ls : List (List Pp)} (h : PlE w b off n ao xs ls) (no : Option Addr) (nl nc : Nat) :
    Calls Tryz.prog 115 #[plV (.slice no nl nc) (.slice ao n cap)] w fun e w' => ∃ B N, e = .returned (.map (some B)) ∧ MapV w' B N (fun k => (nxtF (allLd xs ls) k).map (Value.int .i64)) ∧ N ≤ 100000 ∧ w.heap.size ≤ B ∧ Below w.heap.size w w' :=
  callsIn_wide.1 (onward_in h no nl nc)
end Go.Proofs.YtkdnkmheidbfdaaGreat
