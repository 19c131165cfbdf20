/-
  Layer 17: a row of edges of the call's own; a plan of the call's own.
-/
import Derived.Test.YtkdnkmheidbfdaaGreatMW
import Derived.Test.YtkdnkmheidbfdaaGreatN4
import Derived.Deep.RegionWith
namespace Go.Proofs.YtkdnkmheidbfdaaGreat
open Go.RowKit Go.Shelf Go.Sort Go.Maps

/-- A row of edges that the call itself made. -/
def ErRow (w : World) (base : Nat) (v : Value) (xs : List ER) : Prop := w.ownsRow base 29 6 v xs.length (ecs xs)
theorem ErRow.below {w w' : World} {base : Nat} {v : Value} {xs : List ER} (h : ErRow w base v xs) (hb : Below w.heap.size w w') : ErRow w' base v xs := by
  refine ⟨h.1, ?_⟩
  rcases h.2 with h0 | ⟨g, cap, cur, h1, h2, h3, h4⟩
  · exact .inl h0
  · exact .inr ⟨g, cap, cur, h1, h2, (hb.block g (lt_of_heap h3)).trans h3, h4⟩
theorem ErRow.form {w : World} {base : Nat} {v : Value} {xs : List ER} (h : ErRow w base v xs) : ∃ ao cap, v = .slice ao xs.length cap ∧ xs.length ≤ cap ∧ (1 ≤ xs.length → ∃ g, ao = some ⟨g, 0, none⟩ ∧ base ≤ g ∧ g < w.heap.size) := by
  rcases h.2 with ⟨rfl, h0⟩ | ⟨g, cap, cur, rfl, h1, h2, h3, _⟩
  · exact ⟨none, 0, by rw [h0], by omega, fun h => by omega⟩
  · exact ⟨_, cap, rfl, h3, fun _ => ⟨g, rfl, h1, lt_of_heap h2⟩⟩
theorem ErRow.nil (w : World) (base : Nat) : ErRow w base (.slice none 0 0) [] := World.ownsRow_nil w base _ 6
theorem ErRow.toBase {w : World} {base base' : Nat} {v : Value} {xs : List ER} (h : ErRow w base v xs) (hb : base' ≤ base) : ErRow w base' v xs := by
  refine ⟨h.1, ?_⟩
  rcases h.2 with h0 | ⟨g, cap, cur, h1, h2, h3, h4⟩
  · exact .inl h0
  · exact .inr ⟨g, cap, cur, h1, Nat.le_trans hb h2, h3, h4⟩
theorem ErRow.lt {w : World} {base : Nat} {v : Value} {xs : List ER} (h : ErRow w base v xs) {k : Nat} (hk : v.ownBlock = some k) : k < w.heap.size ∧ base ≤ k := by
  rcases h.2 with ⟨rfl, h0⟩ | ⟨g, cap, cur, rfl, h1, h2, _⟩
  · cases hk
  · cases hk
    exact ⟨lt_of_heap h2, h1⟩
theorem ErRow.same {w w' : World} {base : Nat} {v : Value} {xs : List ER} (h : ErRow w base v xs) (hk : ∀ g, v.ownBlock = some g → w'.heap[g]? = w.heap[g]?) : ErRow w' base v xs := by
  refine ⟨h.1, ?_⟩
  rcases h.2 with h0 | ⟨g, cap, cur, rfl, h2, h3, h4⟩
  · exact .inl h0
  · exact .inr ⟨g, cap, cur, rfl, h2, (hk g rfl).trans h3, h4⟩
/-- An edge whose line lies elsewhere. -/
def withLine (x : ER) (lo : Option Addr) (ll lc : Nat) : ER := ⟨x.id, x.st, x.en, lo, ll, lc, x.lf, x.rt⟩
theorem ecs_set : ∀ (xs : List ER) (k : Nat) (x : ER) (lo : Option Addr) (ll lc : Nat), xs[k]? = some x → ecs (xs.set k (withLine x lo ll lc)) = (ecs xs).set (k * 6 + 3) (.slice lo ll lc)
  | [], k, x, _, _, _, h => by simp at h
  | y :: xs, 0, x, lo, ll, lc, h => by
    simp at h
    subst h
    rfl
  | y :: xs, k + 1, x, lo, ll, lc, h => by
    have h' := ecs_set xs k x lo ll lc (by simpa using h)
    have e : ∀ (r : ER) (rs : List ER), ecs (r :: rs) = .int .i64 r.id :: .int .i64 r.st :: .int .i64 r.en :: .slice r.lo r.ll r.lc :: .int .i64 r.lf :: .int .i64 r.rt :: ecs rs := fun _ _ => rfl
    rw [List.set_cons_succ, e, e, h', show (k + 1) * 6 + 3 = k * 6 + 3 + 1 + 1 + 1 + 1 + 1 + 1 by omega, List.set_cons_succ, List.set_cons_succ, List.set_cons_succ, List.set_cons_succ, List.set_cons_succ, List.set_cons_succ]
theorem ErRow.setLine {w : World} {base g n cap : Nat} {xs : List ER} (h : ErRow w base (.slice (some ⟨g, 0, none⟩) n cap) xs) (hn : xs.length = n) {k : Nat} {x : ER} (hx : xs[k]? = some x) (lo : Option Addr) (ll lc : Nat) :
    ErRow (w.setCell ⟨g, k * 6 + 3, none⟩ (.slice lo ll lc)) base (.slice (some ⟨g, 0, none⟩) n cap) (xs.set k (withLine x lo ll lc)) := by
  subst hn
  have h' : w.ownsRow base 29 6 (.slice (some ⟨g, 0, none⟩) xs.length cap) xs.length (ecs xs) := h
  have h2 := (h'.stored (k * 6 + 3) (.slice lo ll lc)).1
  unfold ErRow
  rw [List.length_set, ecs_set xs k x _ _ _ hx]
  exact h2
theorem ErRow.frz {w : World} {base g n cap : Nat} {xs : List ER} (h : ErRow w base (.slice (some ⟨g, 0, none⟩) n cap) xs) (hn : xs.length = n) (j : Nat) : w.frozen? ⟨g, j, none⟩ = false := by
  subst hn
  have h' : w.ownsRow base 29 6 (.slice (some ⟨g, 0, none⟩) xs.length cap) xs.length (ecs xs) := h
  exact h'.frozenAt j
theorem ErRow.eats {w : World} {base g n cap : Nat} {xs : List ER} (h : ErRow w base (.slice (some ⟨g, 0, none⟩) n cap) xs) (hn : xs.length = n) : EAts w g 0 xs := by
  subst hn
  exact EAts.of_own h rfl

/-- What is plain of a plan's edges. -/
structure PlC (xs : List ER) (ls : List (List Pp)) : Prop where
  few : xs.length ≤ 400
  deg : ∀ k, (grp ((List.range (2 * xs.length)).map (ldT xs ls)) k).length ≤ 60
  rise : Rise xs
  ids : ∀ x ∈ xs, 1 ≤ x.id ∧ x.id ≤ 1000000
  nodes : ∀ x ∈ xs, -1000000 ≤ x.st ∧ x.st ≤ 1000000 ∧ -1000000 ≤ x.en ∧ x.en ≤ 1000000
  short : ∀ k, (ls.getD k []).length ≤ 1000
theorem PlE.plc {w : World} {b off n : Nat} {ao : Option Addr} {xs : List ER} {ls : List (List Pp)} (h : PlE w b off n ao xs ls) : PlC xs ls := by
  have hl := h.len
  subst hl
  exact ⟨h.few, h.deg, h.rise, h.ids, h.nodes, h.short⟩
/-- Where the lines of edges lie. -/
def Lns (w : World) (xs : List ER) (ls : List (List Pp)) : Prop := ∀ (k : Nat) (x : ER), xs[k]? = some x → Src w (.slice x.lo x.ll x.lc) (ls.getD k []) ∧ ∀ a, x.lo = some a → ∃ c f, w.heap[a.block]? = some (.cells c 23 f)
theorem Lns.keep {w w' : World} {xs : List ER} {ls : List (List Pp)} (h : Lns w xs ls) (hk : ∀ (k : Nat) (c : Array Value) (f : Nat × Nat), w.heap[k]? = some (.cells c 23 f) → w'.heap[k]? = w.heap[k]?) : Lns w' xs ls := fun k x hx => by
  obtain ⟨h1, h2⟩ := h k x hx
  refine ⟨h1.block fun a ha => ?_, fun a ha => ?_⟩
  · obtain ⟨c, f, hc⟩ := h2 a ha
    exact hk _ c f hc
  · obtain ⟨c, f, hc⟩ := h2 a ha
    exact ⟨c, f, (hk _ c f hc).trans hc⟩
/-- A plan of the call's own: its nodes, its edges, and where their lines lie. -/
structure PlO (w : World) (base : Nat) (nv ev : Value) (ns : List NR) (xs : List ER) (ls : List (List Pp)) : Prop where
  nodes : NdRow w base nv ns
  edges : ErRow w base ev xs
  lines : Lns w xs ls
theorem PlO.below {w w' : World} {base : Nat} {nv ev : Value} {ns : List NR} {xs : List ER} {ls : List (List Pp)} (h : PlO w base nv ev ns xs ls) (hb : Below w.heap.size w w') : PlO w' base nv ev ns xs ls :=
  ⟨h.nodes.below hb, h.edges.below hb, h.lines.keep fun k _c _f hk => hb.block k (lt_of_heap hk)⟩
theorem PlO.toBase {w : World} {base base' : Nat} {nv ev : Value} {ns : List NR} {xs : List ER} {ls : List (List Pp)} (h : PlO w base nv ev ns xs ls) (hb : base' ≤ base) : PlO w base' nv ev ns xs ls :=
  ⟨h.nodes.toBase hb, h.edges.toBase hb, h.lines⟩
/-- Whatever is no row of nodes of the call's own is kept. -/
theorem PlO.nodeStep {w w' : World} {base : Nat} {nv nv' ev : Value} {ns ns' : List NR} {xs : List ER} {ls : List (List Pp)} (h : PlO w base nv ev ns xs ls) (hk : ∀ k, k < w.heap.size → nv.ownBlock ≠ some k → w'.heap[k]? = w.heap[k]?) (hn : NdRow w' base nv' ns') : PlO w' base nv' ev ns' xs ls := by
  have hty : ∀ (k : Nat) (c : Array Value) (t : TypeId) (f : Nat × Nat), w.heap[k]? = some (.cells c t f) → t ≠ 25 → w'.heap[k]? = w.heap[k]? := fun k c t f hc ht => by
    refine hk k (lt_of_heap hc) fun e => ?_
    obtain ⟨_, c', hc'⟩ := own_block h.nodes k e
    rw [hc] at hc'
    injection hc' with hc'
    injection hc' with _ e2 _
    exact ht e2
  refine ⟨hn, h.edges.same fun g hg => ?_, h.lines.keep fun k c f hc => hty k c _ f hc (by decide)⟩
  obtain ⟨_, c', hc'⟩ := own_block h.edges g hg
  exact hty g c' _ _ hc' (by decide)
theorem PlO.same {w w' : World} {base : Nat} {nv ev : Value} {ns : List NR} {xs : List ER} {ls : List (List Pp)} (h : PlO w base nv ev ns xs ls) (hk : ∀ (k : Nat) (c : Array Value) (t : TypeId) (f : Nat × Nat), w.heap[k]? = some (.cells c t f) → t ≠ 32 → w'.heap[k]? = w.heap[k]?) : PlO w' base nv ev ns xs ls := by
  refine ⟨h.nodes.same fun g hg => ?_, h.edges.same fun g hg => ?_, h.lines.keep fun k c f hc => hk k c _ f hc (by decide)⟩
  · obtain ⟨_, c', hc'⟩ := own_block h.nodes g hg
    exact hk g c' _ _ hc' (by decide)
  · obtain ⟨_, c', hc'⟩ := own_block h.edges g hg
    exact hk g c' _ _ hc' (by decide)
/-- What plan's and face's calls take. -/
theorem PlO.ends {w : World} {base : Nat} {nv ev : Value} {ns : List NR} {xs : List ER} {ls : List (List Pp)} (h : PlO w base nv ev ns xs ls) (hc : PlC xs ls) (hx : 1 ≤ xs.length) (hl : ns.length ≤ 1000) :
    ∃ b ao cap nb no nc, ev = .slice ao xs.length cap ∧ nv = .slice no ns.length nc ∧ PlE w b 0 xs.length ao xs ls ∧ NdE w nb 0 ns.length no ns := by
  obtain ⟨nb, no, nc, hno, hnd⟩ := h.nodes.nde hl
  rcases h.edges.2 with ⟨_, h0⟩ | ⟨g, cap, cur, rfl, hg1, hg2, hg3⟩
  · omega
  · exact ⟨g, _, cap, nb, no, nc, rfl, hno, ⟨rfl, hc.few, hc.deg, ErRow.eats h.edges rfl, hc.rise, fun _ => rfl, fun e => (by omega), hc.ids, hc.nodes, hc.short, h.lines⟩, hnd⟩

/-- The same edges, but for where their lines lie. -/
def bareF (x : ER) : ER := withLine x none 0 0
theorem bare_of {xs ys : List ER} (h : ys.map bareF = xs.map bareF) : ys.map bare = xs.map bare := by
  have q : ∀ l : List ER, l.map bare = (l.map bareF).map bare := fun l => by rw [List.map_map]; rfl
  rw [q ys, h, ← q xs]
theorem PlC.same {xs ys : List ER} {ls : List (List Pp)} (h : PlC xs ls) (he : ys.map bareF = xs.map bareF) : PlC ys ls := by
  have hl : ys.length = xs.length := by simpa using congrArg List.length he
  have hat : ∀ (k : Nat) (y : ER), ys[k]? = some y → ∃ x, xs[k]? = some x ∧ bareF x = bareF y := fun k y hy => by
    have e : (ys.map bareF)[k]? = some (bareF y) := by rw [List.getElem?_map, hy]; rfl
    rw [he, List.getElem?_map] at e
    cases hx : xs[k]? with
    | none => rw [hx] at e; cases e
    | some x => rw [hx] at e; exact ⟨x, rfl, Option.some.inj e⟩
  have hld : (List.range (2 * ys.length)).map (ldT ys ls) = (List.range (2 * xs.length)).map (ldT xs ls) := by
    have q := allLd_bare ys ls
    rw [bare_of he, allLd_bare] at q
    exact q.symm
  have hm : ∀ y ∈ ys, ∃ x ∈ xs, bareF x = bareF y := fun y hy => by
    obtain ⟨k, hk⟩ := List.mem_iff_getElem?.1 hy
    obtain ⟨x, hx, e⟩ := hat k y hk
    exact ⟨x, List.mem_iff_getElem?.2 ⟨k, hx⟩, e⟩
  refine ⟨by rw [hl]; exact h.few, fun k => by rw [hld]; exact h.deg k, fun i j x y hij hx hy => ?_, fun y hy => ?_, fun y hy => ?_, h.short⟩
  · obtain ⟨x', hx', e1⟩ := hat i x hx
    obtain ⟨y', hy', e2⟩ := hat j y hy
    have q := h.rise i j x' y' hij hx' hy'
    rw [show x'.id = x.id from (by have q := congrArg ER.id e1; exact q), show y'.id = y.id from (by have q := congrArg ER.id e2; exact q)] at q
    exact q
  · obtain ⟨x, hx, e⟩ := hm y hy
    have q := h.ids x hx
    rw [show x.id = y.id from (by have q := congrArg ER.id e; exact q)] at q
    exact q
  · obtain ⟨x, hx, e⟩ := hm y hy
    have q := h.nodes x hx
    rw [show x.st = y.st from (by have q := congrArg ER.st e; exact q), show x.en = y.en from (by have q := congrArg ER.en e; exact q)] at q
    exact q

set_option maxRecDepth 100000 in
set_option maxHeartbeats 1600000 in
theorem cloneE_row {w : World} {b off n cap : Nat} {xs : List ER} (hn : xs.length = n) (hl : n ≤ 100000) (h : EAts w b off xs) {ao : Option Addr} (hao : 1 ≤ n → ao = some ⟨b, off, none⟩) (h0 : n = 0 → ao = none) :
    Calls Tryz.prog 38 #[.slice ao n cap] w fun e w' => (∃ v', e = .returned v' ∧ ErRow w' w.heap.size v' xs) ∧ Below w.heap.size w w' := by
  have hnil : ∀ (wx : World) (a : Option Addr) (n c : Nat), (binOp .eql 30 (.slice a n c) (.slice none 0 0)).run Tryz.prog wx = .ok (.bool a.isNone) wx := fun wx a n c => Lib.run_eql_slice_nil wx _ _ a n c 0 0 Tryz.underlying30
  by_cases hz : n = 0
  · obtain rfl := h0 hz
    subst hz
    obtain rfl : xs = [] := List.eq_nil_of_length_eq_zero hn
    go_enter Tryz.func38, Tryz.ntmps38
    go_wp2
    go_ret
    exact ⟨⟨_, rfl, ErRow.nil _ _⟩, Below.refl _ _⟩
  · obtain rfl := hao (by omega)
    obtain ⟨i0, hi, hz0, hz1, hz2⟩ := info_parts infoEd
    have hb0 : Below w.heap.size w (w.alloc (.cells #[] 29)) := (Below.refl _ _).alloc (Nat.le_refl _) _
    have hcells : ∀ j u, (ecs xs)[j]? = some u → (w.alloc (.cells #[] 29)).cell? ((⟨b, off, none⟩ : Addr).add j) = some u := fun j u hu => by
      have h1 := h.cells j u hu
      exact (hb0.cell (World.block_lt_of_cell? w _ h1)).trans h1
    have hown : (w.alloc (.cells #[] 29)).ownsRow w.heap.size 29 6 (.slice (some ⟨w.heap.size, 0, none⟩) 0 0) 0 [] := World.ownsRow_lit w #[] 0 (Nat.le_refl _) (by unfold maxLen; omega) (by simp)
    have hlen' : (ecs xs).length = n * 6 := by rw [ecs_len, hn]
    have HOW := hid hown
    have HCE := hid hcells
    have HN := hid hn
    clear hown hcells hn
    go_enter Tryz.func38, Tryz.ntmps38
    go_wp2_with (at_builtin; refine wpList_append_own _ rfl (.tmp 5) (.tmp 6) 30 rfl w.heap.size 29 i0 _ 6 64 Tryz.underlying30 hi hz0 hz1 hz2 rfl (by decide) (.slice (some ⟨w.heap.size, 0, none⟩) 0 0) 0 [] rfl HOW.out ⟨b, off, none⟩ n cap (ecs xs) rfl hlen' HCE.out ecs_one (by unfold maxLen; omega) (by omega) (by simp) ?_; intro v2 w2 hown2 hgrow2 _; have hB2 : Below w.heap.size w w2 := hb0.grown hgrow2 (by simp) (fun k hk => (HOW.out.lt k hk).1); have HO2 := hid hown2; clear hown2 hgrow2)
    go_ret
    have ho := HO2.out
    rw [Nat.zero_add, List.nil_append] at ho
    have hlx := HN.out
    refine ⟨⟨_, rfl, ?_⟩, hB2⟩
    unfold ErRow
    rw [hlx]
    exact ho
end Go.Proofs.YtkdnkmheidbfdaaGreat

namespace Go.Proofs.YtkdnkmheidbfdaaGreat
open Go.RowKit Go.Shelf Go.Sort Go.Maps

theorem er_box {W : World} {b : Nat} {x : ER} (h : W.heap[b]? = some (erO x)) : (W.cell? ⟨b, 0, none⟩ = some (.int .i64 x.id) ∧ W.cell? ⟨b, 1, none⟩ = some (.int .i64 x.st) ∧ W.cell? ⟨b, 2, none⟩ = some (.int .i64 x.en) ∧ W.cell? ⟨b, 3, none⟩ = some (.slice x.lo x.ll x.lc) ∧ W.cell? ⟨b, 4, none⟩ = some (.int .i64 x.lf) ∧ W.cell? ⟨b, 5, none⟩ = some (.int .i64 x.rt)) ∧ ∀ j, W.frozen? ⟨b, j, none⟩ = false := by
  refine ⟨⟨?_, ?_, ?_, ?_, ?_, ?_⟩, fun j => ?_⟩ <;> simp [World.cell?, World.frozen?, h]
theorem PtRow.typed {w w' : World} {base : Nat} {v : Value} {ps : List Pp} (h : PtRow w base v ps) (hk : ∀ (k : Nat) (c : Array Value), w.heap[k]? = some (.cells c 23 (0, 0)) → w'.heap[k]? = w.heap[k]?) : PtRow w' base v ps := own_keep h hk
/-- The box of an edge of noughts. -/
abbrev zeO : Obj := .cells #[.int .i64 0, .int .i64 0, .int .i64 0, .slice none 0 0, .int .i64 0, .int .i64 0] 29 (0, 0)

set_option maxRecDepth 100000 in
set_option maxHeartbeats 3200000 in
theorem planEdge_found {w : World} {b off n cap : Nat} {ao : Option Addr} {xs : List ER} {ls : List (List Pp)} (h : PlE w b off n ao xs ls) (no : Option Addr) (nl nc : Nat) {id : Int} {k : Nat} {x : ER} (hk : xs[k]? = some x) (hf : fstE id xs = some x) :
    Calls Tryz.prog 20 #[plV (.slice no nl nc) (.slice ao n cap), .int .i64 id] w fun e w' => (∃ uo ul uc, e = .returned (.tuple #[erV (withLine x uo ul uc), .bool true]) ∧ PtRow w' w.heap.size (.slice uo ul uc) (ls.getD k [])) ∧ Below w.heap.size w w' := by
  obtain ⟨wP, hwP⟩ : ∃ wP, w.alloc (.cells #[.slice no nl nc, .slice ao n cap] 32) = wP := ⟨_, rfl⟩
  have hbP : Below w.heap.size w wP := by rw [← hwP]; exact (Below.refl _ w).alloc (Nat.le_refl _) _
  have hhP : wP.heap[w.heap.size]? = some (.cells #[.slice no nl nc, .slice ao n cap] 32 (0, 0)) := by rw [← hwP]; exact World.alloc_heap_new w _
  obtain ⟨wR, hwR⟩ : ∃ wR, wP.alloc zeO = wR := ⟨_, rfl⟩
  have hbR : Below wP.heap.size wP wR := by rw [← hwR]; exact (Below.refl _ wP).alloc (Nat.le_refl _) _
  have hhR : wR.heap[wP.heap.size]? = some zeO := by rw [← hwR]; exact World.alloc_heap_new wP _
  have l1 : w.heap.size < wP.heap.size := lt_of_heap hhP
  have l2 : wP.heap.size < wR.heap.size := lt_of_heap hhR
  have hhP' := (hbR.block _ l1).trans hhP
  have hbw : Below w.heap.size w wR := hbP.trans (hbR.mono hbP.size)
  obtain ⟨c0, c1, _, _⟩ := box2_cell hhP'
  have hcl := h.cells.belowAll hbw
  have HF := hid (first_any (cap := cap) h.len (by have := h.few; omega) hcl h.at' no nl nc id)
  rw [hf] at HF
  have hsr := (h.lines k x hk).1
  have hsh := h.short k
  generalize ls.getD k [] = L at hsr hsh ⊢
  have HC := hid (fun W (hW : Below w.heap.size w W) => clone_any (.slice x.lo x.ll x.lc) L W (hsr.below hW) (by omega))
  have HB := hid (And.intro hbw (And.intro hhR (And.intro l1 l2)))
  clear h hbP hhP hbR hhR hhP' hbw hcl hsr hf hk
  go_enter Tryz.func20, Tryz.ntmps20
  go_wp2_with (first
    | (go_at_call 45; refine HF.out.mono ?_; rintro e w1 ⟨rfl, hb1⟩; have hV := er_box (World.alloc_heap_new w1 (erO x)); obtain ⟨⟨a0, a1, a2, a3, a4, a5⟩, af⟩ := hV; have H1 := hid hb1; clear hb1 HF)
    | (go_at_call 39; refine (HC.out (w1.alloc (erO x)) ((HB.out.1.trans (H1.out.mono HB.out.1.size)).alloc (Nat.le_trans HB.out.1.size H1.out.size) _)).mono ?_; rintro e w2 ⟨⟨u, rfl, hu⟩, hb2⟩; obtain ⟨uo, uc, hue⟩ := hu.form; subst hue; have hE2 := (hb2.block w1.heap.size (by simp)).trans (World.alloc_heap_new w1 (erO x)); have hbA : Below wR.heap.size wR (w1.alloc (erO x)) := H1.out.alloc H1.out.size _; have hZ2 := (hb2.block wP.heap.size (Nat.lt_of_lt_of_le HB.out.2.2.2 hbA.size)).trans ((hbA.block _ HB.out.2.2.2).trans HB.out.2.1); obtain ⟨⟨y0, y1, y2, y3, y4, y5⟩, yf⟩ := er_box hE2; obtain ⟨⟨z0, z1, z2, z3, z4, z5⟩, zf⟩ := er_box (x := ⟨0, 0, 0, none, 0, 0, 0, 0⟩) hZ2; have e1 : ¬ w1.heap.size = wP.heap.size := (by have q1 := H1.out.size; have q2 := HB.out.2.2.2; omega); have e2 : ¬ wP.heap.size = w1.heap.size := (fun e => e1 e.symm); have H2 := hid (And.intro hu (And.intro (HB.out.1.trans ((hbA.trans (hb2.mono hbA.size)).mono HB.out.1.size)) (And.intro hE2 hZ2))); clear HC hu hb2 hE2 hZ2 hbA))
  obtain ⟨hu, hb2, hE2, hZ2⟩ := H2.out
  obtain ⟨V2, hV2⟩ : ∃ V2, w2.setCell ⟨w1.heap.size, 3, none⟩ (.slice uo L.length uc) = V2 := ⟨_, rfl⟩
  rw [hV2]
  have hs1 := H1.out.size
  have hsw : w.heap.size ≤ w1.heap.size := Nat.le_trans HB.out.1.size hs1
  have hbV2 : Below w.heap.size w V2 := by rw [← hV2]; exact hb2.setCell hsw _
  have hO : ∀ k, k ≠ w1.heap.size → V2.heap[k]? = w2.heap[k]? := fun k hk => by rw [← hV2]; exact Below.heap_setCell _ _ _ k hk
  have hZV := (hO _ e2).trans hZ2
  generalize hV3 : World.setCell _ _ _ = V3
  obtain ⟨⟨r0, r1, r2, r3, r4, r5⟩, hbV, _⟩ := eset (withLine x uo L.length uc) hZV hbV2 (Nat.le_of_lt l1) hV3
  have hO3 : ∀ k, k ≠ wP.heap.size → V3.heap[k]? = V2.heap[k]? := fun k hk => by
    rw [← hV3]
    exact (Below.heap_setCell _ _ _ k hk).trans ((Below.heap_setCell _ _ _ k hk).trans ((Below.heap_setCell _ _ _ k hk).trans ((Below.heap_setCell _ _ _ k hk).trans ((Below.heap_setCell _ _ _ k hk).trans (Below.heap_setCell _ _ _ k hk)))))
  have hlt : ∀ (g : Nat) (c : Array Value), w2.heap[g]? = some (.cells c 23 (0, 0)) → V3.heap[g]? = w2.heap[g]? := fun g c hc => by
    refine (hO3 g fun e => ?_).trans (hO g fun e => ?_)
    · subst e; rw [hZ2] at hc; injection hc with hc; injection hc with _ q _; exact absurd q (by decide)
    · subst e; rw [hE2] at hc; injection hc with hc; injection hc with _ q _; exact absurd q (by decide)
  refine bodyPost_ret (v := .tuple #[erV (withLine x uo L.length uc), .bool true]) (by simp [results, Tryz.results20, go_sem, r0, r1, r2, r3, r4, r5]) rfl ?_
  exact ⟨⟨uo, L.length, uc, rfl, (hu.typed hlt).base (by simp; omega)⟩, hbV⟩

set_option maxRecDepth 100000 in
set_option maxHeartbeats 1600000 in
theorem left_found {w : World} {b off n cap : Nat} {ao : Option Addr} {xs : List ER} {ls : List (List Pp)} (h : PlE w b off n ao xs ls) (no : Option Addr) (nl nc : Nat) {way : Int} {k : Nat} {x : ER} (hk : xs[k]? = some x) (hf : fstE way xs = some x) :
    Calls Tryz.prog 62 #[plV (.slice no nl nc) (.slice ao n cap), .int .i64 way] w fun e w' => e = .returned (.int .i64 x.lf) ∧ Below w.heap.size w w' := by
  obtain ⟨wP, hwP⟩ : ∃ wP, w.alloc (.cells #[.slice no nl nc, .slice ao n cap] 32) = wP := ⟨_, rfl⟩
  have hbP : Below w.heap.size w wP := by rw [← hwP]; exact (Below.refl _ w).alloc (Nat.le_refl _) _
  have hhP : wP.heap[w.heap.size]? = some (.cells #[.slice no nl nc, .slice ao n cap] 32 (0, 0)) := by rw [← hwP]; exact World.alloc_heap_new w _
  obtain ⟨c0, c1, _, _⟩ := box2_cell hhP
  have HE := hid (planEdge_found (cap := cap) (h.below hbP) no nl nc hk hf)
  have HB := hid hbP
  clear h hbP hhP hk hf
  go_enter Tryz.func62, Tryz.ntmps62
  go_wp2_with (go_at_call 20; refine HE.out.mono ?_; rintro e w1 ⟨⟨uo, ul, uc, rfl, _⟩, hb1⟩; obtain ⟨⟨a0, a1, a2, a3, a4, a5⟩, af⟩ := er_box (World.alloc_heap_new w1 (erO (withLine x uo ul uc))); have H1 := hid (HB.out.trans (hb1.mono HB.out.size)); clear HE hb1)
  go_ret
  exact ⟨rfl, by first | exact H1.out | exact H1.out.alloc H1.out.size _⟩
end Go.Proofs.YtkdnkmheidbfdaaGreat

namespace Go.Proofs.YtkdnkmheidbfdaaGreat
open Go.RowKit Go.Shelf Go.Sort Go.Maps

set_option maxRecDepth 100000 in
set_option maxHeartbeats 1600000 in
theorem faceOf_some {w : World} {b off n cap : Nat} {ao : Option Addr} {xs : List ER} {ls : List (List Pp)} (h : PlE w b off n ao xs ls) (no : Option Addr) (nl nc : Nat) {way : Int} {k : Nat} {x : ER} (hk : xs[k]? = some x) (hf : fstE way xs = some x) {g c : Nat} (iv nv : Value) (hg : w.cell? ⟨g, 0, none⟩ = some (.int .i64 way)) :
    Calls Tryz.prog 30 #[plV (.slice no nl nc) (.slice ao n cap), .agg #[.slice (some ⟨g, 0, none⟩) 1 c, iv, nv]] w fun e w' => e = .returned (.int .i64 x.lf) ∧ Below w.heap.size w w' := by
  obtain ⟨wP, hwP⟩ : ∃ wP, w.alloc (.cells #[.slice no nl nc, .slice ao n cap] 32) = wP := ⟨_, rfl⟩
  have hbP : Below w.heap.size w wP := by rw [← hwP]; exact (Below.refl _ w).alloc (Nat.le_refl _) _
  have hhP : wP.heap[w.heap.size]? = some (.cells #[.slice no nl nc, .slice ao n cap] 32 (0, 0)) := by rw [← hwP]; exact World.alloc_heap_new w _
  obtain ⟨wQ, hwQ⟩ : ∃ wQ, wP.alloc (.cells #[.slice (some ⟨g, 0, none⟩) 1 c, iv, nv] 67) = wQ := ⟨_, rfl⟩
  have hbQ : Below wP.heap.size wP wQ := by rw [← hwQ]; exact (Below.refl _ wP).alloc (Nat.le_refl _) _
  have hhQ : wQ.heap[wP.heap.size]? = some (.cells #[.slice (some ⟨g, 0, none⟩) 1 c, iv, nv] 67 (0, 0)) := by rw [← hwQ]; exact World.alloc_heap_new wP _
  have q0 : wQ.cell? ⟨wP.heap.size, 0, none⟩ = some (.slice (some ⟨g, 0, none⟩) 1 c) := by simp [World.cell?, hhQ]
  have hbw := hbP.trans (hbQ.mono hbP.size)
  obtain ⟨c0, c1, _, _⟩ := box2_cell ((hbQ.block _ (lt_of_heap hhP)).trans hhP)
  have g0 := cell_below hg hbw (lt_of_cell hg)
  have HB := hid hbw
  have HL := hid (fun W (hW : Below wQ.heap.size wQ W) => left_found (cap := cap) (h.below (hbw.trans (hW.mono hbw.size))) no nl nc hk hf)
  clear hbP hbQ hhQ hhP h hk hf hg hbw
  go_enter Tryz.func30, Tryz.ntmps30
  go_wp2
  go_region_with (go_at_call 62; refine (HL.out _ (Below.refl _ wQ).drew).mono ?_; rintro e w1 ⟨rfl, hb1⟩; have H1 := hid (HB.out.trans (((Below.refl _ wQ).drew.trans hb1).mono HB.out.size)); clear HL hb1)
  all_goals (go_wp2; go_ret; exact ⟨rfl, H1.out⟩)

/-- The face at a point, as the edges tell it. -/
def FaceIs (xs : List ER) (ls : List (List Pp)) (q : Pp) (M : Nat) (F : Int) : Prop := ∃ k : Nat, leastP (fun _ => true) q (outersL xs ls) = (k : Int) ∧ k < M + 1 ∧
  (((rgsF id (outersL xs ls) (bordersL xs ls)).1 k = none ∧ F = 0) ∨ ∃ (b : BP) (a : Int) (x : ER), (rgsF id (outersL xs ls) (bordersL xs ls)).1 k = some b ∧ b.ways = [a] ∧ fstE a xs = some x ∧ F = x.lf)
theorem fstE_bareF (id : Int) (xs : List ER) : fstE id (xs.map bareF) = (fstE id xs).map bareF := by
  unfold fstE
  rw [List.find?_map]
  rfl
/-- What is asked of a plan's rings. -/
structure PlF (xs : List ER) (ls : List (List Pp)) (M : Nat) : Prop where
  pts : ∀ r ∈ ringsL xs ls, (ringPtsF xs ls r).length ≤ 4096
  out : ((bordersL xs ls).filter BP.out).length = M
  few : M ≤ 19
theorem PlF.same {xs ys : List ER} {ls : List (List Pp)} {M : Nat} (h : PlF xs ls M) (he : ys.map bareF = xs.map bareF) : PlF ys ls M := by
  have e := bare_of he
  refine ⟨fun r hr => ?_, ?_, h.few⟩
  · rw [← ringsL_bare, e, ringsL_bare] at hr
    rw [← ringPtsF_bare, e, ringPtsF_bare]
    exact h.pts r hr
  · rw [← bordersL_bare, e, bordersL_bare]
    exact h.out
theorem FaceIs.same {xs ys : List ER} {ls : List (List Pp)} {q : Pp} {M : Nat} {F : Int} (h : FaceIs xs ls q M F) (he : ys.map bareF = xs.map bareF) : FaceIs ys ls q M F := by
  have e := bare_of he
  have e1 : outersL ys ls = outersL xs ls := by rw [← outersL_bare, e, outersL_bare]
  have e2 : bordersL ys ls = bordersL xs ls := by rw [← bordersL_bare, e, bordersL_bare]
  unfold FaceIs
  rw [e1, e2]
  obtain ⟨k, h1, h2, h3⟩ := h
  refine ⟨k, h1, h2, h3.imp_right ?_⟩
  rintro ⟨b, a, x, hb, hw, hf, hx⟩
  have q1 := fstE_bareF a ys
  rw [he, fstE_bareF, hf] at q1
  obtain ⟨y, hy, hxy⟩ : ∃ y, fstE a ys = some y ∧ bareF y = bareF x := by
    cases hy : fstE a ys with
    | none => rw [hy] at q1; cases q1
    | some y => rw [hy] at q1; exact ⟨y, rfl, (Option.some.inj q1).symm⟩
  exact ⟨b, a, y, hb, hw, hy, hx.trans (show x.lf = y.lf from (by have q := congrArg ER.lf hxy; exact q.symm))⟩
/-- A region without an outer ring, as it lies in memory. -/
theorem rg_bare {wS W : World} {G m : Nat} {IV NV : Nat → Value} {zs : List Zb} {bs os : List BP} {nd : Nat → List Int} (hzs : zs.map (·.2) = bs) (hI : RgI wS G m (rgsF (·.2) os zs).1 IV NV (rgsF (·.2) os zs).2 nd W) {k : Nat} (hk : k < m) (hb : (rgsF id os bs).1 k = none) :
    W.cell? ⟨G, k * 3, none⟩ = some (.slice none 0 0) := by
  have q := (rgsF_map (fun z : Zb => z.2) os zs k).1
  rw [hzs, hb, Option.map_eq_none_iff] at q
  rw [(hI.cells.at hk).1, q]
  rfl

set_option maxRecDepth 100000 in
set_option maxHeartbeats 6400000 in
theorem topoFaceAt_e {w : World} {b off n cap : Nat} {ao : Option Addr} {xs : List ER} {ls : List (List Pp)} (h : PlE w b off n ao xs ls) {nb noff nl nc : Nat} {no : Option Addr} {ns : List NR} (hd : NdE w nb noff nl no ns) (h0 : nl = 0 → no = none) (hi : ∀ x ∈ ns, -1000000 ≤ x.id ∧ x.id ≤ 1000000) (hr : RiseN ns) (hP : ∀ r ∈ ringsL xs ls, (ringPtsF xs ls r).length ≤ 4096) {M : Nat} (hM : ((bordersL xs ls).filter BP.out).length = M) (hM19 : M ≤ 19) (qx qy : Int) {F : Int} (hF : takenF ns n ls (qx, qy) = false → FaceIs xs ls (qx, qy) M F) :
    Calls Tryz.prog 12 #[plV (.slice no nl nc) (.slice ao n cap), pv qx qy] w fun e w' => e = .returned (.tuple #[.int .i64 (if takenF ns n ls (qx, qy) then 0 else F), .bool !(takenF ns n ls (qx, qy))]) ∧ Below w.heap.size w w' := by
  obtain ⟨wP, hwP⟩ : ∃ wP, w.alloc (.cells #[.slice no nl nc, .slice ao n cap] 32) = wP := ⟨_, rfl⟩
  have hbP : Below w.heap.size w wP := by rw [← hwP]; exact (Below.refl _ w).alloc (Nat.le_refl _) _
  have hhP : wP.heap[w.heap.size]? = some (.cells #[.slice no nl nc, .slice ao n cap] 32 (0, 0)) := by rw [← hwP]; exact World.alloc_heap_new w _
  obtain ⟨wQ, hwQ⟩ : ∃ wQ, wP.alloc (.cells #[.int .i64 qx, .int .i64 qy] 23) = wQ := ⟨_, rfl⟩
  have hbQ : Below wP.heap.size wP wQ := by rw [← hwQ]; exact (Below.refl _ wP).alloc (Nat.le_refl _) _
  have hhQ : wQ.heap[wP.heap.size]? = some (.cells #[.int .i64 qx, .int .i64 qy] 23 (0, 0)) := by rw [← hwQ]; exact World.alloc_heap_new wP _
  have hh2 := (hbQ.block _ (lt_of_heap hhP)).trans hhP
  have hb : Below w.heap.size w wQ := hbP.trans (hbQ.mono hbP.size)
  have c0 : wQ.cell? ⟨w.heap.size, 0, none⟩ = some (.slice no nl nc) := by simp [World.cell?, hh2]
  have c1 : wQ.cell? ⟨w.heap.size, 1, none⟩ = some (.slice ao n cap) := by simp [World.cell?, hh2]
  have q0 : wQ.cell? ⟨wP.heap.size, 0, none⟩ = some (.int .i64 qx) := by simp [World.cell?, hhQ]
  have q1 : wQ.cell? ⟨wP.heap.size, 1, none⟩ = some (.int .i64 qy) := by simp [World.cell?, hhQ]
  have HA := hid (fun W (hW : Below w.heap.size w W) => faceAt_any (cap := cap) (nc := nc) (h.below hW) (hd.below hW) hP (by rw [hM]; exact hM19) qx qy)
  have HR := hid (fun W (hW : Below w.heap.size w W) => regions_any (cap := cap) (nc := nc) (h.below hW) (hd.below hW) h0 hi hr hP hM hM19)
  have HB := hid hb
  have HPL := hid h
  cases ht : takenF ns n ls (qx, qy) with
  | true =>
    rw [ht] at HA
    clear ht HR hF hd hi hr hP hM h hbP hhP hbQ hhQ hh2 hb HPL
    go_enter Tryz.func12, Tryz.ntmps12
    go_wp2_with (go_at_call 29; refine (HA.out _ HB.out).mono ?_; rintro e w1 ⟨rfl, hb1⟩; have H1 := hid (HB.out.trans (hb1.mono HB.out.size)); clear hb1 HA)
    go_ret2
    exact ⟨rfl, H1.out⟩
  | false =>
    obtain ⟨k, hk, hkM, hcase⟩ := hF ht
    rw [ht] at HA
    simp only [Bool.false_eq_true, if_false] at HA ⊢
    rw [hk] at HA
    have hkI : (k : Int) < ((M + 1 : Nat) : Int) := by omega
    have hk0 : (0 : Int) ≤ (k : Int) := by omega
    have HFO := hid (show ∀ (W0 w2 : World) (v : Value), RegIs W0 w2 v (bordersL xs ls) (outersL xs ls) (ns.filter (notJ (partsF n xs))) (M + 1) → Below w.heap.size w w2 → ∃ G ov iv nv, v = .slice (some ⟨G, 0, none⟩) (M + 1) (M + 1) ∧ w2.cell? ⟨G, k * 3, none⟩ = some ov ∧ w2.cell? ⟨G, k * 3 + 1, none⟩ = some iv ∧ w2.cell? ⟨G, k * 3 + 2, none⟩ = some nv ∧ ∀ wS, Below w2.heap.size w2 wS → Calls Tryz.prog 30 #[plV (.slice no nl nc) (.slice ao n cap), .agg #[ov, iv, nv]] wS fun e w' => e = .returned (.int .i64 F) ∧ Below wS.heap.size wS w' from fun W0 w2 v hv hb2 => by
      obtain ⟨G, wS, zs, IV, NV, rfl, hzs, hI, hbd⟩ := hv
      obtain ⟨_, h1c, h2c⟩ := hI.cells.at hkM
      rcases hcase with ⟨hn, rfl⟩ | ⟨bb, a, x, hbb, hw, hf, rfl⟩
      · exact ⟨G, _, _, _, rfl, rg_bare hzs hI hkM hn, h1c, h2c, fun wS' hS => faceOf_none _ _ _ _ _⟩
      · obtain ⟨j, hj⟩ := List.mem_iff_getElem?.1 (List.mem_of_find?_eq_some hf)
        obtain ⟨g, cp, r0, r1⟩ := rg_outer hzs hI hbd hkM hbb hw
        exact ⟨G, _, _, _, rfl, r0, h1c, h2c, fun wS' hS => faceOf_some (HPL.out.below (hb2.trans (hS.mono hb2.size))) no nl nc hj hf _ _ (cell_below r1 hS (lt_of_cell r1))⟩)
    clear ht hF hd hi hr hP hM h hbP hhP hbQ hhQ hh2 hb HPL hcase hk
    generalize (M + 1) = m at HR HFO hkI
    go_enter Tryz.func12, Tryz.ntmps12
    go_wp2_with (go_at_call 29; refine (HA.out _ HB.out).mono ?_; rintro e w1 ⟨rfl, hb1⟩; have H1 := hid (HB.out.trans (hb1.mono HB.out.size)); have d0 := cell_below c0 hb1 (lt_of_cell c0); have d1 := cell_below c1 hb1 (lt_of_cell c1); clear hb1 HA c0 c1 q0 q1)
    go_region_with (first
      | (go_at_call 31; refine (HR.out _ H1.out.drew).mono ?_; rintro e w2 ⟨⟨v, rfl, hv⟩, hb2⟩; have hbw2 := H1.out.trans (((Below.refl _ w1).drew.trans hb2).mono H1.out.size); obtain ⟨G, ov, iv, nv, rfl, g0, g1, g2, hFO⟩ := HFO.out _ _ _ hv hbw2; have e0 := cell_below (show w1.drew.cell? ⟨w.heap.size, 0, none⟩ = _ from d0) hb2 (lt_of_cell d0); have e1 := cell_below (show w1.drew.cell? ⟨w.heap.size, 1, none⟩ = _ from d1) hb2 (lt_of_cell d1); have H2 := hid hbw2; have HF2 := hid hFO; clear HR hv hb2 hbw2 hFO)
      | (go_at_call 30; refine (HF2.out _ (Below.refl _ _)).mono ?_; rintro e w3 ⟨rfl, hb3⟩; have H3 := hid (H2.out.trans (hb3.mono H2.out.size)); clear HF2 hb3))
    all_goals (go_wp2; go_ret2; exact ⟨rfl, H3.out⟩)
end Go.Proofs.YtkdnkmheidbfdaaGreat
