/-
  Layer 3: what page.pagesOf gives.
-/
import Derived.Test.YtafopokcfkgjiaaDoorGPages
namespace Go.Proofs.YtafopokcfkgjiaaDoor
open Go.RowKit Go.Shelf

attribute [local go_sem] Oper.semAt_some

abbrev frameAt (f : List Int) (j : Nat) : List Int := (f.drop (512 * j)).take 512
/-- All frames are sound. -/
def soundB (q : Nat) (f : List Int) : Bool := (List.range q).all fun j => pageErr (frameAt f j) == 0
/-- The pages that the frames tell; none, if one is not sound. -/
def pagesL (q : Nat) (f : List Int) : List Pg := if soundB q f = true then (List.range q).map fun j => pageIn (frameAt f j) else []
theorem soundB_iff {q : Nat} {f : List Int} : soundB q f = true ↔ ∀ j, j < q → pageErr (frameAt f j) = 0 := by
  unfold soundB
  rw [List.all_eq_true]
  constructor
  · intro h j hj
    have := h j (List.mem_range.2 hj)
    simpa using this
  · intro h j hj
    simpa using h j (List.mem_range.1 hj)

theorem wpListIn_run_append {F : Fence} {m : Nat} {P : Program} {ops : Array Oper} {rest : List Oper} {o : Oper} {a : Act} {w w' : World} {Q : Exit → Act → World → Prop} (hgd : o.guard = none) (s x : Operand) (t : TypeId)
    (hop : o.op = Op.call { callee := Callee.builtin Builtin.append, args := #[s, x], argTypes := #[t, t] }) {v u v' : Value} (hs : a.eval s = v) (hx : a.eval x = u) (hrun : (Builtin.append_ #[t, t] o.type #[v, u]).run P w = .ok v' w')
    (h : wpListIn F m P ops Q rest (a.put o.dst v') w') : wpListIn F m P ops Q (o :: rest) a w :=
  wpListIn_plain hgd fun _K hK => opIn_append s x t hop hs hx hrun (hK _ _ h)

theorem keeps_below {W W' : World} (h : Below W.heap.size W W') : KeepsOthers W W' := ⟨h.size, fun k _ hk _ => (h.block k (Array.getElem?_eq_some_iff.1 hk).1).trans hk⟩
/-- Amid page.pagesOf. -/
structure PoI (w : World) (ao : Option Addr) (Ln cap : Nat) (v : Value) (ps : List Pg) (W : World) : Prop where
  br : W.heap[w.heap.size]? = some (.cells #[.slice none 0 0] 37 (0, 0))
  bl : W.heap[w.heap.size + 1]? = some (.cells #[v] 37 (0, 0))
  bv : W.heap[w.heap.size + 2]? = some (.cells #[.slice ao Ln cap] 31 (0, 0))
  bn : W.heap[w.heap.size + 3]? = some (.cells #[.int .i64 512] 3 (0, 0))
  row : PgRow W w.heap.size v ps
  below : Below w.heap.size w W
theorem PoI.turn {w W W' : World} {ao : Option Addr} {Ln cap : Nat} {v : Value} {ps : List Pg} {row : Option Nat} (h : PoI w ao Ln cap v ps W) (hg : W.grownBy W' row) (hr : ∀ r, row = some r → w.heap.size ≤ r ∧ ∃ o : Obj, W.heap[r]? = some o ∧ o.isCells = false) : PoI w ao Ln cap v ps W' := by
  have key := turn_cells hg (fun r e => (hr r e).2)
  exact ⟨(key _ _ _ _ h.br).trans h.br, (key _ _ _ _ h.bl).trans h.bl, (key _ _ _ _ h.bv).trans h.bv, (key _ _ _ _ h.bn).trans h.bn, h.row.same fun k c t f hk _ => key k c t f hk, h.below.grown hg h.below.size (fun k e => (hr k e).1)⟩
theorem PoI.fresh {w W W' : World} {ao : Option Addr} {Ln cap : Nat} {v : Value} {ps : List Pg} (h : PoI w ao Ln cap v ps W) (hb : Below W.heap.size W W') : PoI w ao Ln cap v ps W' :=
  ⟨(hb.block _ (lt_of_heap h.br)).trans h.br, (hb.block _ (lt_of_heap h.bl)).trans h.bl, (hb.block _ (lt_of_heap h.bv)).trans h.bv, (hb.block _ (lt_of_heap h.bn)).trans h.bn, h.row.below hb, h.below.trans (hb.mono h.below.size)⟩
/-- A further page is appended, its variable set. -/
theorem PoI.add {w W : World} {ao : Option Addr} {Ln cap : Nat} {v : Value} {ps : List Pg} (h : PoI w ao Ln cap v ps W) (hl : ps.length ≤ 8) {p : Pg} {aS : Option Addr} {ns cs : Nat} (hs : W.ownsRow 0 5 1 (.slice aS ns cs) p.data.length (secV p.data)) :
    ∃ a' c' W', (Builtin.append_ #[37, 37] 37 #[v, .slice (some ⟨W.heap.size, 0, none⟩) 1 1]).run Tryd.prog (W.alloc (.cells #[.int .i64 p.no, .int .u64 p.lsn, .slice aS ns cs] 33)) = .ok (.slice a' (ps.length + 1) c') W' ∧
      W'.cell? ⟨w.heap.size + 1, 0, none⟩ = some v ∧ W'.frozen? ⟨w.heap.size + 1, 0, none⟩ = false ∧ PoI w ao Ln cap (.slice a' (ps.length + 1) c') (ps ++ [p]) (W'.setCell ⟨w.heap.size + 1, 0, none⟩ (.slice a' (ps.length + 1) c')) ∧
      KeepsOthers W (W'.setCell ⟨w.heap.size + 1, 0, none⟩ (.slice a' (ps.length + 1) c')) ∧ Kc (w.heap.size + 4) (fun k => k = w.heap.size + 1) W (W'.setCell ⟨w.heap.size + 1, 0, none⟩ (.slice a' (ps.length + 1) c')) := by
  obtain ⟨a', c', W', hrun, hrow, row, hg, hr⟩ := h.row.snoc h.below.size (by omega) hs 37
  have hbA : Below W.heap.size W (W.alloc (.cells #[.int .i64 p.no, .int .u64 p.lsn, .slice aS ns cs] 33)) := (Below.refl _ _).alloc (Nat.le_refl _) _
  -- blocks of another type are as they were
  have key : ∀ k c t f, W.heap[k]? = some (Obj.cells c t f) → t ≠ 33 → W'.heap[k]? = W.heap[k]? := fun k c t f hk ht => by
    refine (hg.block k (Nat.lt_of_lt_of_le (lt_of_heap hk) hbA.size) (fun e => ?_)).trans (hbA.block k (lt_of_heap hk))
    obtain ⟨_, _, c2, f2, h2⟩ := hr k e.symm
    rw [hk] at h2
    injection h2 with e1
    injection e1 with _ e2 _
    exact ht e2
  have br' := (key _ _ _ _ h.br (by decide)).trans h.br
  have bl' := (key _ _ _ _ h.bl (by decide)).trans h.bl
  have bv' := (key _ _ _ _ h.bv (by decide)).trans h.bv
  have bn' := (key _ _ _ _ h.bn (by decide)).trans h.bn
  have far : ∀ k, k ≠ w.heap.size + 1 → (W'.setCell ⟨w.heap.size + 1, 0, none⟩ (.slice a' (ps.length + 1) c')).heap[k]? = W'.heap[k]? := fun k hk => Below.heap_setCell W' _ _ k (fun e => hk (by rw [e]))
  have hBW' : Below w.heap.size w W' := (h.below.trans (hbA.mono h.below.size)).grown hg (Nat.le_trans h.below.size hbA.size) (fun k e => (hr k e).1)
  refine ⟨a', c', W', hrun, cell_of_row W' _ 0 _ _ _ bl', frozen_of_row W' _ 0 _ _ bl', ⟨(far _ (by omega)).trans br', box_set bl', (far _ (by omega)).trans bv', (far _ (by omega)).trans bn', hrow.same fun k c t f hk ht => far k (fun e => ?_), hBW'.setCell (p := ⟨w.heap.size + 1, 0, none⟩) (by show w.heap.size ≤ w.heap.size + 1; omega) _⟩, ?_, ?_⟩
  · subst e
    rw [bl'] at hk
    injection hk with e1
    injection e1 with _ e2 _
    rcases ht with ht | ht <;> rw [ht] at e2 <;> exact absurd e2 (by decide)
  · have hkA : KeepsOthers (W.alloc (.cells #[.int .i64 p.no, .int .u64 p.lsn, .slice aS ns cs] 33)) W' := by
     cases row with
     | none => exact ⟨hg.size, fun k o hk _ => (hg.block k (lt_of_heap hk) (fun e => by cases e)).trans hk⟩
     | some r =>
      obtain ⟨_, hlt, c, f, hc⟩ := hr r rfl
      exact keeps_row hg ((hbA.block r hlt).trans hc)
    exact ((KeepsOthers.alloc W _).trans hkA).trans (KeepsOthers.setCell W' _ _)
  · refine ⟨?_, fun k c t f hk hp hc => ?_⟩
    · have := hbA.size; have := hg.size
      show W.heap.size ≤ (W'.setCell _ _).heap.size
      have h2 := (grown_setCell W' (w.heap.size + 1) 0 (.slice a' (ps.length + 1) c')).size
      omega
    · rw [far k hp]
      rcases Nat.lt_or_ge k w.heap.size with hlt | hge
      · exact (hg.block k (Nat.lt_of_lt_of_le (lt_of_heap hc) hbA.size) (fun e => by have := (hr k e.symm).1; omega)).trans (hbA.block k (lt_of_heap hc))
      · rcases (show k = w.heap.size ∨ k = w.heap.size + 2 ∨ k = w.heap.size + 3 by omega) with rfl | rfl | rfl
        · exact br'.trans h.br.symm
        · exact bv'.trans h.bv.symm
        · exact bn'.trans h.bn.symm
theorem push4 (a : Array Obj) (x0 x1 x2 x3 : Obj) : ((((a.push x0).push x1).push x2).push x3)[a.size]? = some x0 ∧ ((((a.push x0).push x1).push x2).push x3)[a.size + 1]? = some x1 ∧ ((((a.push x0).push x1).push x2).push x3)[a.size + 2]? = some x2 ∧ ((((a.push x0).push x1).push x2).push x3)[a.size + 3]? = some x3 := by
  refine ⟨?_, ?_, ?_, ?_⟩ <;> simp only [Array.getElem?_push, Array.size_push] <;> repeat (first | rw [if_pos (by omega)] | rw [if_neg (by omega)] | rw [if_pos trivial])

set_option maxRecDepth 100000 in
set_option maxHeartbeats 2000000 in
theorem pagesOf_in {w : World} {base F B p0 np q : Nat} {half : Bool} (hf : FileIs w base F B p0 np half) {v : Value} {f : List Int} (hv : w.ownsRow 0 5 1 v (512 * q) (secV f)) (hby : By f) (ht : TabOk w) (hq : q ≤ 8)
    (hkind : ∀ j, j < q → pageErr (frameAt f j) = 0 ∨ openE (frameAt f j) ≠ 0) (htk : takes np (pagesL q f)) :
    CallsIn Fence.wide 12 Tryd.prog 56 #[.pointer (some ⟨F, 0, none⟩), v] w fun e w' => ∃ v', e = .returned v' ∧ Pgs w' v' (pagesL q f) ∧ Below w.heap.size w w' := by
  have hw : ∀ k, Fence.wide.fn k := fun _ => trivial
  have hfl : f.length = 512 * q := by have := hv.1; simpa [secV] using this
  obtain ⟨ao, cap, rfl, hcap, hop⟩ := own_any hv
  have HV := hid hv
  have HBY := hid hby
  have HFL := hid hfl
  have HF := hid hf
  have HT := hid ht
  have HTK := hid htk
  have HKI := hid hkind
  obtain ⟨g, hg⟩ : ∃ g, 1 ≤ q → ao = some ⟨g, 0, none⟩ := by
    rcases Nat.eq_zero_or_pos q with h | h
    · exact ⟨0, fun h' => by omega⟩
    · obtain ⟨g, hg⟩ := hop (by omega)
      exact ⟨g, fun _ => hg⟩
  obtain ⟨Ln, hLn⟩ : ∃ Ln, Ln = 512 * q := ⟨_, rfl⟩
  rw [← hLn] at hcap HV ⊢
  have HLN := hid hLn
  clear hv hby hfl hop hLn ht htk hkind hf
  refine callsIn_of_wp_marks Tryd.func56 rfl trivial ?_ rfl
  simp only [Tryd.ntmps56, List.size_toArray, List.length_cons, List.length_nil, Nat.reduceAdd, Nat.reduceSub, Array.replicate_succ, Array.replicate_zero, List.push_toArray, List.append_toArray, List.nil_append, List.cons_append]
  have hmx : Tryd.prog.follows .mixedOrders = true := by kernel_rfl
  gi_wp2_with (gi_at_call 34; refine (chunkOf_in _ _ _ _ 512 (by omega) _).mono ?_; rintro e w' ⟨rfl, rfl⟩)
  obtain ⟨W0, hW0⟩ : ∃ W0, (((w.alloc (.cells #[.slice none 0 0] 37)).alloc (.cells #[.slice none 0 0] 37)).alloc (.cells #[.slice ao Ln cap] 31)).alloc (.cells #[.int .i64 512] 3) = W0 := ⟨_, rfl⟩
  have hsz : W0.heap.size = w.heap.size + 4 := by rw [← hW0]; simp
  have hF0 : Below w.heap.size w W0 := by rw [← hW0]; exact ((((Below.refl _ w).alloc (Nat.le_refl _) _).alloc (by simp) _).alloc (by simp; omega) _).alloc (by simp; omega) _
  obtain ⟨b0, b1, b2, b3⟩ : W0.heap[w.heap.size]? = some (.cells #[.slice none 0 0] 37 (0, 0)) ∧ W0.heap[w.heap.size + 1]? = some (.cells #[.slice none 0 0] 37 (0, 0)) ∧ W0.heap[w.heap.size + 2]? = some (.cells #[.slice ao Ln cap] 31 (0, 0)) ∧ W0.heap[w.heap.size + 3]? = some (.cells #[.int .i64 512] 3 (0, 0)) := by
    rw [← hW0]; exact push4 w.heap _ _ _ _
  have h0 : PoI w ao Ln cap (.slice none 0 0) [] W0 := ⟨b0, b1, b2, b3, PgRow.nil _ _, hF0⟩
  rw [hW0]
  clear hW0
  refine wpIn_rangeFunc_ownG rfl (by decide) (gf := 47) (lb := #[.pointer (some ⟨w.heap.size + 1 + 1, 0, none⟩), .pointer (some ⟨w.heap.size + 1 + 1 + 1, 0, none⟩)]) rfl trivial (enters_of Tryd.func47 (by kernel_rfl) rfl)
    (chunk_stops (12 - 1) (by decide) (w.heap.size + 2) (w.heap.size + 3) (w.heap.size + 4) (fun k => k = w.heap.size + 1) g 0 cap 512 q Ln ao W0 b2 b3 ⟨by omega, by omega⟩ ⟨by omega, by omega⟩ hg (by have := HLN.out; omega) (by omega) hcap (by have := HLN.out; omega)) (fun h k => Kc.trans h k) (fun W l o o' _ hl hc _ => Kc.putObj _ _ W l o o' hl hc) (Below.refl _ _) (fun _ => rfl)
    (fun pre W => (∀ x ∈ pre, pageErr (frameAt f x.1) = 0) ∧ ∃ v, PoI w ao Ln cap v (pre.map fun x => pageIn (frameAt f x.1)) W)
    (fun c pre W => c = .ret ∧ (∃ x ∈ pre, pageErr (frameAt f x.1) ≠ 0) ∧ ∃ v ps, PoI w ao Ln cap v ps W) ?hI ?hIx ?h0
    (fun x => { tmps := #[.pointer (some ⟨F, 0, none⟩), .slice ao Ln cap, undef, undef, .pointer (some ⟨w.heap.size, 0, none⟩), .pointer (some ⟨w.heap.size + 1, 0, none⟩), .slice (some ⟨g, x.1 * 512, none⟩) 512 512, undef, undef, .slice ao Ln cap, .func (.func 47) #[] #[.pointer (some ⟨w.heap.size + 1 + 1, 0, none⟩), .pointer (some ⟨w.heap.size + 1 + 1 + 1, 0, none⟩)], .slice (some ⟨g, x.1 * 512, none⟩) 512 512, undef, undef, undef, undef, undef, undef, undef, undef, undef, undef, undef, undef, undef, undef, undef, undef], defers := [] }) ?assign ?body ?done ?stop
  case hI =>
    rintro s A B' row ⟨hz, v, hs⟩ hg' hrow
    exact ⟨hz, v, hs.turn hg' (fun r e => ⟨by have := (hrow r e).1; omega, (hrow r e).2⟩)⟩
  case hIx =>
    rintro c s A B' row ⟨hc, hz, v, ps, hs⟩ hg' hrow
    exact ⟨hc, hz, v, ps, hs.turn hg' (fun r e => ⟨by have := (hrow r e).1; omega, (hrow r e).2⟩)⟩
  case h0 => exact ⟨by simp, _, h0⟩
  case assign =>
    intro l x W K hK
    gi_wp2
    exact hK
  case body =>
    rintro l pre x W ⟨hz, v, hI⟩ hlt
    have hd1 : 1 ≤ 12 - 1 - 1 := by decide
    have hx := x.2
    obtain rfl := hg (by omega)
    have hfl2 : (frameAt f x.1).length = 512 := by have := HFL.out; simp [frameAt]; omega
    have hsrc : Bs W (.slice (some ⟨g, x.1 * 512, none⟩) 512 512) (frameAt f x.1) := by
      have ho := own_below (own_mono HV.out (Nat.zero_le _)) hI.below
      refine ⟨range_of ((HBY.out.drop _).take _), by rw [hfl2]; omega, .inr ⟨g, x.1 * 512, 512, by rw [hfl2], by omega, fun j hj => ?_⟩⟩
      rw [hfl2] at hj
      rw [ho.cellAt (x.1 * 512 + j) (by have := HLN.out; omega)]
      simp only [secV, List.getElem?_map, frameAt, List.getD_eq_getElem?_getD, List.getElem?_take, List.getElem?_drop, if_pos hj]
      rw [show 512 * x.1 + j = x.1 * 512 + j by omega, List.getElem?_eq_getElem (by rw [HFL.out]; omega)]
      rfl
    by_cases he : pageErr (frameAt f x.1) = 0
    · have HPG := hid (page_good hsrc hfl2 (HT.out.below hI.below (Nat.le_refl _)) he)
      have HI := hid hI
      have HZ := hid hz
      have HE := hid he
      have hlen : (pre.map fun x : Pc q => pageIn (frameAt f x.1)).length = pre.length := by simp
      have hdl : (pageIn (frameAt f x.1)).data.length = 480 := by
        have := pageErr_zero he
        simp only [pageIn, List.length_take, openB_len this.1 hfl2]
        omega
      obtain ⟨p, hp⟩ : ∃ p, p = pageIn (frameAt f x.1) := ⟨_, rfl⟩
      rw [← hp] at HPG hdl
      have HPE := hid hp
      obtain ⟨av, cv, rfl, _, _⟩ := hI.row.form
      rw [hlen] at HI
      clear hsrc hI hz he hp
      gi_wp2_with (first
        | (gi_at_call 51; refine (CallsIn.inRound l (callsIn_wide.2 HPG.out)).mono ?_; rintro e W1 ⟨s1, rfl, hs1, hb1⟩; obtain ⟨aS, cS, rfl, _, _⟩ := own_any hs1; obtain ⟨W2, hW2⟩ : ∃ W2, W1.alloc (.cells #[.int .i64 p.no, .int .u64 p.lsn, .slice aS 480 cS] 33) = W2 := ⟨_, rfl⟩; have hb12 : Below W1.heap.size W1 W2 := (by rw [← hW2]; exact (Below.refl _ _).alloc (Nat.le_refl _) _); have hI2 := (HI.out.fresh hb1).fresh hb12; have hpn : W2.heap[W1.heap.size]? = some (.cells #[.int .i64 p.no, .int .u64 p.lsn, .slice aS 480 cS] 33 (0, 0)) := (by rw [← hW2]; exact heap_new W1 _); have cl := cell_of_row W2 (w.heap.size + 1) 0 _ _ _ hI2.bl; have q0 := cell_of_row W2 W1.heap.size 0 _ _ _ hpn; have q1 := cell_of_row W2 W1.heap.size 1 _ _ _ hpn; have q2 := cell_of_row W2 W1.heap.size 2 _ _ _ hpn; simp only [List.getElem?_toArray, List.getElem?_cons_succ, List.getElem?_cons_zero] at cl q0 q1 q2; obtain ⟨a', c', W3, hrun, hc3, hf3, hfin, hko, hkc⟩ := hI2.add (by rw [hlen]; omega) (p := p) (aS := aS) (ns := 480) (cs := cS) (by rw [hdl]; exact own_mono (own_below hs1 hb12) (Nat.zero_le _)); rw [hlen] at hrun hfin hko hkc; have HR := hid hrun; have HFIN := hid hfin; have HKO := hid (((keeps_below hb1).trans (keeps_below hb12)).trans hko); have HKC := hid (((Kc.fresh hb1).trans (Kc.fresh hb12)).trans hkc); clear hrun hfin hko hkc hI2 hpn hs1 hb1 hb12 HPG)
        | (refine wpListIn_run_append (v' := .slice a' (pre.length + 1) c') (w' := W3) rfl (.tmp 19) (.tmp 21) 37 rfl rfl rfl ?_ ?_; exact HR.out))
      refine ⟨HKO.out.from W0.heap.size, HKC.out, ?_, .slice a' (pre.length + 1) c', ?_⟩
      · intro y hy
        rcases List.mem_append.1 hy with hy | hy
        · exact HZ.out y hy
        · simp at hy; subst hy; exact HE.out
      · have := HFIN.out
        rw [HPE.out] at this
        rw [List.map_append]
        exact this
    · have hop : openE (frameAt f x.1) ≠ 0 := by
        rcases HKI.out x.1 hx with h | h
        · exact absurd h he
        · exact h
      have HPG := hid (page_bad hsrc (HT.out.below hI.below (Nat.le_refl _)) hop)
      have HI := hid hI
      have HE := hid he
      have hne : (openE (frameAt f x.1) != 0) = true := by simpa using hop
      generalize openE (frameAt f x.1) = E at *
      clear hsrc hI hz he hop
      gi_wp2_with (gi_at_call 51; refine (CallsIn.inRound l (callsIn_wide.2 HPG.out)).mono ?_; rintro e W1 ⟨rfl, hb1⟩; have hI1 := HI.out.fresh hb1; have cr := cell_of_row W1 w.heap.size 0 _ _ _ hI1.br; have fr := frozen_of_row W1 w.heap.size 0 _ _ hI1.br; simp only [List.getElem?_toArray, List.getElem?_cons_zero] at cr; have hrl := lt_of_heap hI1.br; have HI1 := hid hI1; have HKO := hid (keeps_below hb1); clear hI1 hb1 HPG)
      have hI2 := HI1.out
      have hset : PoI w (some ⟨g, 0, none⟩) Ln cap v (pre.map fun x => pageIn (frameAt f x.1)) (W1.setCell ⟨w.heap.size, 0, none⟩ (.slice none 0 0)) := by
        have far : ∀ k, k ≠ w.heap.size → (W1.setCell ⟨w.heap.size, 0, none⟩ (.slice none 0 0)).heap[k]? = W1.heap[k]? := fun k hk => Below.heap_setCell W1 _ _ k (fun e => hk (by rw [e]))
        refine ⟨box_set hI2.br, (far _ (by omega)).trans hI2.bl, (far _ (by omega)).trans hI2.bv, (far _ (by omega)).trans hI2.bn, hI2.row.same fun k c t f' hk ht => far k (fun e => ?_), hI2.below.setCell (p := ⟨w.heap.size, 0, none⟩) (Nat.le_refl _) _⟩
        subst e
        rw [hI2.br] at hk
        injection hk with e1
        injection e1 with _ e2 _
        rcases ht with ht | ht <;> rw [ht] at e2 <;> exact absurd e2 (by decide)
      exact ⟨((HKO.out.trans (KeepsOthers.setCell W1 _ _)).trans (KeepsOthers.alloc _ _)).from W0.heap.size, rfl, ⟨x, by simp, HE.out⟩, v, _, hset.fresh ((Below.refl _ _).alloc (Nat.le_refl _) _)⟩
  case done =>
    rintro D ys W hD hS ⟨hz, v, hI⟩ hK
    have hall : soundB q f = true := soundB_iff.2 fun j hj => by
      have : j ∈ ys.map (·.1) := by rw [hS]; exact List.mem_range.2 hj
      obtain ⟨x, hx, rfl⟩ := List.mem_map.1 this
      exact hz x hx
    have hps : ys.map (fun x => pageIn (frameAt f x.1)) = pagesL q f := by
      unfold pagesL
      rw [if_pos hall, ← hS, List.map_map]
      rfl
    rw [hps] at hI
    obtain ⟨av, cv, rfl, _, _⟩ := hI.row.form
    have HA := hid (accept_any (HF.out.below hI.below) hI.row.pgs HTK.out)
    have cl := cell_of_row W (w.heap.size + 1) 0 _ _ _ hI.bl
    simp only [List.getElem?_toArray, List.getElem?_cons_zero] at cl
    have HI := hid hI
    have HKD := hid hK
    generalize (pagesL q f).length = m at *
    clear hI hz hS hps hall hK
    gi_wp2_with (gi_at_call 15; refine (callsIn_wide.2 HA.out).mono ?_; rintro e W1 ⟨rfl, hb1⟩; have hI1 := HI.out.fresh hb1; have cr := cell_of_row W1 w.heap.size 0 _ _ _ hI1.br; have fr := frozen_of_row W1 w.heap.size 0 _ _ hI1.br; have cl1 := cell_of_row W1 (w.heap.size + 1) 0 _ _ _ hI1.bl; simp only [List.getElem?_toArray, List.getElem?_cons_zero] at cr cl1; have HI1 := hid hI1; have HK1 := hid ((keeps_below hb1).same D _ HKD.out rfl); clear hI1 hb1 HA)
    have hK2 := (KeepsOthers.setCell W1 ⟨w.heap.size, 0, none⟩ (.slice av m cv)).same D _ HK1.out rfl
    have hrow : ∀ r, some D = some r → ∃ o : Obj, (W1.setCell ⟨w.heap.size, 0, none⟩ (.slice av m cv)).heap[r]? = some o ∧ o.isCells = false := fun r e => by cases e; exact ⟨_, hK2, rfl⟩
    refine ⟨by simp, .inl ⟨_, _, rfl, run_takeDeferred hK2, ?_⟩⟩
    have hbr2 : (W1.setCell ⟨w.heap.size, 0, none⟩ (.slice av m cv)).heap[w.heap.size]? = some (.cells #[.slice av m cv] 37 (0, 0)) := box_set HI1.out.br
    have hb5 := cell_kept (o := 0) hbr2 (grownBy_putObj' _ D (.deferred none)) hrow
    simp only [List.getElem?_toArray, List.getElem?_cons_zero] at hb5
    have hr2 : PgRow (W1.setCell ⟨w.heap.size, 0, none⟩ (.slice av m cv)) w.heap.size (.slice av m cv) (pagesL q f) := HI1.out.row.same fun k c t f' hk ht => Below.heap_setCell W1 _ _ k (fun e => by
      have e' : k = w.heap.size := e
      subst e'
      rw [HI1.out.br] at hk
      injection hk with e1
      injection e1 with _ e2 _
      rcases ht with ht | ht <;> rw [ht] at e2 <;> exact absurd e2 (by decide))
    refine ⟨.slice av m cv, ?_, _, rfl, (hr2.same fun k c t f' hk _ => turn_cells (grownBy_putObj' _ D (.deferred none)) hrow k c t f' hk).pgs, ?_⟩
    · simp [results, Tryd.f56, go_sem, hb5]
    · have hbl := HI1.out.below.setCell (p := ⟨w.heap.size, 0, none⟩) (Nat.le_refl _) (.slice av m cv)
      exact hbl.grown (grownBy_putObj' _ D (.deferred none)) hbl.size (fun k e => by cases e; omega)
  case stop =>
    rintro D c pre W hD hSp ⟨rfl, ⟨x, hx, hne⟩, v, ps, hI⟩ hK
    have hall : soundB q f ≠ true := fun h => hne (soundB_iff.1 h x.1 x.2)
    have hps : pagesL q f = [] := by unfold pagesL; rw [if_neg hall]
    have HPS := hid hps
    have HI := hid hI
    clear hI hps hall hne
    gi_wp2
    have hrow : ∀ r, some D = some r → ∃ o : Obj, W.heap[r]? = some o ∧ o.isCells = false := fun r e => by cases e; exact ⟨_, hK, rfl⟩
    refine ⟨by simp, .inl ⟨_, _, rfl, run_takeDeferred hK, ?_⟩⟩
    have hb5 := cell_kept (o := 0) HI.out.br (grownBy_putObj' _ D (.deferred none)) hrow
    simp only [List.getElem?_toArray, List.getElem?_cons_zero] at hb5
    rw [HPS.out]
    refine ⟨.slice none 0 0, ?_, _, rfl, pgs_nil _, (HI.out.turn (grownBy_putObj' _ D (.deferred none)) (fun r e => ⟨by cases e; omega, hrow r e⟩)).below⟩
    simp [results, Tryd.f56, go_sem, hb5]
theorem pagesOf_any {w : World} {base F B p0 np q : Nat} {half : Bool} (hf : FileIs w base F B p0 np half) {v : Value} {f : List Int} (hv : w.ownsRow 0 5 1 v (512 * q) (secV f)) (hby : By f) (ht : TabOk w) (hq : q ≤ 8)
    (hkind : ∀ j, j < q → pageErr (frameAt f j) = 0 ∨ openE (frameAt f j) ≠ 0) (htk : takes np (pagesL q f)) :
    Calls Tryd.prog 56 #[.pointer (some ⟨F, 0, none⟩), v] w fun e w' => ∃ v', e = .returned v' ∧ Pgs w' v' (pagesL q f) ∧ Below w.heap.size w w' := callsIn_wide.1 (pagesOf_in hf hv hby ht hq hkind htk)
end Go.Proofs.YtafopokcfkgjiaaDoor
