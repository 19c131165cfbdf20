/-
  PackParts: what pack.Split gives.
-/
import Derived.Test.YtongdccpoefnlaaDoorPartsIter
import Derived.Test.YtongdccpoefnlaaDoorSealsRef
import Derived.RangeFuncBox
namespace Go.Proofs.YtongdccpoefnlaaDoor
open Go.RowKit Go.Shelf

attribute [local go_sem] Oper.semAt_some

/-- Rows of bytes of the call's own, in a row of the call's own. -/
def Rows2 (W : World) (base : Nat) (v : Value) (pss : List (List Int)) : Prop :=
  ∃ us : List Value, us.length = pss.length ∧ W.ownsRow base 22 1 v us.length us ∧ ∀ i, i < pss.length → W.ownsRow base 5 1 (us.getD i undef) (pss.getD i []).length ((pss.getD i []).map (Value.int .u8))

theorem own_turn {W W' : World} {row : Option Nat} {base : Nat} {e : TypeId} {size : Nat} {v : Value} {n : Nat} {xs : List Value} (h : W.ownsRow base e size v n xs) (hg : W.grownBy W' row) (hr : ∀ r, row = some r → ∃ o : Obj, W.heap[r]? = some o ∧ o.isCells = false) : W'.ownsRow base e size v n xs := by
  refine h.kept hg ?_
  rcases h.2 with ⟨rfl, _⟩ | ⟨g, cap, cur, rfl, _, hgb, _⟩
  · exact .inl rfl
  · refine .inr fun e' => ?_
    obtain ⟨o, ho, hc⟩ := hr g (by simpa [Value.ownBlock] using e'.symm)
    rw [hgb] at ho; cases ho; cases hc
theorem Rows2.turn {W W' : World} {row : Option Nat} {base : Nat} {v : Value} {pss : List (List Int)} (h : Rows2 W base v pss) (hg : W.grownBy W' row) (hr : ∀ r, row = some r → ∃ o : Obj, W.heap[r]? = some o ∧ o.isCells = false) : Rows2 W' base v pss := by
  obtain ⟨us, h1, h2, h3⟩ := h
  exact ⟨us, h1, own_turn h2 hg hr, fun i hi => own_turn (h3 i hi) hg hr⟩
theorem boxed_turn {W W' : World} {row : Option Nat} {B : Nat} {t : TypeId} {v : Value} (h : Boxed W B t v) (hg : W.grownBy W' row) (hr : ∀ r, row = some r → ∃ o : Obj, W.heap[r]? = some o ∧ o.isCells = false) : Boxed W' B t v :=
  h.kept hg fun e => by
    obtain ⟨o, ho, hc⟩ := hr B e.symm
    rw [show W.heap[B]? = _ from h] at ho; cases ho; cases hc

theorem own_setBox {W : World} {base : Nat} {e t : TypeId} {size : Nat} {v u : Value} {n : Nat} {xs : List Value} {B : Nat} (h : W.ownsRow base e size v n xs) (hb : Boxed W B t u) (hte : t ≠ e) (u' : Value) : (W.setCell ⟨B, 0, none⟩ u').ownsRow base e size v n xs :=
  h.kept (grownBy_setCell' W B u') (.inr (hb.not_row hte h).symm)
theorem Rows2.setBox {W : World} {base B : Nat} {t : TypeId} {v u : Value} {pss : List (List Int)} (h : Rows2 W base v pss) (hb : Boxed W B t u) (h1 : t ≠ 22) (h2 : t ≠ 5) (u' : Value) : Rows2 (W.setCell ⟨B, 0, none⟩ u') base v pss := by
  obtain ⟨us, e1, e2, e3⟩ := h
  exact ⟨us, e1, own_setBox e2 hb h1 u', fun i hi => own_setBox (e3 i hi) hb h2 u'⟩
theorem box_other {W : World} {B C : Nat} {t : TypeId} {v : Value} (h : Boxed W B t v) (hne : B ≠ C) (u : Value) : Boxed (W.setCell ⟨C, 0, none⟩ u) B t v :=
  h.kept (grownBy_setCell' W C u) (by simpa using hne)
theorem Rows2.form {W : World} {base : Nat} {v : Value} {pss : List (List Int)} (h : Rows2 W base v pss) : ∃ ao m cap, v = .slice ao m cap := by
  obtain ⟨us, e1, e2, _⟩ := h
  obtain ⟨ao, cap, rfl, _, _⟩ := own_any e2
  exact ⟨ao, _, cap, rfl⟩

theorem resE_stop {a b : List (List Int × Int)} (h : resE a ≠ 0) : resE (a ++ b) = resE a := by
  induction a with
  | nil => simp [resE] at h
  | cons p a ih =>
    obtain ⟨p, e⟩ := p
    simp only [List.cons_append, resE] at h ⊢
    by_cases he : e = 0
    · subst he
      simp only [ne_eq, not_true_eq_false, if_false] at h ⊢
      exact ih h
    · rw [if_pos he, if_pos he]
theorem resE_zero {a : List (List Int × Int)} (h : ∀ x ∈ a, x.2 = 0) : resE a = 0 := by
  induction a with
  | nil => rfl
  | cons p a ih =>
    obtain ⟨p, e⟩ := p
    have he : e = 0 := h (p, e) (by simp)
    subst he
    simp only [resE, ne_eq, not_true_eq_false, if_false]
    exact ih fun x hx => h x (by simp [hx])
theorem info22 : (Tryd.prog.info? 22).map (fun i => (i.zero, i.size, i.bytes)) = some (some (.slice none 0 0), 1, 24) := by kernel_rfl

theorem clone_own {w : World} {v : Value} {zs : List Int} (h : Has w v zs) (hl : zs.length ≤ 140737488355328) :
    Calls Tryd.prog 30 #[v] w fun e w' => ∃ v', e = .returned v' ∧ w'.ownsRow w.heap.size 5 1 v' zs.length (zs.map (Value.int .u8)) ∧ Below w.heap.size w w' := by
  obtain ⟨ao, cap, rfl, _⟩ := h.open
  have H := hid h
  have hnil : ∀ (wx : World) (a : Option Addr) (n c : Nat), (binOp .eql 22 (.slice a n c) (.slice none 0 0)).run Tryd.prog wx = .ok (.bool a.isNone) wx := fun wx a n c => Lib.run_eql_slice_nil wx _ _ a n c 0 0 Tryd.underlying22
  cases ao with
  | none =>
    obtain rfl : zs = [] := by
      rcases h.2.2 with ⟨a, c, hv, h0, _⟩ | ⟨b, off, c, hv, _⟩
      · exact h0
      · injection hv with e1; cases e1
    clear h
    go_enter Tryd.func30, Tryd.ntmps30
    go_wp2
    go_ret
    exact ⟨_, rfl, World.ownsRow_nil _ _ _ _, Below.refl _ _⟩
  | some ad =>
    clear h
    go_enter Tryd.func30, Tryd.ntmps30
    go_wp2_with (at_builtin; refine wpList_append_has rfl (.tmp 5) (.tmp 6) rfl w.heap.size (.slice (some ⟨w.heap.size, 0, none⟩) 0 0) _ _ rfl (own_empty w _ (Nat.le_refl _)) (.slice (some ad) zs.length cap) zs rfl (H.out.below ((Below.refl _ _).alloc (Nat.le_refl _) _)) (by omega) (by simp) ?_; intro v2 w2 hown2 hgrow2; have hB2 : Below w.heap.size w w2 := ((Below.refl _ _).alloc (Nat.le_refl _) _).grown hgrow2 (by simp) (own_base (own_empty w w.heap.size (Nat.le_refl _))))
    go_ret
    exact ⟨_, rfl, by simpa using hown2, hB2⟩

theorem Rows2.below {W W' : World} {base : Nat} {v : Value} {pss : List (List Int)} (h : Rows2 W base v pss) (hb : Below W.heap.size W W') : Rows2 W' base v pss := by
  obtain ⟨us, e1, e2, e3⟩ := h
  exact ⟨us, e1, own_below e2 hb, fun i hi => own_below (e3 i hi) hb⟩
theorem box_below {W W' : World} {B : Nat} {t : TypeId} {v : Value} (h : Boxed W B t v) (hb : Below W.heap.size W W') : Boxed W' B t v := (hb.block B h.lt).trans h
theorem own_mono {W : World} {b1 b2 : Nat} {e : TypeId} {size : Nat} {v : Value} {n : Nat} {xs : List Value} (h : W.ownsRow b1 e size v n xs) (hb : b2 ≤ b1) : W.ownsRow b2 e size v n xs := by
  refine ⟨h.1, ?_⟩
  rcases h.2 with hn | ⟨g, cap, cur, rfl, hg, rest⟩
  · exact .inl hn
  · exact .inr ⟨g, cap, cur, rfl, Nat.le_trans hb hg, rest⟩

/-- 'out = append(out, bytes.Clone(p))', out a variable of the loop: all that the walk owes. -/
theorem split_append {W1 : World} {N B : Nat} {v c : Value} {pss : List (List Int)} {p : List Int} (hN : N ≤ W1.heap.size) (hB : N ≤ B) (hv : Boxed W1 B 46 v) (hr : Rows2 W1 N v pss) (hc : W1.ownsRow N 5 1 c p.length (p.map (Value.int .u8))) (hl : pss.length ≤ 1048576) :
    ∃ g m cap W2, (Builtin.append_ #[46, 46] 46 #[v, .slice (some ⟨W1.heap.size, 0, none⟩) 1 1]).run Tryd.prog (W1.alloc (.cells #[c] 22)) = .ok (.slice (some ⟨g, 0, none⟩) m cap) W2 ∧
      Boxed W2 B 46 v ∧ Boxed (W2.setCell ⟨B, 0, none⟩ (.slice (some ⟨g, 0, none⟩) m cap)) B 46 (.slice (some ⟨g, 0, none⟩) m cap) ∧
      Rows2 (W2.setCell ⟨B, 0, none⟩ (.slice (some ⟨g, 0, none⟩) m cap)) N (.slice (some ⟨g, 0, none⟩) m cap) (pss ++ [p]) ∧
      KeepsOthers W1 (W2.setCell ⟨B, 0, none⟩ (.slice (some ⟨g, 0, none⟩) m cap)) ∧ Below N W1 (W2.setCell ⟨B, 0, none⟩ (.slice (some ⟨g, 0, none⟩) m cap)) ∧
      ∀ B' t' u', Boxed W1 B' t' u' → B' ≠ B → t' ≠ 22 → Boxed (W2.setCell ⟨B, 0, none⟩ (.slice (some ⟨g, 0, none⟩) m cap)) B' t' u' := by
  obtain ⟨i0, hi, hz0, hz1, hz2⟩ := info_parts info22
  obtain ⟨us, e1, e2, e3⟩ := hr
  obtain ⟨ac, cc, hcf, _, _⟩ := own_any hc
  obtain ⟨v', W2, hrun, hown, hgrow, _⟩ := run_append_own (P := Tryd.prog) (W1.alloc (.cells #[c] 22)) N 46 46 22 i0 (.slice none 0 0) 1 24 Tryd.underlying46 hi hz0 hz1 hz2 rfl (by decide) v us.length us (e2.alloc _) ⟨W1.heap.size, 0, none⟩ 1 1 [c] rfl (cell_one_new _ _ _) (by intro u hu; simp at hu; subst hu; rw [hcf]; rfl) (by unfold maxLen; omega) (by omega) (by simp; omega)
  obtain ⟨g, cap, rfl⟩ := ownsRow_succ hown
  obtain ⟨hv1, hv2, hr2, hk2, hb2⟩ := hv.appended (by decide) e2 hN hB hown hgrow
  refine ⟨g, _, cap, W2, hrun, hv1, hv2, ⟨us ++ [c], by simp [e1], by simpa using hr2, fun i hi' => ?_⟩, hk2, hb2, fun B' t' u' hx hne ht => box_other ((hx.alloc _).kept hgrow (hx.not_row ht e2)) hne _⟩
  have keep : ∀ {x : Value} {q : List Int}, W1.ownsRow N 5 1 x q.length (q.map (Value.int .u8)) → (W2.setCell ⟨B, 0, none⟩ (.slice (some ⟨g, 0, none⟩) (us.length + 1) cap)).ownsRow N 5 1 x q.length (q.map (Value.int .u8)) := fun {x q} hx =>
    own_setBox ((hx.alloc _).kept hgrow (own_ne hx e2 (by decide))) hv1 (by decide) _
  simp at hi'
  by_cases hlt : i < pss.length
  · have := keep (e3 i hlt)
    simpa [List.getElem?_append, hlt, e1] using this
  · obtain rfl : i = pss.length := by omega
    have := keep hc
    simpa [List.getElem?_append, e1] using this

theorem errs_snoc {w : World} {pre : List (PartAt w)} {x : PartAt w} (hz : ∀ y ∈ pre, y.1.2.2 = 0) (hx : x.1.2.2 = 0) : ∀ y ∈ pre ++ [x], y.1.2.2 = 0 := by
  intro y hy
  rcases List.mem_append.1 hy with hy | hy
  · exact hz y hy
  · simp at hy; subst hy; exact hx
theorem keeps_below {W W' : World} (h : Below W.heap.size W W') : KeepsOthers W W' := ⟨h.size, fun k _ hk _ => (h.block k (Array.getElem?_eq_some_iff.1 hk).1).trans hk⟩
/-- An append whose run is known, as one operation. -/
theorem opIn_append {F : Fence} {n : Nat} {P : Program} {o : Oper} {a : Act} {w w' : World} {K : Act → World → Prop} {Q : Exit → Act → World → Prop} (s x : Operand) (t : TypeId)
    (hop : o.op = Op.call { callee := Callee.builtin Builtin.append, args := #[s, x], argTypes := #[t, t] }) {v u v' : Value} (hs : a.eval s = v) (hx : a.eval x = u) (hrun : (Builtin.append_ #[t, t] o.type #[v, u]).run P w = .ok v' w')
    (hK : K (a.put o.dst v') w') : Oper.wpIn F n P o a w K Q := by
  unfold Oper.wpIn
  refine ⟨?_, ?_⟩
  · simp [Oper.about, hop, resolve, Target.leads, Sem.run_pure]
  · rw [Oper.semAt_plain F _ _ (by rw [hop]; intro c hc'; cases hc')]
    simp [execOp, hop, resolve, invoke, builtin, hs, hx, hrun, Result.andThen]
    exact hK

set_option maxRecDepth 100000 in
set_option maxHeartbeats 4000000 in
theorem split_in (w : World) (ao : Option Addr) (len cap : Nat) (zs : List Int) (h : Has w (.slice ao len cap) zs) (hl : zs.length ≤ 1048576) :
    CallsIn Fence.wide 9 Tryd.prog 21 #[.slice ao len cap] w fun e W' => ∃ v', e = .returned (.tuple #[v', .int .i64 (resE (seqOf zs))]) ∧ Rows2 W' w.heap.size v' (resL (seqOf zs)) ∧ Below w.heap.size w W' := by
  obtain ⟨i0, hi, hz0, hz1, hz2⟩ := info_parts info22
  have hw : ∀ k, Fence.wide.fn k := fun _ => trivial
  refine callsIn_of_wp_marks Tryd.func21 rfl trivial ?_ rfl
  simp only [Tryd.ntmps21, List.size_toArray, List.length_cons, List.length_nil, Nat.reduceAdd, Nat.reduceSub, Array.replicate_succ, Array.replicate_zero, List.push_toArray, List.append_toArray, List.nil_append, List.cons_append]
  gi_wp2_with (gi_at_call 29; refine (partsOf_in _ _ _ _ _).mono ?_; rintro e w' ⟨rfl, rfl⟩)
  obtain ⟨W0, hW0⟩ : ∃ W0, (((w.alloc (.cells #[.slice none 0 0] 46)).alloc (.cells #[.int .i64 0] 30)).alloc (.cells #[.slice none 0 0] 46)).alloc (.cells #[.slice ao len cap] 22) = W0 := ⟨_, rfl⟩
  have hsz : W0.heap.size = w.heap.size + 4 := by rw [← hW0]; simp
  have b0 : Boxed W0 w.heap.size 46 (.slice none 0 0) := by rw [← hW0]; exact (((Boxed.new w _ _).alloc _).alloc _).alloc _
  have b1 : Boxed W0 (w.heap.size + 1) 30 (.int .i64 0) := by
    have := ((Boxed.new (w.alloc (.cells #[.slice none 0 0] 46)) 30 (.int .i64 0)).alloc (.cells #[.slice none 0 0] 46)).alloc (.cells #[.slice ao len cap] 22)
    rw [World.size_alloc] at this
    rw [← hW0]; exact this
  have b2 : Boxed W0 (w.heap.size + 1 + 1) 46 (.slice none 0 0) := by
    have := (Boxed.new ((w.alloc (.cells #[.slice none 0 0] 46)).alloc (.cells #[.int .i64 0] 30)) 46 (.slice none 0 0)).alloc (.cells #[.slice ao len cap] 22)
    rw [World.size_alloc, World.size_alloc] at this
    rw [← hW0]; exact this
  have b3 : Boxed W0 (w.heap.size + 1 + 1 + 1) 22 (.slice ao len cap) := by
    have := Boxed.new (((w.alloc (.cells #[.slice none 0 0] 46)).alloc (.cells #[.int .i64 0] 30)).alloc (.cells #[.slice none 0 0] 46)) 22 (.slice ao len cap)
    rw [World.size_alloc, World.size_alloc, World.size_alloc] at this
    rw [← hW0]; exact this
  have hB0 : Below w.heap.size w W0 := by rw [← hW0]; exact ((((Below.refl _ w).alloc (Nat.le_refl _) _).alloc (by simp) _).alloc (by simp; omega) _).alloc (by simp; omega) _
  rw [hW0]
  clear hW0
  refine wpIn_rangeFunc_ownG rfl (by decide) (gf := 31) (lb := #[.pointer (some ⟨w.heap.size + 1 + 1 + 1, 0, none⟩)]) rfl trivial (enters_of Tryd.func31 (by kernel_rfl) rfl)
    (iter_stops (9 - 1) (by decide) (w.heap.size + 1 + 1 + 1) w W0 _ zs h (by omega) b3.cell hB0) belowK_t (belowK_b (by omega)) (Below.refl _ _) (fun _ => rfl)
    (fun pre W => (∀ x ∈ pre, x.1.2.2 = 0) ∧ Boxed W w.heap.size 46 (.slice none 0 0) ∧ Boxed W (w.heap.size + 1) 30 (.int .i64 0) ∧ (∃ v, Boxed W (w.heap.size + 1 + 1) 46 v ∧ Rows2 W w.heap.size v (pre.map fun x => x.1.2.1)) ∧ Below w.heap.size w W)
    (fun c pre W => c = .ret ∧ resE (pre.map PartAt.said) ≠ 0 ∧ Boxed W w.heap.size 46 (.slice none 0 0) ∧ Boxed W (w.heap.size + 1) 30 (.int .i64 (resE (pre.map PartAt.said))) ∧ Below w.heap.size w W)
    ?hI ?hIx ?h0
    (fun x => { tmps := #[.slice ao len cap, undef, .pointer (some ⟨w.heap.size, 0, none⟩), .pointer (some ⟨w.heap.size + 1, 0, none⟩), .pointer (some ⟨w.heap.size + 1 + 1, 0, none⟩), x.1.1, .int .i64 x.1.2.2, .slice ao len cap, .func (.func 31) #[] #[.pointer (some ⟨w.heap.size + 1 + 1 + 1, 0, none⟩)], x.1.1, .int .i64 x.1.2.2, undef, undef, undef, undef, undef, undef, undef, undef, undef], defers := [] }) ?assign ?body ?done ?stop
  case hI =>
    rintro s A B row ⟨hz, h0, h1, ⟨v, hv, hr⟩, hB⟩ hg hrow
    have hrow' : ∀ r, row = some r → ∃ o : Obj, A.heap[r]? = some o ∧ o.isCells = false := fun r e => (hrow r e).2
    exact ⟨hz, boxed_turn h0 hg hrow', boxed_turn h1 hg hrow', ⟨v, boxed_turn hv hg hrow', hr.turn hg hrow'⟩, hB.grown hg hB.size (fun k e => by have := (hrow k e).1; omega)⟩
  case hIx =>
    rintro c s A B row ⟨hc, hz, h0, h1, hB⟩ hg hrow
    have hrow' : ∀ r, row = some r → ∃ o : Obj, A.heap[r]? = some o ∧ o.isCells = false := fun r e => (hrow r e).2
    exact ⟨hc, hz, boxed_turn h0 hg hrow', boxed_turn h1 hg hrow', hB.grown hg hB.size (fun k e => by have := (hrow k e).1; omega)⟩
  case h0 => exact ⟨by simp, b0, b1, ⟨_, b2, [], rfl, World.ownsRow_nil _ _ _ _, by simp⟩, hB0⟩
  case assign =>
    intro l x W K hK
    gi_wp2
    exact hK
  case body =>
    rintro l pre x W ⟨hz, hb0, hb1, ⟨v, hbv, hrows⟩, hB⟩ hlt
    have hmx : Tryd.prog.follows .mixedOrders = true := by kernel_rfl
    have hd1 : 1 ≤ 9 - 1 - 1 := by decide
    obtain ⟨e, he'⟩ : ∃ e, x.1.2.2 = e := ⟨_, rfl⟩
    obtain ⟨u, hu⟩ : ∃ u, x.1.1 = u := ⟨_, rfl⟩
    have hp := x.2
    rw [hu] at hp
    rw [he', hu]
    by_cases he : e = 0
    · subst he
      have hlen : (pre.map fun x => x.1.2.1).length ≤ 1048576 := by have := seqOf_len zs; simp; omega
      have HP := hid hp
      have HRW := hid hrows
      have HBV := hid hbv
      have HE := hid he'
      have hcv := hbv.cell
      have hbs := hB.size
      have hpl := hp.2.1
      clear hrows hbv hp he' hu
      gi_wp2
      refine wpIn_region_any hmx ?_
      try (change wpAnyIn _ _ _ _ _ _ _ _ _ (World.drew _))
      refine wpAnyIn_ready (rs := [0, 1]) (by kernel_rfl) (by simp) ?_
      refine AllReadyIn.cons rfl (fun K hK => ?_) ?_
      · go_simp
        refine hK _ _ ?_
        clear hK K
        refine wpAnyIn_ready (rs := [1]) (by kernel_rfl) (by simp) ?_
        refine AllReadyIn.cons rfl (fun K hK => ?_) AllReadyIn.nil
        go_simp
        refine hK _ _ ?_
        clear hK K
        refine wpAnyIn_ready (rs := [2]) (by kernel_rfl) (by simp) ?_
        refine AllReadyIn.cons rfl (fun K hK => ?_) AllReadyIn.nil
        go_simp
        gi_wp2_with (gi_at_call 30; refine (CallsIn.inRound l (callsIn_wide.2 (clone_own (HP.out.below hB.drew) hpl))).mono ?_; rintro e W1 ⟨c, rfl, hc, hbc⟩; have hbW : Below W.heap.size W W1 := ((Below.refl _ _).drew).trans hbc; obtain ⟨ac, cc, rfl, _, _⟩ := own_any hc; have hN1 : w.heap.size ≤ W1.heap.size := Nat.le_trans hbs hbW.size; obtain ⟨g, m, cap', W2, hrun, hv1, hv2, hr2, hk2, hb2, hot⟩ := split_append hN1 (show w.heap.size ≤ w.heap.size + 1 + 1 by omega) (box_below HBV.out hbW) (HRW.out.below hbW) (own_mono hc hbs) hlen; have hcv1 := (box_below HBV.out hbW).cell; have hclt := (box_below HBV.out hbW).lt; have hc2 := hv1.cell; have hf2 := hv1.frozen)
        refine wpAnyIn_ready (rs := [3]) (by kernel_rfl) (by simp) ?_
        refine AllReadyIn.cons rfl (fun K hK => ?_) AllReadyIn.nil
        go_simp
        refine hK _ _ ?_
        clear hK K
        refine wpAnyIn_ready (rs := [4]) (by kernel_rfl) (by simp) ?_
        refine AllReadyIn.cons rfl (fun K hK => ?_) AllReadyIn.nil
        refine opIn_append (.tmp 14) (.tmp 17) 46 rfl rfl rfl hrun (hK _ _ ?_)
        clear hK K
        refine wpAnyIn_ready (rs := [5]) (by kernel_rfl) (by simp) ?_
        refine AllReadyIn.cons rfl (fun K hK => ?_) AllReadyIn.nil
        go_simp
        refine hK _ _ ?_
        clear hK K
        refine wpAnyIn_done (by kernel_rfl) ?_ _
        refine ⟨(KeepsOthers.trans (keeps_below hbW) hk2).from _, (hbW.mono hbs).trans hb2, ?_, hot _ _ _ (box_below hb0 hbW) (by omega) (by decide), hot _ _ _ (box_below hb1 hbW) (by omega) (by decide), ⟨_, hv2, by rw [List.map_append]; exact hr2⟩, hB.trans ((hbW.mono hbs).trans hb2)⟩
        exact errs_snoc hz HE.out
      refine AllReadyIn.cons rfl (fun K hK => ?_) AllReadyIn.nil
      go_simp
      refine hK _ _ ?_
      clear hK K
      refine wpAnyIn_ready (rs := [0, 2]) (by kernel_rfl) (by simp) ?_
      refine AllReadyIn.cons rfl (fun K hK => ?_) ?_
      · go_simp
        refine hK _ _ ?_
        clear hK K
        refine wpAnyIn_ready (rs := [2]) (by kernel_rfl) (by simp) ?_
        refine AllReadyIn.cons rfl (fun K hK => ?_) AllReadyIn.nil
        go_simp
        gi_wp2_with (gi_at_call 30; refine (CallsIn.inRound l (callsIn_wide.2 (clone_own (HP.out.below hB.drew) hpl))).mono ?_; rintro e W1 ⟨c, rfl, hc, hbc⟩; have hbW : Below W.heap.size W W1 := ((Below.refl _ _).drew).trans hbc; obtain ⟨ac, cc, rfl, _, _⟩ := own_any hc; have hN1 : w.heap.size ≤ W1.heap.size := Nat.le_trans hbs hbW.size; obtain ⟨g, m, cap', W2, hrun, hv1, hv2, hr2, hk2, hb2, hot⟩ := split_append hN1 (show w.heap.size ≤ w.heap.size + 1 + 1 by omega) (box_below HBV.out hbW) (HRW.out.below hbW) (own_mono hc hbs) hlen; have hcv1 := (box_below HBV.out hbW).cell; have hclt := (box_below HBV.out hbW).lt; have hc2 := hv1.cell; have hf2 := hv1.frozen)
        refine wpAnyIn_ready (rs := [3]) (by kernel_rfl) (by simp) ?_
        refine AllReadyIn.cons rfl (fun K hK => ?_) AllReadyIn.nil
        go_simp
        refine hK _ _ ?_
        clear hK K
        refine wpAnyIn_ready (rs := [4]) (by kernel_rfl) (by simp) ?_
        refine AllReadyIn.cons rfl (fun K hK => ?_) AllReadyIn.nil
        refine opIn_append (.tmp 14) (.tmp 17) 46 rfl rfl rfl hrun (hK _ _ ?_)
        clear hK K
        refine wpAnyIn_ready (rs := [5]) (by kernel_rfl) (by simp) ?_
        refine AllReadyIn.cons rfl (fun K hK => ?_) AllReadyIn.nil
        go_simp
        refine hK _ _ ?_
        clear hK K
        refine wpAnyIn_done (by kernel_rfl) ?_ _
        refine ⟨(KeepsOthers.trans (keeps_below hbW) hk2).from _, (hbW.mono hbs).trans hb2, ?_, hot _ _ _ (box_below hb0 hbW) (by omega) (by decide), hot _ _ _ (box_below hb1 hbW) (by omega) (by decide), ⟨_, hv2, by rw [List.map_append]; exact hr2⟩, hB.trans ((hbW.mono hbs).trans hb2)⟩
        exact errs_snoc hz HE.out
      refine AllReadyIn.cons rfl (fun K hK => ?_) AllReadyIn.nil
      go_simp
      gi_wp2_with (gi_at_call 30; refine (CallsIn.inRound l (callsIn_wide.2 (clone_own (HP.out.below hB.drew) hpl))).mono ?_; rintro e W1 ⟨c, rfl, hc, hbc⟩; have hbW : Below W.heap.size W W1 := ((Below.refl _ _).drew).trans hbc; obtain ⟨ac, cc, rfl, _, _⟩ := own_any hc; have hN1 : w.heap.size ≤ W1.heap.size := Nat.le_trans hbs hbW.size; obtain ⟨g, m, cap', W2, hrun, hv1, hv2, hr2, hk2, hb2, hot⟩ := split_append hN1 (show w.heap.size ≤ w.heap.size + 1 + 1 by omega) (box_below HBV.out hbW) (HRW.out.below hbW) (own_mono hc hbs) hlen; have hcv1 := (box_below HBV.out hbW).cell; have hclt := (box_below HBV.out hbW).lt; have hc2 := hv1.cell; have hf2 := hv1.frozen)
      refine wpAnyIn_ready (rs := [0, 3]) (by kernel_rfl) (by simp) ?_
      refine AllReadyIn.cons rfl (fun K hK => ?_) ?_
      · go_simp
        refine hK _ _ ?_
        clear hK K
        refine wpAnyIn_ready (rs := [3]) (by kernel_rfl) (by simp) ?_
        refine AllReadyIn.cons rfl (fun K hK => ?_) AllReadyIn.nil
        go_simp
        refine hK _ _ ?_
        clear hK K
        refine wpAnyIn_ready (rs := [4]) (by kernel_rfl) (by simp) ?_
        refine AllReadyIn.cons rfl (fun K hK => ?_) AllReadyIn.nil
        refine opIn_append (.tmp 14) (.tmp 17) 46 rfl rfl rfl hrun (hK _ _ ?_)
        clear hK K
        refine wpAnyIn_ready (rs := [5]) (by kernel_rfl) (by simp) ?_
        refine AllReadyIn.cons rfl (fun K hK => ?_) AllReadyIn.nil
        go_simp
        refine hK _ _ ?_
        clear hK K
        refine wpAnyIn_done (by kernel_rfl) ?_ _
        refine ⟨(KeepsOthers.trans (keeps_below hbW) hk2).from _, (hbW.mono hbs).trans hb2, ?_, hot _ _ _ (box_below hb0 hbW) (by omega) (by decide), hot _ _ _ (box_below hb1 hbW) (by omega) (by decide), ⟨_, hv2, by rw [List.map_append]; exact hr2⟩, hB.trans ((hbW.mono hbs).trans hb2)⟩
        exact errs_snoc hz HE.out
      refine AllReadyIn.cons rfl (fun K hK => ?_) AllReadyIn.nil
      go_simp
      refine hK _ _ ?_
      clear hK K
      refine wpAnyIn_ready (rs := [0]) (by kernel_rfl) (by simp) ?_
      refine AllReadyIn.cons rfl (fun K hK => ?_) AllReadyIn.nil
      go_simp
      refine hK _ _ ?_
      clear hK K
      refine wpAnyIn_ready (rs := [4]) (by kernel_rfl) (by simp) ?_
      refine AllReadyIn.cons rfl (fun K hK => ?_) AllReadyIn.nil
      refine opIn_append (.tmp 14) (.tmp 17) 46 rfl rfl rfl hrun (hK _ _ ?_)
      clear hK K
      refine wpAnyIn_ready (rs := [5]) (by kernel_rfl) (by simp) ?_
      refine AllReadyIn.cons rfl (fun K hK => ?_) AllReadyIn.nil
      go_simp
      refine hK _ _ ?_
      clear hK K
      refine wpAnyIn_done (by kernel_rfl) ?_ _
      refine ⟨(KeepsOthers.trans (keeps_below hbW) hk2).from _, (hbW.mono hbs).trans hb2, ?_, hot _ _ _ (box_below hb0 hbW) (by omega) (by decide), hot _ _ _ (box_below hb1 hbW) (by omega) (by decide), ⟨_, hv2, by rw [List.map_append]; exact hr2⟩, hB.trans ((hbW.mono hbs).trans hb2)⟩
      exact errs_snoc hz HE.out
    · have hne : (e != 0) = true := by simpa using he
      have HE := hid he'
      have hc0 := hb0.cell
      have hf0 := hb0.frozen
      have hc1 := hb1.cell
      have hf1 := hb1.frozen
      have hres : resE ((pre ++ [x]).map PartAt.said) = e := by
        have h1 : resE (pre.map PartAt.said) = 0 := resE_zero fun y hy => by
          obtain ⟨z, hz', rfl⟩ := List.mem_map.1 hy
          exact hz z hz'
        rw [List.map_append, resE_append _ _ h1]
        simp [resE, PartAt.said, he', he]
      have HRES := hid hres
      clear hres he' hu hrows hbv
      gi_wp2
      have hx0 := hb0.set (.slice none 0 0)
      have hx1 := box_other hb1 (show w.heap.size + 1 ≠ w.heap.size by omega) (.slice none 0 0)
      have hy0 := box_other hx0 (show w.heap.size ≠ w.heap.size + 1 by omega) (.int .i64 e)
      have hy1 := hx1.set (.int .i64 e)
      have hBx : Below w.heap.size w ((W.setCell ⟨w.heap.size, 0, none⟩ (.slice none 0 0)).setCell ⟨w.heap.size + 1, 0, none⟩ (.int .i64 e)) := (hB.setCell (p := ⟨w.heap.size, 0, none⟩) (Nat.le_refl _) _).setCell (p := ⟨w.heap.size + 1, 0, none⟩) (by show w.heap.size ≤ w.heap.size + 1; omega) _
      exact ⟨((KeepsOthers.setCell _ _ _).trans (KeepsOthers.setCell _ _ _)).from _, rfl, by rw [HRES.out]; exact he, hy0, by rw [HRES.out]; exact hy1, hBx⟩
  case done =>
    rintro D ys W hD hS ⟨hz, hb0, hb1, ⟨v, hbv, hrows⟩, hB⟩ hK
    obtain ⟨av, m, cv, rfl⟩ := hrows.form
    have hcv := hbv.cell
    have hc0 := hb0.cell
    have hf0 := hb0.frozen
    have hc1 := hb1.cell
    have hf1 := hb1.frozen
    have hfull : resE (seqOf zs) = 0 := by
      rw [← hS]
      refine resE_zero fun x hx => ?_
      obtain ⟨y, hy, rfl⟩ := List.mem_map.1 hx
      exact hz y hy
    have hL : resL (seqOf zs) = ys.map fun x => x.1.2.1 := by
      unfold resL
      rw [if_pos hfull, ← hS, List.map_map]
      rfl
    have HF := hid hfull
    have HL := hid hL
    clear hfull hL
    gi_wp2
    have hr1 := hrows.setBox hb0 (by decide) (by decide) (.slice av m cv)
    have hx0 := hb0.set (.slice av m cv)
    have hx1 := box_other hb1 (show w.heap.size + 1 ≠ w.heap.size by omega) (.slice av m cv)
    have hr2 := hr1.setBox hx1 (by decide) (by decide) (.int .i64 0)
    have hy0 := box_other hx0 (show w.heap.size ≠ w.heap.size + 1 by omega) (.int .i64 0)
    have hy1 := hx1.set (.int .i64 0)
    have hK' := ((KeepsOthers.setCell W ⟨w.heap.size, 0, none⟩ (.slice av m cv)).trans (KeepsOthers.setCell _ ⟨w.heap.size + 1, 0, none⟩ (.int .i64 0))).same D _ hK rfl
    refine ⟨by simp, .inl ⟨_, _, rfl, run_takeDeferred hK', ?_⟩⟩
    have hrow : ∀ r, some D = some r → ∃ o : Obj, ((W.setCell ⟨w.heap.size, 0, none⟩ (.slice av m cv)).setCell ⟨w.heap.size + 1, 0, none⟩ (.int .i64 0)).heap[r]? = some o ∧ o.isCells = false := fun r e => by cases e; exact ⟨_, hK', rfl⟩
    have hk5 := cell_kept hy0.cell (grownBy_putObj' _ D (.deferred none)) hrow
    have hb5 := cell_kept hy1.cell (grownBy_putObj' _ D (.deferred none)) hrow
    have hBx : Below w.heap.size w ((W.setCell ⟨w.heap.size, 0, none⟩ (.slice av m cv)).setCell ⟨w.heap.size + 1, 0, none⟩ (.int .i64 0)) := (hB.setCell (p := ⟨w.heap.size, 0, none⟩) (Nat.le_refl _) _).setCell (p := ⟨w.heap.size + 1, 0, none⟩) (by show w.heap.size ≤ w.heap.size + 1; omega) _
    rw [HF.out, HL.out]
    refine ⟨.tuple #[.slice av m cv, .int .i64 0], ?_, _, rfl, hr2.turn (grownBy_putObj' _ D (.deferred none)) hrow, hBx.trans (belowK_b (w := w) (Nat.le_refl _) _ D _ _ (by omega) hK' rfl rfl)⟩
    simp [results, Tryd.f21, go_sem, hk5, hb5]
  case stop =>
    rintro D c pre W hD hSp ⟨rfl, hne, hb0, hb1, hB⟩ hK
    have hfull : resE (seqOf zs) = resE (pre.map PartAt.said) := by
      obtain ⟨t, ht⟩ := hSp
      rw [← ht, resE_stop hne]
    have hL : resL (seqOf zs) = [] := by unfold resL; rw [hfull, if_neg hne]
    have HF := hid hfull
    have HL := hid hL
    clear hfull hL
    gi_wp2
    refine ⟨by simp, .inl ⟨_, _, rfl, run_takeDeferred hK, ?_⟩⟩
    rw [HF.out, HL.out]
    have hk5 := cell_kept hb0.cell (grownBy_putObj' _ D (.deferred none)) (fun r e => by cases e; exact ⟨_, hK, rfl⟩)
    have hb5 := cell_kept hb1.cell (grownBy_putObj' _ D (.deferred none)) (fun r e => by cases e; exact ⟨_, hK, rfl⟩)
    refine ⟨.tuple #[.slice none 0 0, .int .i64 (resE (pre.map PartAt.said))], ?_, _, rfl, ⟨[], rfl, World.ownsRow_nil _ _ _ _, by simp⟩, hB.trans (belowK_b (w := w) (Nat.le_refl _) W D _ _ (by omega) hK rfl rfl)⟩
    simp [results, Tryd.f21, go_sem, hk5, hb5]

theorem split_any {w : World} {v : Value} {zs : List Int} (h : Has w v zs) (hl : zs.length ≤ 1048576) :
    Calls Tryd.prog 21 #[v] w fun e W' => ∃ v', e = .returned (.tuple #[v', .int .i64 (resE (seqOf zs))]) ∧ Rows2 W' w.heap.size v' (resL (seqOf zs)) ∧ Below w.heap.size w W' := by
  obtain ⟨ao, cap, rfl, _⟩ := h.open
  exact callsIn_wide.1 (split_in w ao _ cap zs h hl)
end Go.Proofs.YtongdccpoefnlaaDoor
