/-
  Layer 14: plan's Round.
-/
import Derived.Test.YtjfnbgjnmjdeeaaPLRndI
namespace Go.Proofs.Ytjfnbgjnmjdeeaa
open Go.RowKit Go.Shelf Go.Sort

attribute [local go_sem] Oper.semAt_some

theorem ways_nodup {xs : List ER} (ls : List (List Pp)) (hr : Rise xs) (hid' : ∀ x ∈ xs, 1 ≤ x.id) : ((allLd xs ls).map (·.1)).Nodup := by
  unfold allLd
  rw [List.map_map, List.Nodup, List.pairwise_map]
  have hr' : (List.range (2 * xs.length)).Pairwise (· < ·) := List.pairwise_lt_range
  refine (hr'.and (List.pairwise_of_forall_mem_list (r := fun a b => a < 2 * xs.length ∧ b < 2 * xs.length) fun a ha b hb => ⟨List.mem_range.1 ha, List.mem_range.1 hb⟩)).imp fun {a b} h => ?_
  obtain ⟨hab, ha, hb⟩ := h
  show ldW xs a ≠ ldW xs b
  have ga : ∀ k, k < 2 * xs.length → ∃ x, xs[k / 2]? = some x ∧ (xs.getD (k / 2) default) = x ∧ 1 ≤ x.id := fun k hk => by
    have h2 : k / 2 < xs.length := by omega
    exact ⟨xs[k / 2], List.getElem?_eq_getElem h2, by rw [List.getD_eq_getElem?_getD, List.getElem?_eq_getElem h2]; rfl, hid' _ (List.getElem_mem h2)⟩
  obtain ⟨x, hx, ex, hx1⟩ := ga a ha
  obtain ⟨y, hy, ey, hy1⟩ := ga b hb
  unfold ldW
  rw [ex, ey]
  rcases (show a / 2 < b / 2 ∨ a / 2 = b / 2 by omega) with h | h
  · have := hr _ _ _ _ h hx hy
    split <;> split <;> omega
  · rw [h, hy] at hx
    injection hx with hx
    subst hx
    split <;> split <;> omega
theorem grp_nodup {ys : List LdT} (h : (ys.map (·.1)).Nodup) (k : Int) : ((grp ys k).map (·.1)).Nodup := by
  unfold grp
  exact ((List.filter_sublist (l := ys)).map _).nodup h
theorem nrow_toBase {w : World} {base base' : Nat} {v : Value} {zs : List Int} (h : NRow w base v zs) (hb : base' ≤ base) : NRow w base' v zs := by
  refine ⟨h.1, ?_⟩
  rcases h.2 with h0 | ⟨g, cap, cur, h1, h2, h3⟩
  · exact .inl h0
  · exact .inr ⟨g, cap, cur, h1, Nat.le_trans hb h2, h3⟩
theorem nrow_turn {w w' : World} {base : Nat} {v : Value} {zs : List Int} {row : Option Nat} (h : NRow w base v zs) (hg : w.grownBy w' row) (hr : ∀ r, row = some r → ∃ o : Obj, w.heap[r]? = some o ∧ o.isCells = false) : NRow w' base v zs := by
  refine ⟨h.1, ?_⟩
  rcases h.2 with h0 | ⟨g, cap, cur, h1, h2, h3, h4⟩
  · exact .inl h0
  · exact .inr ⟨g, cap, cur, h1, h2, cellsTurn hg hr h3, h4⟩

theorem Kr.putObj {Bo R b bo : Nat} (W : World) (l : Nat) (o' : Obj) (hl : l < W.heap.size) (h1 : Bo < l) (h2 : R < l) (h3 : b < l) (h4 : bo < l) : Kr Bo R b bo W (W.putObj l o') :=
  ⟨(grownBy_putObj' W l o').size, (grownBy_putObj' W l o').block _ (by omega) (fun e => by injection e with e; omega), (grownBy_putObj' W l o').block _ (by omega) (fun e => by injection e with e; omega), (grownBy_putObj' W l o').block _ (by omega) (fun e => by injection e with e; omega), (grownBy_putObj' W l o').block _ (by omega) (fun e => by injection e with e; omega)⟩
/-- Amid Round: the box of what it tells, the row. -/
structure RoI (w : World) (Bl base : Nat) (v : Value) (zs : List Int) (W : World) : Prop where
  box : Boxed W Bl 31 v
  row : NRow W base v zs
  below : Below w.heap.size w W
  big : base ≤ W.heap.size
theorem RoI.turn {w W W' : World} {Bl base : Nat} {v : Value} {zs : List Int} {row : Option Nat} (h : RoI w Bl base v zs W) (hg : W.grownBy W' row) (hr : ∀ r, row = some r → w.heap.size ≤ r ∧ ∃ o : Obj, W.heap[r]? = some o ∧ o.isCells = false) : RoI w Bl base v zs W' :=
  ⟨cellsTurn hg (fun r e => (hr r e).2) h.box, nrow_turn h.row hg (fun r e => (hr r e).2), h.below.grown hg h.below.size (fun k e => (hr k e).1), Nat.le_trans h.big hg.size⟩
/-- What an append behind the box does. -/
theorem RoI.step {w W : World} {Bl base : Nat} {v : Value} {zs : List Int} (h : RoI w Bl base v zs W) (hw : w.heap.size ≤ Bl) (hB : Bl < base) (hl : zs.length ≤ 1000000) (z : Int) :
    ∃ ao cap W1, (Builtin.append_ #[31, 31] 31 #[v, .slice (some ⟨W.heap.size, 0, none⟩) 1 1]).run Try.prog (W.alloc (.cells #[.int .i64 z] 3)) = .ok (.slice ao (zs.length + 1) cap) W1 ∧ Boxed W1 Bl 31 v ∧
      RoI w Bl base (.slice ao (zs.length + 1) cap) (zs ++ [z]) (W1.setCell ⟨Bl, 0, none⟩ (.slice ao (zs.length + 1) cap)) ∧ KeepsOthers W (W1.setCell ⟨Bl, 0, none⟩ (.slice ao (zs.length + 1) cap)) ∧ W.heap.size ≤ (W1.setCell ⟨Bl, 0, none⟩ (.slice ao (zs.length + 1) cap)).heap.size ∧ ∀ k, k < base → k ≠ Bl → (W1.setCell ⟨Bl, 0, none⟩ (.slice ao (zs.length + 1) cap)).heap[k]? = W.heap[k]? := by
  obtain ⟨ao, cap, W1, hrun, hrow1, hgr⟩ := nrow_snocB h.row h.big hl z
  have hr0 : NRow W Bl v zs := nrow_toBase h.row (by omega)
  have hr1 : NRow W1 Bl (.slice ao (zs.length + 1) cap) (zs ++ [z]) := nrow_toBase (base := base) (show NRow W1 base _ _ by unfold NRow; rw [List.length_append]; exact hrow1) (by omega)
  unfold NRow at hr1
  rw [List.length_append] at hr1
  obtain ⟨q1, q2, q3, q4, q5⟩ := h.box.appended (by decide) hr0 (by have := h.big; omega) (Nat.le_refl _) hr1 hgr
  have hkeep : ∀ k, k < base → k ≠ Bl → (W1.setCell ⟨Bl, 0, none⟩ (.slice ao (zs.length + 1) cap)).heap[k]? = W.heap[k]? := fun k hk hne => by
    have hkW : k < W.heap.size := by have := h.big; omega
    have e1 : (W.alloc (.cells #[.int .i64 z] 3)).heap[k]? = W.heap[k]? := ((Below.refl _ W).alloc (Nat.le_refl _) _).block k hkW
    have e2 : W1.heap[k]? = (W.alloc (.cells #[.int .i64 z] 3)).heap[k]? := hgr.block k (by simp; omega) (fun e => by have := (h.row.lt e.symm).2; omega)
    exact ((grownBy_setCell' W1 Bl _).block k (by have := hgr.size; simp at this; omega) (fun e => hne (by injection e))).trans (e2.trans e1)
  refine ⟨ao, cap, W1, hrun, q1, ⟨q2, ?_, h.below.trans (q5.mono hw), Nat.le_trans h.big q5.size⟩, q4, q5.size, hkeep⟩
  have hne : some Bl ≠ (Value.slice ao (zs.length + 1) cap).ownBlock := fun e => by
    have h3 : NRow W1 base (.slice ao (zs.length + 1) cap) (zs ++ [z]) := by unfold NRow; rw [List.length_append]; exact hrow1
    have := (h3.lt e.symm).2
    omega
  unfold NRow
  rw [List.length_append]
  exact World.ownsRow.kept hrow1 (grownBy_setCell' W1 Bl _) (.inr fun e => hne e.symm)

set_option maxRecDepth 100000 in
set_option maxHeartbeats 6400000 in
theorem roundOf_in {w : World} {b off n cap : Nat} {ao : Option Addr} {xs : List ER} {ls : List (List Pp)} (h : PlE w b off n ao xs ls) (no : Option Addr) (nl nc : Nat) (node : Int) (h0 : -9223372036854775808 ≤ node) (h1 : node ≤ 9223372036854775807) :
    CallsIn Fence.wide 14 Try.prog 5 #[plV (.slice no nl nc) (.slice ao n cap), .int .i64 node] w fun e w' => ∃ v, e = .returned v ∧ NRow w' w.heap.size v ((ordL (grp (allLd xs ls) node)).map (·.1)) ∧ Below w.heap.size w w' := by
  have hfn : ∀ k, Fence.wide.fn k := fun _ => trivial
  obtain ⟨wA, hwA⟩ : ∃ wA, w.alloc (.cells #[.slice no nl nc, .slice ao n cap] 30) = wA := ⟨_, rfl⟩
  obtain ⟨wB, hwB⟩ : ∃ wB, wA.alloc (.cells #[.slice none 0 0] 31) = wB := ⟨_, rfl⟩
  have sA : wA.heap.size = w.heap.size + 1 := by rw [← hwA]; simp
  have sB : wB.heap.size = w.heap.size + 2 := by rw [← hwB]; simp [sA]
  have hbA : Below w.heap.size w wA := by rw [← hwA]; exact (Below.refl _ w).alloc (Nat.le_refl _) _
  have hbB : Below wA.heap.size wA wB := by rw [← hwB]; exact (Below.refl _ wA).alloc (Nat.le_refl _) _
  have hhA : wA.heap[w.heap.size]? = some (.cells #[.slice no nl nc, .slice ao n cap] 30) := by rw [← hwA]; unfold World.alloc; simp
  have hhB := (hbB.block w.heap.size (by omega)).trans hhA
  have c0 : wB.cell? ⟨w.heap.size, 0, none⟩ = some (.slice no nl nc) := by simp [World.cell?, hhB]
  have c1 : wB.cell? ⟨w.heap.size, 1, none⟩ = some (.slice ao n cap) := by simp [World.cell?, hhB]
  have bAB : Below w.heap.size w wB := hbA.trans (hbB.mono (by omega))
  have hbl : Boxed wB (w.heap.size + 1) 31 (.slice none 0 0) := by rw [← hwB, ← sA]; exact Boxed.new wA _ _
  have hPB : PlE wB b off n ao xs ls := h.below bAB
  have HBN := hid (byNode_any (cap := cap) hPB no nl nc)
  have HG := hid (show ∀ (W : World) (base : Nat) (v : Value), LRow W base v (grp ((List.range (2 * n)).map (ldT xs ls)) node) → _ from fun W base v hv => round_any hv (by
    have e : (List.range (2 * n)).map (ldT xs ls) = allLd xs ls := by unfold allLd; rw [h.len]
    rw [e]
    exact grp_nodup (ways_nodup ls h.rise fun x hx => (h.ids x hx).1) node) (by
    have := grp_len ((List.range (2 * n)).map (ldT xs ls)) node
    rw [List.length_map, List.length_range] at this
    have := h.few
    omega))
  have HE := hid (show (List.range (2 * n)).map (ldT xs ls) = allLd xs ls by unfold allLd; rw [h.len])
  have HS := hid (And.intro sB (And.intro bAB hbl))
  have hfew := h.few
  clear h hPB hhA hhB hbA hbB bAB hbl
  refine callsIn_of_wp_marks Try.func5 rfl trivial ?_ rfl
  simp only [Try.ntmps5, List.size_toArray, List.length_cons, List.length_nil, Nat.reduceAdd, Nat.reduceSub, Array.replicate_succ, Array.replicate_zero, List.push_toArray, List.append_toArray, List.nil_append, List.cons_append]
  gi_wp2_with (first
    | (gi_at_call 10; refine (callsIn_wide.2 HBN.out).mono ?_; rintro e w1 ⟨B, f, rfl, hm, hr, _, _, hb1⟩; have hlk := hm.look Try.underlying45 (zeroL w1) h0 h1; have hr1 := hr node; obtain ⟨ao1, cap1, hf1⟩ := hr1.form; rw [hf1] at hlk hr1; have HR1 := hid (And.intro hr1 hb1); clear HBN hm hr hr1 hb1 hf1)
    | (gi_at_call 9; refine (callsIn_wide.2 (HG.out _ _ _ HR1.out.1)).mono ?_; rintro e w2 ⟨Bo, R, b2, bo, oo, cap2, cap3, ao2, ao3, rfl, hM, hB1, hB2, hB3, hB4, hb2⟩; have HM := hid hM; have HB := hid (And.intro hB1 (And.intro hB2 (And.intro hB3 (And.intro hB4 hb2)))); clear HG hM hB1 hB2 hB3 hB4 hb2))
  obtain ⟨hsB, bAB, hbl⟩ := HS.out
  obtain ⟨hr1, hb1⟩ := HR1.out
  obtain ⟨⟨o1, o1'⟩, ⟨o2, o2'⟩, ⟨o3, o3'⟩, ⟨o4, o4'⟩, hb2⟩ := HB.out
  have hM := HM.out
  have bw1 : Below w.heap.size w w1 := bAB.trans (hb1.mono (by omega))
  have bw2 : Below w.heap.size w w2 := bw1.trans (hb2.mono bw1.size)
  have hs1 : w.heap.size + 2 ≤ w1.heap.size := by have := hb1.size; omega
  have hs2 : w1.heap.size ≤ w2.heap.size := hb2.size
  have hbl2 : Boxed w2 (w.heap.size + 1) 31 (.slice none 0 0) := (hb2.block _ (by omega)).trans ((hb1.block _ (by omega)).trans hbl)
  obtain ⟨N, hN⟩ : ∃ N, (grp ((List.range (2 * n)).map (ldT xs ls)) node).length = N := ⟨_, rfl⟩
  rw [hN] at hM
  have hml := hM.len
  have hmf := hM.few
  have HEQ := hid (show (ordG (wayS (grp ((List.range (2 * n)).map (ldT xs ls)) node))) = ordL (grp (allLd xs ls) node) by rw [HE.out]; rfl)
  generalize wayS (grp ((List.range (2 * n)).map (ldT xs ls)) node) = M at hM hml HEQ
  have h00 : RoI w (w.heap.size + 1) w2.heap.size (.slice none 0 0) [] w2 := ⟨hbl2, NRow.nil _ _, bw2, Nat.le_refl _⟩
  have H00 := hid h00
  have HRM := hid hM
  clear hbl hbl2 bAB hr1 hb1 hb2 HS HB HM HR1 HE hwA hwB h00 hM c0 c1 hlk bw1
  rw [hN]
  refine wpIn_rangeFunc_ownG rfl (by decide) (gf := 22) (lb := #[.pointer (some ⟨Bo, 0, none⟩), .pointer (some ⟨R, 0, none⟩)]) rfl trivial (enters_of Try.func22 (by kernel_rfl) rfl)
    (round2_stops (14 - 1) (by decide) Bo R b2 bo oo N cap2 cap3 ao2 ao3 M w2 HRM.out o1' o2' o3' o4') (fun h k => Kr.trans h k) (fun W l o o' h1 h2 _ _ => Kr.putObj W l o' (lt_of_heap h2) (by omega) (by omega) (by omega) (by omega)) (Below.refl _ _) (fun _ => rfl)
    (fun pre W => ∃ v, RoI w (w.heap.size + 1) w2.heap.size v (pre.map fun x => ((ordG M).getD x.1 ld0).1) W)
    (fun _ _ _ => False) ?hI ?hIx ?h0
    (fun x => { tmps := #[plV (.slice no nl nc) (.slice ao n cap), .int .i64 node, .pointer (some ⟨w.heap.size, 0, none⟩), undef, .slice none 0 0, .pointer (some ⟨w.heap.size + 1, 0, none⟩), .int .i64 ((ordG M).getD x.1 ld0).1, .agg #[.slice no nl nc, .slice ao n cap], .map (some B), .int .i64 node, .slice ao1 N cap1, .func (.func 22) #[] #[.pointer (some ⟨Bo, 0, none⟩), .pointer (some ⟨R, 0, none⟩)], .int .i64 ((ordG M).getD x.1 ld0).1, .int .i64 (aheadL (ordG M) x.1), undef, undef, undef, undef, undef], defers := [] }) ?assign ?body ?done ?stop
  case hI =>
    rintro s A B' row ⟨v, hs⟩ hg' hrow
    exact ⟨v, hs.turn hg' (fun r e => ⟨by have := (hrow r e).1; omega, (hrow r e).2⟩)⟩
  case hIx =>
    rintro c s A B' row h
    exact h.elim
  case h0 => exact ⟨_, H00.out⟩
  case assign =>
    intro l x W K hK
    gi_wp2
    exact hK
  case stop => exact fun _ _ _ _ _ _ h => h.elim
  case body =>
    rintro l pre x W ⟨v, hI⟩ hlt
    obtain ⟨z, hz⟩ : ∃ z, ((ordG M).getD x.1 ld0).1 = z := ⟨_, rfl⟩
    have hlen : (pre.map fun x => ((ordG M).getD x.1 ld0).1).length = pre.length := List.length_map ..
    obtain ⟨ao', cap', W1, hrun, q1, q2, q3, q4, q5⟩ := hI.step (by omega) (by omega) (by rw [hlen]; omega) z
    have cv := hI.box.cell
    have c1 := q1.cell
    have f1 := q1.frozen
    rw [hlen] at hrun q2 q3 q4 q5
    have HR := hid hrun
    have HFIN := hid (show RoI w (w.heap.size + 1) w2.heap.size (.slice ao' (pre.length + 1) cap') ((pre ++ [x]).map fun x => ((ordG M).getD x.1 ld0).1) (W1.setCell ⟨w.heap.size + 1, 0, none⟩ (.slice ao' (pre.length + 1) cap')) by
      rw [List.map_append, List.map_cons, List.map_nil, hz]
      exact q2)
    have HKO := hid q3
    have HKR := hid (show Kr Bo R b2 bo W (W1.setCell ⟨w.heap.size + 1, 0, none⟩ (.slice ao' (pre.length + 1) cap')) from ⟨q4, q5 _ (by omega) (by omega), q5 _ (by omega) (by omega), q5 _ (by omega) (by omega), q5 _ (by omega) (by omega)⟩)
    obtain ⟨av, cv', e⟩ := hI.row.form
    rw [hlen] at e
    subst e
    rw [hz]
    clear hrun q1 q2 q3 q4 q5 hI hlen hz H00 HRM HEQ
    gi_wp2_with (gi_at_builtin; refine wpListIn_append_done rfl (.tmp 14) (.tmp 16) 31 rfl rfl rfl HR.out ?_)
    exact ⟨HKO.out.from _, HKR.out, _, HFIN.out⟩
  case done =>
    rintro D zs W hD hS ⟨v, hI⟩ hK
    have hzs : (zs.map fun x => ((ordG M).getD x.1 ld0).1) = (ordL (grp (allLd xs ls) node)).map (·.1) := by
      rw [← HEQ.out]
      have e : (zs.map fun x => ((ordG M).getD x.1 ld0).1) = (zs.map (·.1)).map (fun k => ((ordG M).getD k ld0).1) := by rw [List.map_map]; rfl
      rw [e, hS]
      refine List.ext_getElem? fun k => ?_
      rw [List.getElem?_map, List.getElem?_map]
      by_cases hk : k < N
      · have hk' : k < (ordG M).length := by rw [ordG_len, hml]; exact hk
        rw [List.getElem?_range hk, List.getElem?_eq_getElem hk']
        simp [List.getD_eq_getElem?_getD, List.getElem?_eq_getElem hk']
      · rw [List.getElem?_eq_none (by rw [List.length_range]; omega), List.getElem?_eq_none (by rw [ordG_len, hml]; omega)]
        rfl
    rw [hzs] at hI
    obtain ⟨ZS, hZS⟩ : ∃ ZS, (ordL (grp (allLd xs ls) node)).map (·.1) = ZS := ⟨_, rfl⟩
    rw [hZS] at hI
    have HZS := hid hZS
    have cv := hI.box.cell
    obtain ⟨av, cv', e⟩ := hI.row.form
    subst e
    have HI := hid hI
    have HK := hid hK
    clear hZS
    have HLE := hid bw2.size
    clear hI hK hS hzs H00 HRM HEQ
    gi_wp2
    have hrow : ∀ r, some D = some r → w.heap.size ≤ r ∧ ∃ o : Obj, W.heap[r]? = some o ∧ o.isCells = false := fun r e => by cases e; exact ⟨Nat.le_trans HLE.out hD, _, HK.out, rfl⟩
    refine ⟨by simp, .inl ⟨_, _, rfl, run_takeDeferred HK.out, ?_⟩⟩
    have h2 := HI.out.turn (grownBy_putObj' _ D (.deferred none)) hrow
    exact ⟨.slice av ZS.length cv', by simp [results, Try.f5, go_sem], _, rfl, by rw [HZS.out]; exact nrow_toBase h2.row HLE.out, h2.below⟩
theorem roundOf_any {w : World} {b off n cap : Nat} {ao : Option Addr} {xs : List ER} {ls : List (List Pp)} (h : PlE w b off n ao xs ls) (no : Option Addr) (nl nc : Nat) (node : Int) (h0 : -9223372036854775808 ≤ node) (h1 : node ≤ 9223372036854775807) :
    Calls Try.prog 5 #[plV (.slice no nl nc) (.slice ao n cap), .int .i64 node] w fun e w' => ∃ v, e = .returned v ∧ NRow w' w.heap.size v ((ordL (grp (allLd xs ls) node)).map (·.1)) ∧ Below w.heap.size w w' :=
  callsIn_wide.1 (roundOf_in h no nl nc node h0 h1)
end Go.Proofs.Ytjfnbgjnmjdeeaa
