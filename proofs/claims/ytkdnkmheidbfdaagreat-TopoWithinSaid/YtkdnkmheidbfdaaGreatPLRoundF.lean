/-
  Layer 14: plan's Round.
-/
import Derived.Test.YtkdnkmheidbfdaaGreatM3
namespace Go.Proofs.YtkdnkmheidbfdaaGreat
open Go.RowKit Go.Shelf Go.Sort

attribute [local go_sem] Oper.semAt_some

theorem ways_nodup {xs : List ER} (ls : List (List Pp)) (hr : Rise xs) (hid' : ∀ x ∈ xs, 1 ≤ x.id) : ((allLd xs ls).map (·.1)).Nodup := by
  unfold allLd
  rw [List.map_map, List.Nodup, List.pairwise_map]
  have hr' : (List.range (2 * xs.length)).Pairwise (· < ·) := List.pairwise_lt_range
  refine (hr'.and (List.pairwise_of_forall_mem_list (r := fun a b => a < 2 * xs.length ∧ b < 2 * xs.length) fun a ha b hb => ⟨List.mem_range.1 ha, List.mem_range.1 hb⟩)).imp fun {a b} h => ?_
  obtain ⟨hab, ha, hb⟩ := h
  show ldW xs a ≠ ldW xs b
  have ga : ∀ k, k < 2 * xs.length → ∃ x, xs[k / 2]? = some x ∧ (xs.getD (k / 2) default) = x ∧ 1 ≤ x.id := fun k hk => by
    have h2 : k / 2 < xs.length := by omega
    exact ⟨xs[k / 2], List.getElem?_eq_getElem h2, by rw [List.getD_eq_getElem?_getD, List.getElem?_eq_getElem h2]; rfl, hid' _ (List.getElem_mem h2)⟩
  obtain ⟨x, hx, ex, hx1⟩ := ga a ha
  obtain ⟨y, hy, ey, hy1⟩ := ga b hb
  unfold ldW
  rw [ex, ey]
  rcases (show a / 2 < b / 2 ∨ a / 2 = b / 2 by omega) with h | h
  · have := hr _ _ _ _ h hx hy
    split <;> split <;> omega
  · rw [h, hy] at hx
    injection hx with hx
    subst hx
    split <;> split <;> omega
theorem grp_nodup {ys : List LdT} (h : (ys.map (·.1)).Nodup) (k : Int) : ((grp ys k).map (·.1)).Nodup := by
  unfold grp
  exact ((List.filter_sublist (l := ys)).map _).nodup h
theorem nrow_toBase {w : World} {base base' : Nat} {v : Value} {zs : List Int} (h : NRow w base v zs) (hb : base' ≤ base) : NRow w base' v zs := by
  refine ⟨h.1, ?_⟩
  rcases h.2 with h0 | ⟨g, cap, cur, h1, h2, h3⟩
  · exact .inl h0
  · exact .inr ⟨g, cap, cur, h1, Nat.le_trans hb h2, h3⟩
theorem nrow_turn {w w' : World} {base : Nat} {v : Value} {zs : List Int} {row : Option Nat} (h : NRow w base v zs) (hg : w.grownBy w' row) (hr : ∀ r, row = some r → ∃ o : Obj, w.heap[r]? = some o ∧ o.isCells = false) : NRow w' base v zs := by
  refine ⟨h.1, ?_⟩
  rcases h.2 with h0 | ⟨g, cap, cur, h1, h2, h3, h4⟩
  · exact .inl h0
  · exact .inr ⟨g, cap, cur, h1, h2, cellsTurn hg hr h3, h4⟩

theorem Kr.putObj {Bo R b bo : Nat} (W : World) (l : Nat) (o' : Obj) (hl : l < W.heap.size) (h1 : Bo < l) (h2 : R < l) (h3 : b < l) (h4 : bo < l) : Kr Bo R b bo W (W.putObj l o') :=
  ⟨(grownBy_putObj' W l o').size, (grownBy_putObj' W l o').block _ (by omega) (fun e => by injection e with e; omega), (grownBy_putObj' W l o').block _ (by omega) (fun e => by injection e with e; omega), (grownBy_putObj' W l o').block _ (by omega) (fun e => by injection e with e; omega), (grownBy_putObj' W l o').block _ (by omega) (fun e => by injection e with e; omega)⟩
/-- Amid Round: the box of what it tells, the row. -/
structure RoI (w : World) (Bl base : Nat) (v : Value) (zs : List Int) (W : World) : Prop where
  box : Boxed W Bl 47 v
  row : NRow W base v zs
  below : Below w.heap.size w W
  big : base ≤ W.heap.size
theorem RoI.turn {w W W' : World} {Bl base : Nat} {v : Value} {zs : List Int} {row : Option Nat} (h : RoI w Bl base v zs W) (hg : W.grownBy W' row) (hr : ∀ r, row = some r → w.heap.size ≤ r ∧ ∃ o : Obj, W.heap[r]? = some o ∧ o.isCells = false) : RoI w Bl base v zs W' :=
  ⟨cellsTurn hg (fun r e => (hr r e).2) h.box, nrow_turn h.row hg (fun r e => (hr r e).2), h.below.grown hg h.below.size (fun k e => (hr k e).1), Nat.le_trans h.big hg.size⟩
/-- What an append behind the box does. -/
theorem RoI.step {w W : World} {Bl base : Nat} {v : Value} {zs : List Int} (h : RoI w Bl base v zs W) (hw : w.heap.size ≤ Bl) (hB : Bl < base) (hl : zs.length ≤ 1000000) (z : Int) :
    ∃ ao cap W1, (Builtin.append_ #[47, 47] 47 #[v, .slice (some ⟨W.heap.size, 0, none⟩) 1 1]).run Tryz.prog (W.alloc (.cells #[.int .i64 z] 3)) = .ok (.slice ao (zs.length + 1) cap) W1 ∧ Boxed W1 Bl 47 v ∧
      RoI w Bl base (.slice ao (zs.length + 1) cap) (zs ++ [z]) (W1.setCell ⟨Bl, 0, none⟩ (.slice ao (zs.length + 1) cap)) ∧ KeepsOthers W (W1.setCell ⟨Bl, 0, none⟩ (.slice ao (zs.length + 1) cap)) ∧ W.heap.size ≤ (W1.setCell ⟨Bl, 0, none⟩ (.slice ao (zs.length + 1) cap)).heap.size ∧ ∀ k, k < base → k ≠ Bl → (W1.setCell ⟨Bl, 0, none⟩ (.slice ao (zs.length + 1) cap)).heap[k]? = W.heap[k]? := by
  obtain ⟨ao, cap, W1, hrun, hrow1, hgr⟩ := nrow_snocB h.row h.big hl z
  have hr0 : NRow W Bl v zs := nrow_toBase h.row (by omega)
  have hr1 : NRow W1 Bl (.slice ao (zs.length + 1) cap) (zs ++ [z]) := nrow_toBase (base := base) (show NRow W1 base _ _ by unfold NRow; rw [List.length_append]; exact hrow1) (by omega)
  unfold NRow at hr1
  rw [List.length_append] at hr1
  obtain ⟨q1, q2, q3, q4, q5⟩ := h.box.appended (by decide) hr0 (by have := h.big; omega) (Nat.le_refl _) hr1 hgr
  have hkeep : ∀ k, k < base → k ≠ Bl → (W1.setCell ⟨Bl, 0, none⟩ (.slice ao (zs.length + 1) cap)).heap[k]? = W.heap[k]? := fun k hk hne => by
    have hkW : k < W.heap.size := by have := h.big; omega
    have e1 : (W.alloc (.cells #[.int .i64 z] 3)).heap[k]? = W.heap[k]? := ((Below.refl _ W).alloc (Nat.le_refl _) _).block k hkW
    have e2 : W1.heap[k]? = (W.alloc (.cells #[.int .i64 z] 3)).heap[k]? := hgr.block k (by simp; omega) (fun e => by have := (h.row.lt e.symm).2; omega)
    exact ((grownBy_setCell' W1 Bl _).block k (by have := hgr.size; simp at this; omega) (fun e => hne (by injection e))).trans (e2.trans e1)
  refine ⟨ao, cap, W1, hrun, q1, ⟨q2, ?_, h.below.trans (q5.mono hw), Nat.le_trans h.big q5.size⟩, q4, q5.size, hkeep⟩
  have hne : some Bl ≠ (Value.slice ao (zs.length + 1) cap).ownBlock := fun e => by
    have h3 : NRow W1 base (.slice ao (zs.length + 1) cap) (zs ++ [z]) := by unfold NRow; rw [List.length_append]; exact hrow1
    have := (h3.lt e.symm).2
    omega
  unfold NRow
  rw [List.length_append]
  exact World.ownsRow.kept hrow1 (grownBy_setCell' W1 Bl _) (.inr fun e => hne e.symm)

































































































































end Go.Proofs.YtkdnkmheidbfdaaGreat
