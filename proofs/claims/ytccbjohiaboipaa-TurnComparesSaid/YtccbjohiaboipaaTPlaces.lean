/-
  turn's places, told one by one; the library's AppendSeq, Collect of them.
-/
import Derived.RangeFuncNested
import Derived.RangeFuncBound
import Derived.RangeFuncCalls
import Derived.RangeFuncLeaves
import Derived.RangeFuncBox
import Derived.Shelf.Abstract
import Derived.Shelf.RegionOpen
import Derived.OwnWalkIn
import Derived.TacticsInMore
import Derived.LoopNIn
import Derived.LoopIn
import Derived.Test.YtccbjohiaboipaaTPerm
namespace Go.Proofs.Ytccbjohiaboipaa
open Go.RowKit Go.Shelf

attribute [local go_sem] Oper.semAt_some

/-- What a round is handed. -/
abbrev Pl (n : Nat) : Type := { x : Nat // x < n }
/-- The places, as numbers. -/
def plI {n : Nat} (pre : List (Pl n)) : List Int := pre.map fun x => ((x.1 : Nat) : Int)
theorem plI_len {n : Nat} (pre : List (Pl n)) : (plI pre).length = pre.length := by unfold plI; rw [List.length_map]
theorem plI_snoc {n : Nat} (pre : List (Pl n)) (x : Pl n) : plI (pre ++ [x]) = plI pre ++ [((x.1 : Nat) : Int)] := by unfold plI; rw [List.map_append]; rfl
/-- What a round keeps for places: nothing. -/
def Kz (_ _ : World) : Prop := True

set_option maxRecDepth 8000 in
set_option maxHeartbeats 1600000 in
theorem places_in (m : Nat) (hm : 2 ≤ m) (l Bx n cap : Nat) (ao : Option Addr) (J Jx : List (Pl n) → World → Prop) (W : World)
    (hY : ∀ pre x W1, J pre W1 → pre.length < n → YieldAt Fence.wide (m - 1) Try.prog l #[.int .i64 (x.1 : Nat)] W1 fun e W' =>
      (e = .returned (.bool true) ∧ J (pre ++ [x]) W' ∧ Kz W1 W') ∨ (e = .returned (.bool false) ∧ Jx (pre ++ [x]) W'))
    (hbx : W.cell? ⟨Bx, 0, none⟩ = some (.slice ao n cap)) (hl : n ≤ 1000000) (h0 : J [] W) :
    CallsIn Fence.wide m Try.prog 46 #[.func (.yield l) #[] #[], .pointer (some ⟨Bx, 0, none⟩)] W fun e W' => (∃ v, e = .returned v) ∧
      ((∃ xs, xs.map (·.1) = List.range n ∧ J xs W') ∨ (∃ pre, True ∧ Jx pre W')) := by
  refine callsIn_of_wp Try.func46 rfl trivial ?_ rfl
  simp only [Try.ntmps46, List.size_toArray, List.length_cons, List.length_nil, Nat.reduceAdd, Nat.reduceSub, Array.replicate_succ, Array.replicate_zero, List.push_toArray, List.append_toArray, List.nil_append, List.cons_append]
  gi_wp2
  gi_loopw [3, 6] (fun _ i wr => ∃ (k : Nat) (pre : List (Pl n)), k ≤ n ∧ i = .int .i64 k ∧ pre.map (·.1) = List.range k ∧ J pre wr) (fun _ i _ => n - (intOf i).toNat)
  case atStart => exact ⟨0, [], Nat.zero_le _, rfl, rfl, h0⟩
  case round =>
    obtain ⟨k, pre, hk, rfl, hpre, hJs⟩ := hrel
    by_cases hlt : k < n
    · have hprel : pre.length = k := by
        have := congrArg List.length hpre
        rwa [List.length_map, List.length_range] at this
      obtain ⟨fn, tmps, assign, body, hy, hR⟩ := hY pre ⟨k, hlt⟩ _ hJs (by omega)
      dsimp only at hy
      have HP := hid hpre
      have HR := hid hR
      have hltI : (k : Int) < (n : Int) := by omega
      clear hpre hprel hR
      gi_wp2
      refine ⟨fun _ => by omega, HR.out.mono ?_⟩
      rintro e W3 (⟨rfl, hJ3, _⟩ | ⟨rfl, hJx3⟩)
      · clear hy
        gi_wp2
        go_roundw
        case rel =>
          refine ⟨k + 1, _, by omega, by go_num, ?_, hJ3⟩
          rw [List.map_append, HP.out, List.range_succ]
          rfl
        case measure => simp [intOf]; omega
      · clear hy
        gi_wp2
        refine bodyPost_ret (results_none rfl _ _ _) rfl ?_
        exact ⟨⟨_, rfl⟩, .inr ⟨_, trivial, hJx3⟩⟩
    · obtain rfl : k = n := by omega
      have HF := hid hpre
      clear hpre
      gi_wp2
      go_end0
      exact ⟨⟨_, rfl⟩, .inl ⟨pre, HF.out, hJs⟩⟩
theorem places_stops (m : Nat) (hm : 2 ≤ m) (Bx n cap : Nat) (ao : Option Addr) (w : World) (hbx : w.cell? ⟨Bx, 0, none⟩ = some (.slice ao n cap)) (hl : n ≤ 1000000) :
    SeqStopsK Fence.wide m Try.prog 46 #[.pointer (some ⟨Bx, 0, none⟩)] (fun x : Pl n => #[.int .i64 (x.1 : Nat)]) Kz (fun xs => xs.map (·.1) = List.range n) (fun _ => True) n w := fun l J Jx W hW _ _ hY h0 =>
  places_in m hm l Bx n cap ao J Jx W hY ((hW.cell (p := ⟨Bx, 0, none⟩) (lt_of_cell hbx)).trans hbx) hl h0

theorem placesOf_any (ao : Option Addr) (n cap : Nat) (w : World) :
    Calls Try.prog 37 #[.slice ao n cap] w fun e w' => e = .returned (.func (.func 46) #[] #[.pointer (some ⟨w.heap.size, 0, none⟩)]) ∧ w' = w.alloc (.cells #[.slice ao n cap] 22) := by
  go_enter Try.func37, Try.ntmps37
  go_wp2
  go_ret
  exact ⟨rfl, rfl⟩

/-- An append whose run is known, as one operation within a fence. -/
theorem opIn_append {F : Fence} {n : Nat} {P : Program} {o : Oper} {a : Act} {w w' : World} {K : Act → World → Prop} {Q : Exit → Act → World → Prop} (s x : Operand) (t : TypeId)
    (hop : o.op = Op.call { callee := Callee.builtin Builtin.append, args := #[s, x], argTypes := #[t, t] }) {v u v' : Value} (hs : a.eval s = v) (hx : a.eval x = u) (hrun : (Builtin.append_ #[t, t] o.type #[v, u]).run P w = .ok v' w')
    (hK : K (a.put o.dst v') w') : Oper.wpIn F n P o a w K Q := by
  unfold Oper.wpIn
  refine ⟨?_, ?_⟩
  · simp [Oper.about, hop, resolve, Target.leads, Sem.run_pure]
  · rw [Oper.semAt_plain F _ _ (by rw [hop]; intro c hc'; cases hc')]
    simp [execOp, hop, resolve, invoke, builtin, hs, hx, hrun, Result.andThen]
    exact hK
theorem wpListIn_append_done {F : Fence} {m : Nat} {P : Program} {ops : Array Oper} {rest : List Oper} {o : Oper} {a : Act} {w w' : World} {Q : Exit → Act → World → Prop} (hgd : o.guard = none) (s x : Operand) (t : TypeId)
    (hop : o.op = Op.call { callee := Callee.builtin Builtin.append, args := #[s, x], argTypes := #[t, t] }) {v u v' : Value} (hs : a.eval s = v) (hx : a.eval x = u) (hrun : (Builtin.append_ #[t, t] o.type #[v, u]).run P w = .ok v' w')
    (h : wpListIn F m P ops Q rest (a.put o.dst v') w') : wpListIn F m P ops Q (o :: rest) a w :=
  wpListIn_plain hgd fun _K hK => opIn_append s x t hop hs hx hrun (hK _ _ h)

/-- Amid AppendSeq. -/
structure ApI (w : World) (v : Value) (zs : List Int) (W : World) : Prop where
  box : Boxed W w.heap.size 46 v
  row : NRow W w.heap.size v zs
  below : Below w.heap.size w W
theorem ApI.turn {w W W' : World} {v : Value} {zs : List Int} {row : Option Nat} (h : ApI w v zs W) (hg : W.grownBy W' row) (hr : ∀ r, row = some r → w.heap.size ≤ r ∧ ∃ o : Obj, W.heap[r]? = some o ∧ o.isCells = false) : ApI w v zs W' := by
  obtain ⟨v', b, r, e⟩ := holdsRow_own (β := Unit) w.heap.size w.heap.size 46 3 1 (fun _ => zs.length) (fun _ => zs.map (Value.int .i64)) (fun _ u => u = v) () W W' row ⟨v, h.box, h.row, rfl⟩ hg (fun r e => (hr r e).2)
  subst e
  exact ⟨b, r, h.below.grown hg h.below.size (fun k e => (hr k e).1)⟩

set_option maxRecDepth 100000 in
set_option maxHeartbeats 2000000 in
theorem appendSeq_in (Bx n cap : Nat) (ao : Option Addr) (w : World) (hbx : w.cell? ⟨Bx, 0, none⟩ = some (.slice ao n cap)) (hn : n ≤ 100000) :
    CallsIn Fence.wide 12 Try.prog 48 #[.slice none 0 0, .func (.func 46) #[] #[.pointer (some ⟨Bx, 0, none⟩)]] w fun e w' => ∃ v, e = .returned v ∧ NRow w' w.heap.size v (rowF (fun k => k) n) ∧ Below w.heap.size w w' := by
  refine callsIn_of_wp_marks Try.func48 rfl trivial ?_ rfl
  simp only [Try.ntmps48, List.size_toArray, List.length_cons, List.length_nil, Nat.reduceAdd, Nat.reduceSub, Array.replicate_succ, Array.replicate_zero, List.push_toArray, List.append_toArray, List.nil_append, List.cons_append]
  gi_wp2
  obtain ⟨W0, hW0⟩ : ∃ W0, w.alloc (.cells #[.slice none 0 0] 46) = W0 := ⟨_, rfl⟩
  have hsz : W0.heap.size = w.heap.size + 1 := by rw [← hW0]; simp
  have hF0 : Below w.heap.size w W0 := by rw [← hW0]; exact (Below.refl _ w).alloc (Nat.le_refl _) _
  have hb0 : Boxed W0 w.heap.size 46 (.slice none 0 0) := by rw [← hW0]; exact Boxed.new w _ _
  have h0 : ApI w (.slice none 0 0) [] W0 := ⟨hb0, NRow.nil _ _, hF0⟩
  have hbx0 := cell_below hbx hF0 (lt_of_cell hbx)
  rw [hW0]
  clear hW0 hb0
  refine wpIn_rangeFunc_ownG rfl (by decide) (gf := 46) (lb := #[.pointer (some ⟨Bx, 0, none⟩)]) rfl trivial (enters_of Try.func46 (by kernel_rfl) rfl)
    (places_stops (12 - 1) (by decide) Bx n cap ao W0 hbx0 (by omega)) (fun _ _ => trivial) (fun _ _ _ _ _ _ _ _ => trivial) (Below.refl _ _) (fun _ => rfl)
    (fun pre W => ∃ v, ApI w v (plI pre) W)
    (fun _ _ _ => False) ?hI ?hIx ?h0
    (fun x => { tmps := #[.slice none 0 0, .func (.func 46) #[] #[.pointer (some ⟨Bx, 0, none⟩)], .pointer (some ⟨w.heap.size, 0, none⟩), undef, .slice none 0 0, .int .i64 (x.1 : Nat), .func (.func 46) #[] #[.pointer (some ⟨Bx, 0, none⟩)], .int .i64 (x.1 : Nat), undef, undef, undef, undef, undef], defers := [] }) ?assign ?body ?done ?stop
  case hI =>
    rintro s A B' row ⟨v, hs⟩ hg' hrow
    exact ⟨v, hs.turn hg' (fun r e => ⟨by have := (hrow r e).1; omega, (hrow r e).2⟩)⟩
  case hIx =>
    rintro c s A B' row h
    exact h.elim
  case h0 => exact ⟨_, h0⟩
  case assign =>
    intro l x W K hK
    gi_wp2
    exact hK
  case body =>
    rintro l pre x W ⟨v, hI⟩ hlt
    have hlen : (plI pre).length = pre.length := plI_len pre
    obtain ⟨ao', cap', W1, hrun, hrow1, hgr⟩ := nrow_snocB hI.row hI.below.size (by rw [hlen]; omega) ((x.1 : Nat) : Int)
    obtain ⟨q1, q2, q3, q4, q5⟩ := hI.box.appended (by decide) hI.row hI.below.size (Nat.le_refl _) hrow1 hgr
    have cv := hI.box.cell
    have c1 := q1.cell
    have f1 := q1.frozen
    rw [hlen] at hrun q2 q3 q4 q5
    have HR := hid hrun
    have HFIN := hid (show ApI w (.slice ao' (pre.length + 1) cap') (plI (pre ++ [x])) (W1.setCell ⟨w.heap.size, 0, none⟩ (.slice ao' (pre.length + 1) cap')) from ⟨q2, by
      unfold NRow
      rw [plI_snoc, List.length_append, hlen]
      exact q3, hI.below.trans q5⟩)
    have HKO := hid q4
    obtain ⟨av, cv', e⟩ := hI.row.form
    rw [hlen] at e
    subst e
    clear hrun q1 q2 q3 q4 q5 hI hrow1 hgr hlen h0 hbx hbx0
    gi_wp2_with (refine wpListIn_append_done rfl (.tmp 8) (.tmp 10) 46 rfl rfl rfl HR.out ?_)
    exact ⟨HKO.out.from _, trivial, _, HFIN.out⟩
  case done =>
    rintro D ys W hD hS ⟨v, hI⟩ hK
    have hzs : plI ys = rowF (fun k => k) n := by
      unfold rowF plI
      rw [← hS, List.map_map]
      rfl
    rw [hzs] at hI
    have cv := hI.box.cell
    obtain ⟨av, cv', e⟩ := hI.row.form
    rw [rowF_len] at e
    subst e
    have HI := hid hI
    have HK := hid hK
    clear hI hK hS hzs h0 hbx hbx0
    gi_wp2
    have hrow : ∀ r, some D = some r → w.heap.size ≤ r ∧ ∃ o : Obj, W.heap[r]? = some o ∧ o.isCells = false := fun r e => by cases e; exact ⟨by omega, _, HK.out, rfl⟩
    refine ⟨by simp, .inl ⟨_, _, rfl, run_takeDeferred HK.out, ?_⟩⟩
    have h2 := HI.out.turn (grownBy_putObj' _ D (.deferred none)) hrow
    exact ⟨.slice av n cv', by simp [results, Try.f48, go_sem], _, rfl, h2.row, h2.below⟩
  case stop =>
    rintro D c pre W hD hSp h hK
    exact h.elim
end Go.Proofs.Ytccbjohiaboipaa
