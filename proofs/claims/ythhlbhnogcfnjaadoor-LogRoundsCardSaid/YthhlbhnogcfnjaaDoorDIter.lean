/-
  The Writes that wait, told one by one: the iterator of disk.waits: for every loop body that keeps all but sectors.
-/
import Derived.RangeFuncNested
import Derived.RangeFuncBound
import Derived.RangeFuncCalls
import Derived.RangeFuncLeaves
import Derived.RangeFuncBox
import Derived.Shelf.Abstract
import Derived.Shelf.RegionOpen
import Derived.OwnWalkIn
import Derived.TacticsInMore
import Derived.LoopNIn
import Derived.LoopIn
import Derived.Test.YthhlbhnogcfnjaaDoorDWriteWalk
namespace Go.Proofs.YthhlbhnogcfnjaaDoor
open Go.RowKit Go.Shelf

attribute [local go_sem] Oper.semAt_some

/-- The Writes that wait, each with its number. -/
def itemsFrom : Nat → List (Nat × List Int) → List (Nat × (Nat × List Int))
  | _, [] => []
  | k, x :: r => (k, x) :: itemsFrom (k + 1) r
def items (ws : List (Nat × List Int)) : List (Nat × (Nat × List Int)) := itemsFrom 0 ws
theorem itemsFrom_len (k : Nat) (ws : List (Nat × List Int)) : (itemsFrom k ws).length = ws.length := by
  induction ws generalizing k with
  | nil => rfl
  | cons x r ih => simp [itemsFrom, ih]
theorem itemsFrom_at (k : Nat) (ws : List (Nat × List Int)) (j : Nat) (hj : j < ws.length) : (itemsFrom k ws)[j]? = some (k + j, ws.getD j (0, [])) := by
  induction ws generalizing k j with
  | nil => simp at hj
  | cons x r ih =>
    cases j with
    | zero => simp [itemsFrom]
    | succ j =>
      have := ih (k + 1) j (by simpa using hj)
      simp only [itemsFrom, List.getElem?_cons_succ, this]
      simp; omega
theorem items_take (ws : List (Nat × List Int)) (j : Nat) (hj : j < ws.length) : (items ws).take (j + 1) = (items ws).take j ++ [(j, ws.getD j (0, []))] := by
  have h := itemsFrom_at 0 ws j hj
  rw [Nat.zero_add] at h
  rw [List.take_add_one]
  simp only [items, h]
  rfl

/-- What a round is handed. -/
abbrev It (n len : Nat) : Type := { x : Nat × (Nat × List Int) // x.1 < len ∧ x.2.1 < n ∧ Sec x.2.2 }
abbrev It.vals {n len : Nat} (x : It n len) : Array Value := #[.int .i64 x.1.1, .agg (wrA x.1.2.1 x.1.2.2)]
/-- All but sectors is as it was. -/
structure Ks (W W' : World) : Prop where
  size : W.heap.size ≤ W'.heap.size
  keep : ∀ (k : Nat) (c : Array Value) (t : TypeId) (f : Nat × Nat), W.heap[k]? = some (Obj.cells c t f) → t ≠ 67 → W'.heap[k]? = W.heap[k]?
theorem Ks.refl (W : World) : Ks W W := ⟨Nat.le_refl _, fun _ _ _ _ _ _ => rfl⟩
theorem Ks.trans {A B C : World} (h : Ks A B) (k : Ks B C) : Ks A C := ⟨Nat.le_trans h.size k.size, fun i c t f hi ht => (k.keep i c t f ((h.keep i c t f hi ht).trans hi) ht).trans (h.keep i c t f hi ht)⟩
theorem Ks.fresh {A B : World} (h : Below A.heap.size A B) : Ks A B := ⟨h.size, fun k _ _ _ hk _ => h.block k (lt_of_heap hk)⟩
theorem Ks.putObj (W : World) (l : Nat) (o o' : Obj) (h : W.heap[l]? = some o) (ho : o.isCells = false) : Ks W (W.putObj l o') :=
  ⟨(grownBy_putObj' W l o').size, fun k c t f hk _ => (grownBy_putObj' W l o').block k (lt_of_heap hk) (fun e => by
    injection e with e
    subst e
    rw [h] at hk
    injection hk with e1
    subst e1
    cases ho)⟩
theorem Ks.row {W W' : World} {g : Nat} {c : Array Value} {f : Nat × Nat} (hg : W.grownBy W' (some g)) (hh : W.heap[g]? = some (.cells c 67 f)) : Ks W W' :=
  ⟨hg.size, fun k c' t' f' hk ht => hg.block k (lt_of_heap hk) (fun e => by
    injection e with e
    subst e
    rw [hh] at hk
    injection hk with e1
    injection e1 with _ e2 _
    exact ht e2.symm)⟩
theorem Blocks.ks {w w' : World} {base : Nat} {e : TypeId} {m : Nat} {v : Value} {bl : List (List Value)} (h : Blocks w base e m v bl) (hk : Ks w w') (he : e ≠ 67) : Blocks w' base e m v bl := h.same fun k hk' => by
  obtain ⟨c, hc⟩ := own_heap h.2 hk'
  exact hk.keep k c e _ hc he

/-- A plain operation whose run is known, within a fence. -/
theorem wpListIn_exec {F : Fence} {m : Nat} {P : Program} {ops : Array Oper} {rest : List Oper} {o : Oper} {a : Act} {w w' : World} {Q : Exit → Act → World → Prop} {v : Value} (hgd : o.guard = none) (hpl : plainOp o.op = true) (hrun : (execOp a.eval o).run P w = .ok (.value v) w')
    (h : wpListIn F m P ops Q rest (a.put o.dst v) w') : wpListIn F m P ops Q (o :: rest) a w :=
  wpListIn_plain hgd fun K hK => by
    refine ⟨fun f hf => ?_, ?_⟩
    · unfold Oper.about at hf
      cases hop : o.op <;> rw [hop] at hf hpl <;> first | cases hf | cases hpl
    · rw [Oper.semAt_plain F _ _ (fun c hc => by rw [hc] at hpl; cases hpl), hrun]
      exact hK _ _ h
theorem load_at_wr (w : World) (b off : Nat) (i : Int) {s : List Int} (hs : Sec s) (h : w.rangeAt b off (wrA i s).toList) : (Instr.loadAt 69 (.pointer (some ⟨b, off, none⟩))).run Tryd.prog w = .ok (.agg (wrA i s)) w := by
  obtain ⟨i0, hi, hz0, hz1, hz2⟩ := info_parts infoWr
  have := run_loadAt_mid (P := Tryd.prog) w b off 69 _ _ h Tryd.underlying69 rfl (by rw [hi]; simp [hz1, secV, hs.1])
  exact this
theorem range_new (w : World) (i : Int) (s : List Int) : (w.alloc (.cells (wrA i s) 69)).rangeAt w.heap.size 0 (wrA i s).toList := fun j v hv => by
  rw [Nat.zero_add, cell_of_row _ _ _ _ _ _ (heap_new w _)]
  simpa using hv

set_option maxRecDepth 8000 in
set_option maxHeartbeats 1600000 in
theorem iter_in (m : Nat) (hm : 2 ≤ m) (l Bx B n base : Nat) (ws : List (Nat × List Int)) (vw : Value) (J Jx : List (It n ws.length) → World → Prop) (W : World) (hAb : AbidesFrom W.heap.size J)
    (hY : ∀ pre x W1, J pre W1 → pre.length < ws.length → YieldAt Fence.wide (m - 1) Tryd.prog l (It.vals x) W1 fun e W' =>
      (e = .returned (.bool true) ∧ J (pre ++ [x]) W' ∧ Ks W1 W') ∨ (e = .returned (.bool false) ∧ Jx (pre ++ [x]) W'))
    (hbx : W.cell? ⟨Bx, 0, none⟩ = some (.pointer (some ⟨B, 0, none⟩))) (hcB : W.cell? ⟨B, 2, none⟩ = some vw) (hbl : Blocks W base 69 65 vw (ws.map wrV)) (hok : ∀ x ∈ ws, x.1 < n ∧ Sec x.2) (hl : ws.length ≤ 1000000) (h0 : J [] W) :
    CallsIn Fence.wide m Tryd.prog 48 #[.func (.yield l) #[] #[], .pointer (some ⟨Bx, 0, none⟩)] W fun e W' => (∃ v, e = .returned v) ∧
      ((∃ xs, xs.map (·.1) = items ws ∧ J xs W') ∨ (∃ pre, True ∧ Jx pre W')) := by
  obtain ⟨ao, cap, rfl, hao⟩ := slice_of hbl
  rw [List.length_map] at hao hcB hbl
  have HA := hid hao
  have HBL := hid hbl
  have HOK := hid hok
  clear hao hbl hok
  obtain ⟨Z0, hZ0⟩ : ∃ Z0, Z0 = wrA 0 nought := ⟨_, rfl⟩
  have hz := zero_wr
  have hsZ0 : Z0.size = 65 := by rw [hZ0]; exact wrA_size 0 sec_nought
  rw [← hZ0] at hz
  clear hZ0
  refine callsIn_of_wp Tryd.func48 rfl trivial ?_ rfl
  simp only [Tryd.ntmps48, List.size_toArray, List.length_cons, List.length_nil, Nat.reduceAdd, Nat.reduceSub, Array.replicate_succ, Array.replicate_zero, List.push_toArray, List.append_toArray, List.nil_append, List.cons_append]
  gi_wp2
  gi_loopw [3, 4, 10] (fun _ _ i wr => ∃ (k : Nat) (pre : List (It n ws.length)), k ≤ ws.length ∧ i = .int .i64 k ∧ pre.map (·.1) = (items ws).take k ∧ J pre wr ∧ Blocks wr base 69 65 (.slice ao ws.length cap) (ws.map wrV)) (fun _ _ i _ => ws.length - (intOf i).toNat)
  case atStart => exact ⟨0, [], Nat.zero_le _, rfl, by simp, h0, HBL.out⟩
  case round =>
    obtain ⟨k, pre, hk, rfl, hpre, hJs, hBr⟩ := hrel
    by_cases hlt : k < ws.length
    · obtain ⟨g, rfl⟩ := HA.out (by omega)
      obtain ⟨x, hx⟩ : ∃ x, x = ws.getD k (0, []) := ⟨_, rfl⟩
      have hxm : x ∈ ws := by rw [hx]; simp [List.getD, hlt]
      obtain ⟨hxn, hxs⟩ := HOK.out x hxm
      have hr := hBr.range (by simp) (i := k) (by simp [hlt])
      have hgd : (ws.map wrV).getD k [] = wrV x := by rw [hx]; simp [List.getD, hlt]
      rw [hgd] at hr
      have hld1 := load_at_wr wr g (k * 65) x.1 hxs hr
      have hld2 := load_at_wr _ wr.heap.size 0 x.1 hxs (range_new wr x.1 x.2)
      have hst := store_wr wr Z0 (wrA x.1 x.2) hsZ0 (wrA_size _ hxs) (wrA_one _ _)
      have hfr : Below wr.heap.size wr (wr.alloc (.cells (wrA x.1 x.2) 69)) := (Below.refl _ wr).alloc (Nat.le_refl _) _
      have hJ2 : J pre (wr.alloc (.cells (wrA x.1 x.2) 69)) := hAb _ _ _ none hJs (World.grownBy_alloc _ _ none) (fun r hr => by cases hr)
      have hB2 := hBr.below hfr
      have hprel : pre.length = k := by
        have := congrArg List.length hpre
        rw [List.length_map, List.length_take, items, itemsFrom_len] at this
        omega
      obtain ⟨fn, tmps, assign, body, hy, hR⟩ := hY pre ⟨(k, x), hlt, hxn, hxs⟩ _ hJ2 (by omega)
      dsimp only [It.vals] at hy
      have HNX := hid (items_take ws k hlt)
      rw [← hx] at HNX
      have HP := hid hpre
      have HB2 := hid hB2
      have HR := hid hR
      have hszW : (wrA x.1 x.2).size = 65 := wrA_size _ hxs
      clear hpre hprel hB2 hBr hr hgd hx hxm hR hJ2 hfr
      obtain ⟨WX, hWX⟩ : ∃ WX, WX = wrA x.1 x.2 := ⟨_, rfl⟩
      rw [← hWX] at hld1 hld2 hst hy HB2 HR hszW
      clear hWX
      have HL1 := hid hld1
      have HL2 := hid hld2
      clear hld1 hld2
      have hltI : (k : Int) < (ws.length : Int) := by omega
      gi_wp2_with (first | (refine wpListIn_exec rfl rfl (exec_load 69 (.tmp 13) rfl rfl HL1.out) ?_) | (refine wpListIn_exec rfl rfl (exec_load 69 (.tmp 4) rfl rfl HL2.out) ?_))
      refine ⟨fun _ => by omega, HR.out.mono ?_⟩
      rintro e W3 (⟨rfl, hJ3, hk3⟩ | ⟨rfl, hJx3⟩)
      · clear hy
        gi_wp2
        go_roundw
        case rel =>
          refine ⟨k + 1, _, by omega, by go_num, ?_, hJ3, HB2.out.ks hk3 (by decide)⟩
          rw [List.map_append, HP.out, HNX.out]
          rfl
        case measure => simp [intOf]; omega
      · clear hy
        gi_wp2
        refine bodyPost_ret (results_none rfl _ _ _) rfl ?_
        exact ⟨⟨_, rfl⟩, .inr ⟨_, trivial, hJx3⟩⟩
    · obtain rfl : k = ws.length := by omega
      have hfull : pre.map (·.1) = items ws := by rw [hpre, List.take_of_length_le (by rw [items, itemsFrom_len]; exact Nat.le_refl _)]
      have HF := hid hfull
      clear hpre hfull
      gi_wp2
      go_end0
      exact ⟨⟨_, rfl⟩, .inl ⟨pre, HF.out, hJs⟩⟩

/-- waits: its receiver is boxed, the function value captures the box. -/
theorem waits_in (m : Nat) (B : Nat) (w : World) :
    CallsIn Fence.wide m Tryd.prog 31 #[.pointer (some ⟨B, 0, none⟩)] w fun e w' => e = .returned (.func (.func 48) #[] #[.pointer (some ⟨w.heap.size, 0, none⟩)]) ∧ w' = w.alloc (.cells #[.pointer (some ⟨B, 0, none⟩)] 22) := by
  refine callsIn_of_wp Tryd.func31 rfl trivial ?_ rfl
  simp only [Tryd.ntmps31, List.size_toArray, List.length_cons, List.length_nil, Nat.reduceAdd, Nat.reduceSub, Array.replicate_succ, Array.replicate_zero, List.push_toArray, List.append_toArray, List.nil_append, List.cons_append]
  gi_wp2
  go_ret
  exact ⟨rfl, rfl⟩

theorem iter_stops (m : Nat) (hm : 2 ≤ m) (Bx B n base : Nat) (ws : List (Nat × List Int)) (vw : Value) (w : World)
    (hbx : w.cell? ⟨Bx, 0, none⟩ = some (.pointer (some ⟨B, 0, none⟩))) (hcB : w.cell? ⟨B, 2, none⟩ = some vw) (hbl : Blocks w base 69 65 vw (ws.map wrV)) (hok : ∀ x ∈ ws, x.1 < n ∧ Sec x.2) (hl : ws.length ≤ 1000000) :
    SeqStopsK Fence.wide m Tryd.prog 48 #[.pointer (some ⟨Bx, 0, none⟩)] (fun x : It n ws.length => It.vals x) Ks (fun xs => xs.map (·.1) = items ws) (fun _ => True) ws.length w := fun l J Jx W hW hJ _ hY h0 =>
  iter_in m hm l Bx B n base ws vw J Jx W hJ hY ((hW.cell (p := ⟨Bx, 0, none⟩) (lt_of_cell hbx)).trans hbx) ((hW.cell (p := ⟨B, 2, none⟩) (lt_of_cell hcB)).trans hcB) (hbl.below hW) hok hl h0
end Go.Proofs.YthhlbhnogcfnjaaDoor
