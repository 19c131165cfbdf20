/-
  The Writes that wait, told one by one: the iterator of disk.waits: for every loop body that keeps all but sectors.
-/
import Derived.RangeFuncNested
import Derived.RangeFuncBound
import Derived.RangeFuncCalls
import Derived.RangeFuncLeaves
import Derived.RangeFuncBox
import Derived.Shelf.Abstract
import Derived.Shelf.RegionOpen
import Derived.OwnWalkIn
import Derived.TacticsInMore
import Derived.LoopNIn
import Derived.LoopIn
import Derived.Test.YtkbnjniglngjgaaGreatDoorMC
namespace Go.Proofs.YtkbnjniglngjgaaGreatDoor
open Go.RowKit Go.Shelf

attribute [local go_sem] Oper.semAt_some

/-- The Writes that wait, each with its number. -/
def itemsFrom : Nat → List (Nat × List Int) → List (Nat × (Nat × List Int))
  | _, [] => []
  | k, x :: r => (k, x) :: itemsFrom (k + 1) r
def items (ws : List (Nat × List Int)) : List (Nat × (Nat × List Int)) := itemsFrom 0 ws
theorem itemsFrom_len (k : Nat) (ws : List (Nat × List Int)) : (itemsFrom k ws).length = ws.length := by
  induction ws generalizing k with
  | nil => rfl
  | cons x r ih => simp [itemsFrom, ih]
theorem itemsFrom_at (k : Nat) (ws : List (Nat × List Int)) (j : Nat) (hj : j < ws.length) : (itemsFrom k ws)[j]? = some (k + j, ws.getD j (0, [])) := by
  induction ws generalizing k j with
  | nil => simp at hj
  | cons x r ih =>
    cases j with
    | zero => simp [itemsFrom]
    | succ j =>
      have := ih (k + 1) j (by simpa using hj)
      simp only [itemsFrom, List.getElem?_cons_succ, this]
      simp; omega
theorem items_take (ws : List (Nat × List Int)) (j : Nat) (hj : j < ws.length) : (items ws).take (j + 1) = (items ws).take j ++ [(j, ws.getD j (0, []))] := by
  have h := itemsFrom_at 0 ws j hj
  rw [Nat.zero_add] at h
  rw [List.take_add_one]
  simp only [items, h]
  rfl

/-- What a round is handed. -/
abbrev It (n len : Nat) : Type := { x : Nat × (Nat × List Int) // x.1 < len ∧ x.2.1 < n ∧ Sec x.2.2 }
abbrev It.vals {n len : Nat} (x : It n len) : Array Value := #[.int .i64 x.1.1, .agg (wrA x.1.2.1 x.1.2.2)]
/-- All but sectors is as it was. -/
structure Ks (W W' : World) : Prop where
  size : W.heap.size ≤ W'.heap.size
  keep : ∀ (k : Nat) (c : Array Value) (t : TypeId) (f : Nat × Nat), W.heap[k]? = some (Obj.cells c t f) → t ≠ 114 → W'.heap[k]? = W.heap[k]?
theorem Ks.refl (W : World) : Ks W W := ⟨Nat.le_refl _, fun _ _ _ _ _ _ => rfl⟩
theorem Ks.trans {A B C : World} (h : Ks A B) (k : Ks B C) : Ks A C := ⟨Nat.le_trans h.size k.size, fun i c t f hi ht => (k.keep i c t f ((h.keep i c t f hi ht).trans hi) ht).trans (h.keep i c t f hi ht)⟩
theorem Ks.fresh {A B : World} (h : Below A.heap.size A B) : Ks A B := ⟨h.size, fun k _ _ _ hk _ => h.block k (lt_of_heap hk)⟩
theorem Ks.putObj (W : World) (l : Nat) (o o' : Obj) (h : W.heap[l]? = some o) (ho : o.isCells = false) : Ks W (W.putObj l o') :=
  ⟨(grownBy_putObj' W l o').size, fun k c t f hk _ => (grownBy_putObj' W l o').block k (lt_of_heap hk) (fun e => by
    injection e with e
    subst e
    rw [h] at hk
    injection hk with e1
    subst e1
    cases ho)⟩
theorem Ks.row {W W' : World} {g : Nat} {c : Array Value} {f : Nat × Nat} (hg : W.grownBy W' (some g)) (hh : W.heap[g]? = some (.cells c 114 f)) : Ks W W' :=
  ⟨hg.size, fun k c' t' f' hk ht => hg.block k (lt_of_heap hk) (fun e => by
    injection e with e
    subst e
    rw [hh] at hk
    injection hk with e1
    injection e1 with _ e2 _
    exact ht e2.symm)⟩
theorem Blocks.ks {w w' : World} {base : Nat} {e : TypeId} {m : Nat} {v : Value} {bl : List (List Value)} (h : Blocks w base e m v bl) (hk : Ks w w') (he : e ≠ 114) : Blocks w' base e m v bl := h.same fun k hk' => by
  obtain ⟨c, hc⟩ := own_heap h.2 hk'
  exact hk.keep k c e _ hc he

/-- A plain operation whose run is known, within a fence. -/
theorem wpListIn_exec {F : Fence} {m : Nat} {P : Program} {ops : Array Oper} {rest : List Oper} {o : Oper} {a : Act} {w w' : World} {Q : Exit → Act → World → Prop} {v : Value} (hgd : o.guard = none) (hpl : plainOp o.op = true) (hrun : (execOp a.eval o).run P w = .ok (.value v) w')
    (h : wpListIn F m P ops Q rest (a.put o.dst v) w') : wpListIn F m P ops Q (o :: rest) a w :=
  wpListIn_plain hgd fun K hK => by
    refine ⟨fun f hf => ?_, ?_⟩
    · unfold Oper.about at hf
      cases hop : o.op <;> rw [hop] at hf hpl <;> first | cases hf | cases hpl
    · rw [Oper.semAt_plain F _ _ (fun c hc => by rw [hc] at hpl; cases hpl), hrun]
      exact hK _ _ h
theorem load_at_wr (w : World) (b off : Nat) (i : Int) {s : List Int} (hs : Sec s) (h : w.rangeAt b off (wrA i s).toList) : (Instr.loadAt 125 (.pointer (some ⟨b, off, none⟩))).run Tryz.prog w = .ok (.agg (wrA i s)) w := by
  obtain ⟨i0, hi, hz0, hz1, hz2⟩ := info_parts infoWr
  have := run_loadAt_mid (P := Tryz.prog) w b off 125 _ _ h Tryz.underlying125 rfl (by rw [hi]; simp [hz1, secV, hs.1])
  exact this
theorem range_new (w : World) (i : Int) (s : List Int) : (w.alloc (.cells (wrA i s) 125)).rangeAt w.heap.size 0 (wrA i s).toList := fun j v hv => by
  rw [Nat.zero_add, cell_of_row _ _ _ _ _ _ (heap_new w _)]
  simpa using hv

set_option maxRecDepth 8000 in
set_option maxHeartbeats 1600000 in
theorem iter_in (m : Nat) (hm : 2 ≤ m) (l Bx B n base : Nat) (ws : List (Nat × List Int)) (vw : Value) (J Jx : List (It n ws.length) → World → Prop) (W : World) (hAb : AbidesFrom W.heap.size J)
    (hY : ∀ pre x W1, J pre W1 → pre.length < ws.length → YieldAt Fence.wide (m - 1) Tryz.prog l (It.vals x) W1 fun e W' =>
      (e = .returned (.bool true) ∧ J (pre ++ [x]) W' ∧ Ks W1 W') ∨ (e = .returned (.bool false) ∧ Jx (pre ++ [x]) W'))
    (hbx : W.cell? ⟨Bx, 0, none⟩ = some (.pointer (some ⟨B, 0, none⟩))) (hcB : W.cell? ⟨B, 2, none⟩ = some vw) (hbl : Blocks W base 125 65 vw (ws.map wrV)) (hok : ∀ x ∈ ws, x.1 < n ∧ Sec x.2) (hl : ws.length ≤ 1000000) (h0 : J [] W) :
    CallsIn Fence.wide m Tryz.prog 94 #[.func (.yield l) #[] #[], .pointer (some ⟨Bx, 0, none⟩)] W fun e W' => (∃ v, e = .returned v) ∧
      ((∃ xs, xs.map (·.1) = items ws ∧ J xs W') ∨ (∃ pre, True ∧ Jx pre W')) := by
  obtain ⟨ao, cap, rfl, hao⟩ := slice_of hbl
  rw [List.length_map] at hao hcB hbl
  have HA := hid hao
  have HBL := hid hbl
  have HOK := hid hok
  clear hao hbl hok
  obtain ⟨Z0, hZ0⟩ : ∃ Z0, Z0 = wrA 0 nought := ⟨_, rfl⟩
  have hz := zero_wr
  have hsZ0 : Z0.size = 65 := by rw [hZ0]; exact wrA_size 0 sec_nought
  rw [← hZ0] at hz
  clear hZ0
  refine callsIn_of_wp Tryz.func94 rfl trivial ?_ rfl
  simp only [Tryz.ntmps94, List.size_toArray, List.length_cons, List.length_nil, Nat.reduceAdd, Nat.reduceSub, Array.replicate_succ, Array.replicate_zero, List.push_toArray, List.append_toArray, List.nil_append, List.cons_append]
  gi_wp2
  gi_loopw [3, 4, 10] (fun _ _ i wr => ∃ (k : Nat) (pre : List (It n ws.length)), k ≤ ws.length ∧ i = .int .i64 k ∧ pre.map (·.1) = (items ws).take k ∧ J pre wr ∧ Blocks wr base 125 65 (.slice ao ws.length cap) (ws.map wrV)) (fun _ _ i _ => ws.length - (intOf i).toNat)
  case atStart => exact ⟨0, [], Nat.zero_le _, rfl, by simp, h0, HBL.out⟩
  case round =>
    obtain ⟨k, pre, hk, rfl, hpre, hJs, hBr⟩ := hrel
    by_cases hlt : k < ws.length
    · obtain ⟨g, rfl⟩ := HA.out (by omega)
      obtain ⟨x, hx⟩ : ∃ x, x = ws.getD k (0, []) := ⟨_, rfl⟩
      have hxm : x ∈ ws := by rw [hx]; simp [List.getD, hlt]
      obtain ⟨hxn, hxs⟩ := HOK.out x hxm
      have hr := hBr.range (by simp) (i := k) (by simp [hlt])
      have hgd : (ws.map wrV).getD k [] = wrV x := by rw [hx]; simp [List.getD, hlt]
      rw [hgd] at hr
      have hld1 := load_at_wr wr g (k * 65) x.1 hxs hr
      have hld2 := load_at_wr _ wr.heap.size 0 x.1 hxs (range_new wr x.1 x.2)
      have hst := store_wr wr Z0 (wrA x.1 x.2) hsZ0 (wrA_size _ hxs) (wrA_one _ _)
      have hfr : Below wr.heap.size wr (wr.alloc (.cells (wrA x.1 x.2) 125)) := (Below.refl _ wr).alloc (Nat.le_refl _) _
      have hJ2 : J pre (wr.alloc (.cells (wrA x.1 x.2) 125)) := hAb _ _ _ none hJs (World.grownBy_alloc _ _ none) (fun r hr => by cases hr)
      have hB2 := hBr.below hfr
      have hprel : pre.length = k := by
        have := congrArg List.length hpre
        rw [List.length_map, List.length_take, items, itemsFrom_len] at this
        omega
      obtain ⟨fn, tmps, assign, body, hy, hR⟩ := hY pre ⟨(k, x), hlt, hxn, hxs⟩ _ hJ2 (by omega)
      dsimp only [It.vals] at hy
      have HNX := hid (items_take ws k hlt)
      rw [← hx] at HNX
      have HP := hid hpre
      have HB2 := hid hB2
      have HR := hid hR
      have hszW : (wrA x.1 x.2).size = 65 := wrA_size _ hxs
      clear hpre hprel hB2 hBr hr hgd hx hxm hR hJ2 hfr
      obtain ⟨WX, hWX⟩ : ∃ WX, WX = wrA x.1 x.2 := ⟨_, rfl⟩
      rw [← hWX] at hld1 hld2 hst hy HB2 HR hszW
      clear hWX
      have HL1 := hid hld1
      have HL2 := hid hld2
      clear hld1 hld2
      have hltI : (k : Int) < (ws.length : Int) := by omega
      gi_wp2_with (first | (refine wpListIn_exec rfl rfl (exec_load 125 (.tmp 13) rfl rfl HL1.out) ?_) | (refine wpListIn_exec rfl rfl (exec_load 125 (.tmp 4) rfl rfl HL2.out) ?_))
      refine ⟨fun _ => by omega, HR.out.mono ?_⟩
      rintro e W3 (⟨rfl, hJ3, hk3⟩ | ⟨rfl, hJx3⟩)
      · clear hy
        gi_wp2
        go_roundw
        case rel =>
          refine ⟨k + 1, _, by omega, by go_num, ?_, hJ3, HB2.out.ks hk3 (by decide)⟩
          rw [List.map_append, HP.out, HNX.out]
          rfl
        case measure => simp [intOf]; omega
      · clear hy
        gi_wp2
        refine bodyPost_ret (results_none rfl _ _ _) rfl ?_
        exact ⟨⟨_, rfl⟩, .inr ⟨_, trivial, hJx3⟩⟩
    · obtain rfl : k = ws.length := by omega
      have hfull : pre.map (·.1) = items ws := by rw [hpre, List.take_of_length_le (by rw [items, itemsFrom_len]; exact Nat.le_refl _)]
      have HF := hid hfull
      clear hpre hfull
      gi_wp2
      go_end0
      exact ⟨⟨_, rfl⟩, .inl ⟨pre, HF.out, hJs⟩⟩

/-- waits: its receiver is boxed, the function value captures the box. -/
theorem waits_in (m : Nat) (B : Nat) (w : World) :
    CallsIn Fence.wide m Tryz.prog 80 #[.pointer (some ⟨B, 0, none⟩)] w fun e w' => e = .returned (.func (.func 94) #[] #[.pointer (some ⟨w.heap.size, 0, none⟩)]) ∧ w' = w.alloc (.cells #[.pointer (some ⟨B, 0, none⟩)] 29) := by
  refine callsIn_of_wp Tryz.func80 rfl trivial ?_ rfl
  simp only [Tryz.ntmps80, List.size_toArray, List.length_cons, List.length_nil, Nat.reduceAdd, Nat.reduceSub, Array.replicate_succ, Array.replicate_zero, List.push_toArray, List.append_toArray, List.nil_append, List.cons_append]
  gi_wp2
  go_ret
  exact ⟨rfl, rfl⟩

theorem iter_stops (m : Nat) (hm : 2 ≤ m) (Bx B n base : Nat) (ws : List (Nat × List Int)) (vw : Value) (w : World)
    (hbx : w.cell? ⟨Bx, 0, none⟩ = some (.pointer (some ⟨B, 0, none⟩))) (hcB : w.cell? ⟨B, 2, none⟩ = some vw) (hbl : Blocks w base 125 65 vw (ws.map wrV)) (hok : ∀ x ∈ ws, x.1 < n ∧ Sec x.2) (hl : ws.length ≤ 1000000) :
    SeqStopsK Fence.wide m Tryz.prog 94 #[.pointer (some ⟨Bx, 0, none⟩)] (fun x : It n ws.length => It.vals x) Ks (fun xs => xs.map (·.1) = items ws) (fun _ => True) ws.length w := fun l J Jx W hW hJ _ hY h0 =>
  iter_in m hm l Bx B n base ws vw J Jx W hJ hY ((hW.cell (p := ⟨Bx, 0, none⟩) (lt_of_cell hbx)).trans hbx) ((hW.cell (p := ⟨B, 2, none⟩) (lt_of_cell hcB)).trans hcB) (hbl.below hW) hok hl h0
end Go.Proofs.YtkbnjniglngjgaaGreatDoor

namespace Go.Proofs.YtkbnjniglngjgaaGreatDoor
open Go.RowKit Go.Shelf

attribute [local go_sem] Oper.semAt_some

/-- A disk amid a range over what waits: the box of the receiver, the struct, the rows; the sectors as they stand. -/
structure Fl (w : World) (base B n : Nat) (d : Dk) (gl cl gn cn : Nat) (vw : Value) (Bx : Nat) (last now : List (List Int)) (W : World) : Prop where
  box : W.heap[Bx]? = some (.cells #[.pointer (some ⟨B, 0, none⟩)] 29 (0, 0))
  str : W.heap[B]? = some (.cells #[.slice (some ⟨gl, 0, none⟩) n cl, .slice (some ⟨gn, 0, none⟩) n cn, vw, .int .i64 d.writes, .int .i64 d.left] 73 (0, 0))
  bl : Blocks W base 114 64 (.slice (some ⟨gl, 0, none⟩) n cl) (last.map secV)
  bn : Blocks W base 114 64 (.slice (some ⟨gn, 0, none⟩) n cn) (now.map secV)
  bw : Blocks W base 125 65 vw (d.wait.map wrV)
  kd : Kd base w W
theorem not_cells {o : Obj} (h : o.isCells = false) : ∀ c t f, o ≠ .cells c t f := fun c t f e => by subst e; cases h
theorem is_cells {o : Obj} (h : ∀ c t f, o ≠ .cells c t f) : o.isCells = false := by cases o <;> first | rfl | exact absurd rfl (h _ _ _)

theorem Fl.turn {w W W' : World} {base B n : Nat} {d : Dk} {gl cl gn cn : Nat} {vw : Value} {Bx : Nat} {last now : List (List Int)} {row : Option Nat} (h : Fl w base B n d gl cl gn cn vw Bx last now W) (hb : base ≤ w.heap.size) (hg : W.grownBy W' row)
    (hr : ∀ r, row = some r → w.heap.size ≤ r ∧ ∃ o : Obj, W.heap[r]? = some o ∧ o.isCells = false) : Fl w base B n d gl cl gn cn vw Bx last now W' := by
  have key : ∀ k c t f, W.heap[k]? = some (Obj.cells c t f) → W'.heap[k]? = W.heap[k]? := fun k c t f hk => hg.block k (lt_of_heap hk) (fun e => by
    obtain ⟨_, o, ho, hc⟩ := hr k e.symm
    rw [hk] at ho
    injection ho with e1
    subst e1
    cases hc)
  have row' : ∀ (e : TypeId) (m : Nat) (v : Value) (bl : List (List Value)), Blocks W base e m v bl → Blocks W' base e m v bl := fun e m v bl hb => hb.same fun k hk => by
    obtain ⟨c, hc⟩ := own_heap hb.2 hk
    exact key k _ _ _ hc
  refine ⟨(key _ _ _ _ h.box).trans h.box, (key _ _ _ _ h.str).trans h.str, row' _ _ _ _ h.bl, row' _ _ _ _ h.bn, row' _ _ _ _ h.bw, ?_⟩
  refine ⟨h.kd.below.grown hg (by have := h.kd.size; omega) (fun k e => by have := (hr k e).1; omega), fun k c t f hk h1 h2 h3 => ?_, fun k o hk ho => ?_⟩
  · have e := h.kd.keep k c t f hk h1 h2 h3
    exact (key k c t f (e.trans hk)).trans e
  · have e := h.kd.others k o hk ho
    exact (hg.block k (lt_of_heap e) (fun e' => by have := (hr k e'.symm).1; have := lt_of_heap hk; omega)).trans e
theorem Fl.fresh {w W W' : World} {base B n : Nat} {d : Dk} {gl cl gn cn : Nat} {vw : Value} {Bx : Nat} {last now : List (List Int)} (h : Fl w base B n d gl cl gn cn vw Bx last now W) (hb : base ≤ w.heap.size) (hf : Below W.heap.size W W') : Fl w base B n d gl cl gn cn vw Bx last now W' :=
  ⟨(hf.block _ (lt_of_heap h.box)).trans h.box, (hf.block _ (lt_of_heap h.str)).trans h.str, h.bl.below hf, h.bn.below hf, h.bw.below hf, h.kd.trans (Kd.fresh hf (by have := h.kd.size; omega))⟩
theorem grown_drewSet (W : World) (g o : Nat) (vs : List Value) : W.grownBy (W.drew.setCells g o vs) (some g) := by
  have h := grown_setCells g vs o W.drew
  exact ⟨h.os, h.tape, h.output, h.size, h.block⟩
theorem Fl.setRow {w W : World} {base B n : Nat} {d : Dk} {gl cl gn cn : Nat} {vw : Value} {Bx : Nat} {last now : List (List Int)} (h : Fl w base B n d gl cl gn cn vw Bx last now W) (hb : base ≤ w.heap.size) {g : Nat} {c : Array Value} (hg : W.heap[g]? = some (.cells c 114 (0, 0))) (hgb : base ≤ g) (o : Nat) (vs : List Value) :
    (W.drew.setCells g o vs).heap[Bx]? = W.heap[Bx]? ∧ (W.drew.setCells g o vs).heap[B]? = W.heap[B]? ∧ Blocks (W.drew.setCells g o vs) base 125 65 vw (d.wait.map wrV) ∧ Kd base w (W.drew.setCells g o vs) ∧ Ks W (W.drew.setCells g o vs) ∧ ∀ B', KeepsFrom B' W (W.drew.setCells g o vs) := by
  have hgr := grown_drewSet W g o vs
  have ks : Ks W (W.drew.setCells g o vs) := Ks.row hgr hg
  exact ⟨ks.keep _ _ _ _ h.box (by decide), ks.keep _ _ _ _ h.str (by decide), h.bw.ks ks (by decide), h.kd.trans (Kd.row hgr hgb (by have := h.kd.size; omega) hg (.inr (.inl rfl))), ks,
    fun B' => ⟨hgr.size, fun k o' _ hk ho => (hgr.block k (lt_of_heap hk) (fun e => by injection e with e; subst e; rw [hg] at hk; injection hk with e1; subst e1; cases ho)).trans hk⟩⟩
theorem Fl.setLast {w W : World} {base B n : Nat} {d : Dk} {gl cl gn cn : Nat} {vw : Value} {Bx : Nat} {last now : List (List Int)} (h : Fl w base B n d gl cl gn cn vw Bx last now W) (hb : base ≤ w.heap.size) (hne : gl ≠ gn) (hl : last.length = n) {i : Nat} (hi : i < n) {s : List Int} (hs : Sec s) :
    Fl w base B n d gl cl gn cn vw Bx (last.set i s) now (W.drew.setCells gl (i * 64) (secV s)) ∧ Ks W (W.drew.setCells gl (i * 64) (secV s)) ∧ ∀ B', KeepsFrom B' W (W.drew.setCells gl (i * 64) (secV s)) := by
  obtain ⟨c, hc⟩ := own_heap h.bl.2 (k := gl) rfl
  obtain ⟨e1, e2, e3, e4, e5, e6⟩ := h.setRow hb hc (own_base h.bl.2 gl rfl) (i * 64) (secV s)
  have hgr := grown_drewSet W gl (i * 64) (secV s)
  refine ⟨⟨e1.trans h.box, e2.trans h.str, ?_, ?_, e3, e4⟩, e5, e6⟩
  · have hd : Blocks W.drew base 114 64 (.slice (some ⟨gl, 0, none⟩) n cl) (last.map secV) := h.bl.same fun _ _ => rfl
    have := hd.set (by simp [hl]) (i := i) (by simp [hl, hi]) (b := secV s) (secV_len hs)
    rw [← List.map_set] at this
    exact this
  · exact h.bn.same fun k hk => by
      simp [Value.ownBlock] at hk
      subst hk
      exact hgr.block gn (h.bn.2.lt gn rfl).2 (fun e => by injection e with e; exact hne e.symm)
theorem Fl.setNow {w W : World} {base B n : Nat} {d : Dk} {gl cl gn cn : Nat} {vw : Value} {Bx : Nat} {last now : List (List Int)} (h : Fl w base B n d gl cl gn cn vw Bx last now W) (hb : base ≤ w.heap.size) (hne : gl ≠ gn) (hl : now.length = n) {i : Nat} (hi : i < n) {s : List Int} (hs : Sec s) :
    Fl w base B n d gl cl gn cn vw Bx last (now.set i s) (W.drew.setCells gn (i * 64) (secV s)) ∧ Ks W (W.drew.setCells gn (i * 64) (secV s)) ∧ ∀ B', KeepsFrom B' W (W.drew.setCells gn (i * 64) (secV s)) := by
  obtain ⟨c, hc⟩ := own_heap h.bn.2 (k := gn) rfl
  obtain ⟨e1, e2, e3, e4, e5, e6⟩ := h.setRow hb hc (own_base h.bn.2 gn rfl) (i * 64) (secV s)
  have hgr := grown_drewSet W gn (i * 64) (secV s)
  refine ⟨⟨e1.trans h.box, e2.trans h.str, ?_, ?_, e3, e4⟩, e5, e6⟩
  · exact h.bl.same fun k hk => by
      simp [Value.ownBlock] at hk
      subst hk
      exact hgr.block gl (h.bl.2.lt gl rfl).2 (fun e => by injection e with e; exact hne e)
  · have hd : Blocks W.drew base 114 64 (.slice (some ⟨gn, 0, none⟩) n cn) (now.map secV) := h.bn.same fun _ _ => rfl
    have := hd.set (by simp [hl]) (i := i) (by simp [hl, hi]) (b := secV s) (secV_len hs)
    rw [← List.map_set] at this
    exact this
/-- Behind the loops: nothing waits. -/
theorem Fl.close {w W : World} {base B n : Nat} {d : Dk} {gl cl gn cn : Nat} {vw : Value} {Bx : Nat} {last : List (List Int)} (h : Fl w base B n d gl cl gn cn vw Bx last last W) (hb : base ≤ w.heap.size) (hne : gl ≠ gn) (hn : 8 ≤ n ∧ n ≤ 65536) (hB : base ≤ B) (hl : last.length = n) (hs : ∀ s ∈ last, Sec s) (ho : d.Ok n) :
    DiskIs (W.setCell ⟨B, 2, none⟩ (.slice none 0 0)) base B n ⟨last, [], d.writes, d.left⟩ ∧ Kd base w (W.setCell ⟨B, 2, none⟩ (.slice none 0 0)) ∧ W.cell? ⟨B, 2, none⟩ = some vw ∧ W.frozen? ⟨B, 2, none⟩ = false ∧
      ∀ (k : Nat) (o : Obj), W.heap[k]? = some o → o.isCells = false → (W.setCell ⟨B, 2, none⟩ (.slice none 0 0)).heap[k]? = some o := by
  have hg := grown_setCell W B 2 (.slice none 0 0)
  have other : ∀ (v : Value) (e : TypeId) (m : Nat) (bl : List (List Value)), Blocks W base e m v bl → e ≠ 73 → Blocks (W.setCell ⟨B, 2, none⟩ (.slice none 0 0)) base e m v bl := fun v e m bl hb he =>
    hb.same fun k hk => by
      obtain ⟨c, hc⟩ := own_heap hb.2 hk
      exact hg.block k (lt_of_heap hc) (fun e' => by injection e' with e'; exact ne_of_type h.str hc (fun e2 => he e2.symm) e'.symm)
  refine ⟨⟨⟨hl, hs, fun x hx => by simp at hx, ho.left0, ho.left1, ho.w0⟩, hn, hB, gl, cl, gn, cn, .slice none 0 0, ?_, hne, other _ _ _ _ h.bl (by decide), other _ _ _ _ h.bn (by decide), ⟨fun b hb => by simp at hb, by simp; exact World.ownsRow_nil _ _ _ _⟩⟩, h.kd.trans (Kd.row hg hB (by have := h.kd.size; omega) h.str (.inl rfl)), cell_of_row W B 2 _ _ _ h.str, frozen_of_row W B 2 _ _ h.str, fun k o hk ho => ?_⟩
  · rw [heap_setCell_same W B 2 _ _ _ h.str]; rfl
  · exact (hg.block k (lt_of_heap hk) (fun e => by injection e with e; subst e; rw [h.str] at hk; injection hk with e1; subst e1; cases ho)).trans hk

theorem flush_dead {w : World} {base B n : Nat} {d : Dk} (h : DiskIs w base B n d) (hd : d.left = 0) :
    Calls Tryz.prog 55 #[.pointer (some ⟨B, 0, none⟩)] w fun e w' => e = .returned (.int .i64 50) ∧ Below w.heap.size w w' := by
  have hf : Below w.heap.size w (w.alloc (.cells #[.pointer (some ⟨B, 0, none⟩)] 29)) := (Below.refl _ _).alloc (Nat.le_refl _) _
  have HD := hid (dead_any (h.below hf))
  have hd2 : (d.left == 0) = true := by simpa using hd
  rw [hd2] at HD
  clear h hd hd2
  go_enter Tryz.func55, Tryz.ntmps55
  go_wp2_with (go_at_call 37; refine HD.out.mono ?_; rintro e w2 ⟨rfl, hw⟩; subst hw)
  go_ret
  exact ⟨rfl, hf⟩
end Go.Proofs.YtkbnjniglngjgaaGreatDoor

namespace Go.Proofs.YtkbnjniglngjgaaGreatDoor
open Go.RowKit Go.Shelf

attribute [local go_sem] Oper.semAt_some

/-- Flush's invariant: so many of the Writes are done. -/
def FlI (w : World) (base B n : Nat) (d : Dk) (gl cl gn cn : Nat) (vw : Value) (Bx : Nat) (pre : List (It n d.wait.length)) (W : World) : Prop :=
  Fl w base B n d gl cl gn cn vw Bx (app d.last (pre.map fun x => x.1.2)) d.now W
theorem pre_secs {n len : Nat} (pre : List (It n len)) : ∀ x ∈ pre.map (fun x => x.1.2), Sec x.2 := by
  intro x hx
  obtain ⟨y, _, rfl⟩ := List.mem_map.1 hx
  exact y.2.2.2
theorem items_snd (ws : List (Nat × List Int)) : (items ws).map (·.2) = ws := by
  have : ∀ k, (itemsFrom k ws).map (·.2) = ws := by
    induction ws with
    | nil => intro k; rfl
    | cons x r ih => intro k; simp [itemsFrom, ih]
  exact this 0

theorem DiskIs.turn {W W' : World} {base B n : Nat} {d : Dk} {row : Option Nat} (h : DiskIs W base B n d) (hg : W.grownBy W' row) (hr : ∀ r, row = some r → ∃ o : Obj, W.heap[r]? = some o ∧ o.isCells = false) : DiskIs W' base B n d := by
  have key : ∀ k c t f, W.heap[k]? = some (Obj.cells c t f) → W'.heap[k]? = W.heap[k]? := fun k c t f hk => hg.block k (lt_of_heap hk) (fun e => by
    obtain ⟨o, ho, hc⟩ := hr k e.symm
    rw [hk] at ho
    injection ho with e1
    subst e1
    cases hc)
  have row' : ∀ (e : TypeId) (m : Nat) (v : Value) (bl : List (List Value)), Blocks W base e m v bl → Blocks W' base e m v bl := fun e m v bl hb => hb.same fun k hk => by
    obtain ⟨c, hc⟩ := own_heap hb.2 hk
    exact key k _ _ _ hc
  obtain ⟨ho, hn, hB, gl, cl, gn, cn, vw, hh, hne, h1, h2, h3⟩ := h
  exact ⟨ho, hn, hB, gl, cl, gn, cn, vw, (key _ _ _ _ hh).trans hh, hne, row' _ _ _ _ h1, row' _ _ _ _ h2, row' _ _ _ _ h3⟩
theorem Kd.turn {w W W' : World} {base : Nat} {row : Option Nat} (h : Kd base w W) (hb : base ≤ w.heap.size) (hg : W.grownBy W' row) (hr : ∀ r, row = some r → w.heap.size ≤ r) : Kd base w W' := by
  refine ⟨h.below.grown hg (by have := h.size; omega) (fun k e => by have := hr k e; omega), fun k c t f hk h1 h2 h3 => ?_, fun k o hk ho => ?_⟩
  · have e := h.keep k c t f hk h1 h2 h3
    exact (hg.block k (lt_of_heap (e.trans hk)) (fun e' => by have := hr k e'.symm; have := lt_of_heap hk; omega)).trans e
  · have e := h.others k o hk ho
    exact (hg.block k (lt_of_heap e) (fun e' => by have := hr k e'.symm; have := lt_of_heap hk; omega)).trans e

set_option maxRecDepth 100000 in
set_option maxHeartbeats 2000000 in
theorem flush_in {w : World} {base B n : Nat} {d : Dk} (h : DiskIs w base B n d) (hd : d.left ≠ 0) (hwl : d.wait.length ≤ 1000000) :
    CallsIn Fence.wide 9 Tryz.prog 55 #[.pointer (some ⟨B, 0, none⟩)] w fun e w' => e = .returned (.int .i64 0) ∧ DiskIs w' base B n d.flush ∧ Kd base w w' := by
  have hw : ∀ k, Fence.wide.fn k := fun _ => trivial
  have hf1 : Below w.heap.size w (w.alloc (.cells #[.pointer (some ⟨B, 0, none⟩)] 29)) := (Below.refl _ _).alloc (Nat.le_refl _) _
  have HD := hid (dead_any (h.below hf1))
  have hd2 : (d.left == 0) = false := by simpa using hd
  rw [hd2] at HD
  clear hd2
  have hbase := h.base_le
  have H := hid h
  have HDD := hid hd
  clear h hd
  refine callsIn_of_wp_marks Tryz.func55 rfl trivial ?_ rfl
  simp only [Tryz.ntmps55, List.size_toArray, List.length_cons, List.length_nil, Nat.reduceAdd, Nat.reduceSub, Array.replicate_succ, Array.replicate_zero, List.push_toArray, List.append_toArray, List.nil_append, List.cons_append]
  gi_wp2_with (first | (gi_at_call 37; refine (callsIn_wide.2 HD.out).mono ?_; rintro e w2 ⟨rfl, hw2⟩; subst hw2) | (gi_at_call 80; refine (waits_in _ _ _).mono ?_; rintro e w' ⟨rfl, rfl⟩))
  obtain ⟨W0, hW0⟩ : ∃ W0, (w.alloc (.cells #[.pointer (some ⟨B, 0, none⟩)] 29)).alloc (.cells #[.pointer (some ⟨B, 0, none⟩)] 29) = W0 := ⟨_, rfl⟩
  have hsz : W0.heap.size = w.heap.size + 2 := by rw [← hW0]; simp
  have hF0 : Below w.heap.size w W0 := by rw [← hW0]; exact ((Below.refl _ w).alloc (Nat.le_refl _) _).alloc (by simp) _
  have b0 : W0.heap[w.heap.size]? = some (.cells #[.pointer (some ⟨B, 0, none⟩)] 29 (0, 0)) := by
    rw [← hW0, Below.heap_alloc _ _ _ (by simp)]; exact heap_new w _
  have b1 : W0.heap[w.heap.size + 1]? = some (.cells #[.pointer (some ⟨B, 0, none⟩)] 29 (0, 0)) := by
    have := heap_new (w.alloc (.cells #[.pointer (some ⟨B, 0, none⟩)] 29)) (.cells #[.pointer (some ⟨B, 0, none⟩)] 29)
    rw [World.size_alloc] at this
    rw [← hW0]; exact this
  rw [hW0]
  clear hW0 HD
  obtain ⟨ho, hn, hB, gl, cl, gn, cn, vw, hh, hne, c1, c2, c3⟩ := H.out
  have hwa := ho.waits
  have hFl : Fl w base B n d gl cl gn cn vw w.heap.size d.last d.now W0 := ⟨b0, (hF0.block B (lt_of_heap hh)).trans hh, c1.below hF0, c2.below hF0, c3.below hF0, Kd.fresh hF0 hbase⟩
  have hmx : Tryz.prog.follows .mixedOrders = true := by kernel_rfl
  obtain ⟨Z0, hZ0⟩ : ∃ Z0, Z0 = wrA 0 nought := ⟨_, rfl⟩
  have hz := zero_wr
  have hsZ0 : Z0.size = 65 := by rw [hZ0]; exact wrA_size 0 sec_nought
  rw [← hZ0] at hz
  clear hZ0
  refine wpIn_rangeFunc_ownH rfl (by decide) (gf := 94) (lb := #[.pointer (some ⟨w.heap.size + 1, 0, none⟩)]) rfl trivial (enters_of Tryz.func94 (by kernel_rfl) rfl)
    (iter_stops (9 - 1) (by decide) (w.heap.size + 1) B n base d.wait vw W0 (cell_of_row W0 _ 0 _ _ _ b1) (cell_of_row W0 B 2 _ _ _ hFl.str) hFl.bw hwa hwl) (fun h k => Ks.trans h k) (fun W l o o' _ hl hc _ => Ks.putObj W l o o' hl hc) (Below.refl _ _) (fun _ => rfl)
    (FlI w base B n d gl cl gn cn vw w.heap.size) (fun _ _ _ => False) ?hI ?hIx ?h0
    (fun x a' W => ∃ Bn, a' = { tmps := #[.pointer (some ⟨B, 0, none⟩), .pointer (some ⟨w.heap.size, 0, none⟩), .int .i64 0, undef, .pointer (some ⟨Bn, 0, none⟩), .pointer (some ⟨B, 0, none⟩), .bool false, .pointer (some ⟨B, 0, none⟩), .func (.func 94) #[] #[.pointer (some ⟨w.heap.size + 1, 0, none⟩)], .int .i64 x.1.1, .agg (wrA x.1.2.1 x.1.2.2), undef, undef, undef, undef, undef, undef, undef, undef, undef, undef, undef, undef, undef, undef], defers := [] } ∧ W.heap[Bn]? = some (.cells (wrA x.1.2.1 x.1.2.2) 125 (0, 0)))
    ?hAx ?assign ?body ?done ?stop
  case hI => exact fun s A B' row hs hg hrow => hs.turn hbase hg (fun r e => ⟨by have := (hrow r e).1; omega, (hrow r e).2⟩)
  case hIx => exact fun c s A B' row hs _ _ => hs
  case h0 => exact hFl
  case hAx =>
    rintro x a' _ A B' row ⟨Bn, rfl, hBn⟩ hg hrow
    refine ⟨Bn, rfl, (hg.block Bn (lt_of_heap hBn) (fun e => ?_)).trans hBn⟩
    obtain ⟨_, o, ho', hc⟩ := hrow Bn e.symm
    rw [hBn] at ho'
    injection ho' with e1
    subst e1
    cases hc
  case assign =>
    intro l pre x W K hI hK
    have hst := store_wr W Z0 (wrA x.1.2.1 x.1.2.2) hsZ0 (wrA_size _ x.2.2.2) (wrA_one _ _)
    have hszW : (wrA x.1.2.1 x.1.2.2).size = 65 := wrA_size _ x.2.2.2
    have hfr : Below W.heap.size W (W.alloc (.cells (wrA x.1.2.1 x.1.2.2) 125)) := (Below.refl _ W).alloc (Nat.le_refl _) _
    have HK := hid (hK _ _ ((KeepsOthers.alloc W _).from _) (Ks.fresh hfr) (hI.fresh hbase hfr) ⟨W.heap.size, rfl, heap_new W _⟩)
    clear hK hI hfr
    obtain ⟨WX, hWX⟩ : ∃ WX, WX = wrA x.1.2.1 x.1.2.2 := ⟨_, rfl⟩
    dsimp only [It.vals]
    rw [← hWX] at hst hszW HK ⊢
    clear hWX
    gi_wp2
    exact HK.out
  case body =>
    rintro l pre x a' W _ _ hI ⟨Bn, rfl, hBn⟩ hlt
    obtain ⟨hx0, hx1, hx2⟩ := x.2
    have hlen : (app d.last (pre.map fun x => x.1.2)).length = n := by rw [app_len]; exact ho.len
    obtain ⟨F1, ks, kf⟩ := hI.setLast hbase hne hlen hx1 hx2
    have e1 : app d.last ((pre ++ [x]).map fun x => x.1.2) = (app d.last (pre.map fun x => x.1.2)).set x.1.2.1 x.1.2.2 := by rw [List.map_append]; exact app_snoc _ _ _
    have F1 : Hid (FlI w base B n d gl cl gn cn vw w.heap.size (pre ++ [x]) (W.drew.setCells gl (x.1.2.1 * 64) (secV x.1.2.2))) := by
      unfold FlI; rw [e1]; exact F1
    clear e1
    have ht : W.drew.there gl (x.1.2.1 * 64) (secV x.1.2.2).toArray.size := by
      have := hI.bl.there (by simp [hlen]) (i := x.1.2.1) (by rw [List.length_map, hlen]; exact hx1)
      simpa [secV, hx2.1] using this
    have hr1 : W.rangeAt Bn 1 (secV x.1.2.2) := fun j v hv => by
      rw [cell_of_row _ _ _ _ _ _ hBn, Nat.add_comm 1 j]
      simpa using hv
    have hgl := (hI.bl.2.lt gl rfl).2
    obtain ⟨cg, hcg⟩ := own_heap hI.bl.2 (k := gl) rfl
    have hnB : Bn ≠ gl := ne_of_type hBn hcg (by decide)
    have S0 := hid (And.intro (cell_of_row W _ 0 _ _ _ hI.box) (And.intro (cell_of_row W B 0 _ _ _ hI.str) (And.intro (cell_of_row W Bn 0 _ _ _ hBn) (And.intro hr1 ht))))
    have hBn1 := ks.keep _ _ _ _ hBn (by decide)
    have S1 := hid (And.intro (cell_of_row _ _ 0 _ _ _ F1.out.box) (And.intro (cell_of_row _ B 0 _ _ _ F1.out.str) (And.intro (cell_of_row _ Bn 0 _ _ _ (hBn1.trans hBn)) (And.intro (World.rangeAt_setCells_apart (w := W.drew) hr1 gl (x.1.2.1 * 64) (secV x.1.2.2) (.inl hnB)) (World.there_setCells ht gl (x.1.2.1 * 64) (secV x.1.2.2))))))
    have hu : Tryz.prog.underlying 114 = some (.array 64 5) := Tryz.underlying114
    have hinf : (Tryz.prog.info? 114).map (·.size) = some (secV x.1.2.2).length := by
      obtain ⟨i0, hi0, _, hz1, _⟩ := info_parts infoSec
      rw [hi0, secV_len hx2]; simp [hz1]
    have hinf' : (Tryz.prog.info? 114).map (·.size) = some (secV x.1.2.2).toArray.size := by simpa using hinf
    have hxI : (x.1.2.1 : Int) < (n : Int) := by omega
    clear hz hI hBn hBn1 hr1 hcg
    gi_wp2
    refine wpIn_region_plain (S := fun W' => W'.cell? ⟨w.heap.size, 0, none⟩ = some (.pointer (some ⟨B, 0, none⟩)) ∧ W'.cell? ⟨B, 0, none⟩ = some (.slice (some ⟨gl, 0, none⟩) n cl) ∧ W'.cell? ⟨Bn, 0, none⟩ = some (.int .i64 (x.1.2.1 : Int)) ∧ W'.rangeAt Bn 1 (secV x.1.2.2) ∧ W'.there gl (x.1.2.1 * 64) (secV x.1.2.2).toArray.size) hmx (by kernel_rfl) S0.out (fun hHeld => ?_)
    refine wpAnyH_take (i := 0) (v := .pointer (some ⟨B, 0, none⟩)) rfl (by kernel_rfl) (by kernel_rfl) (by kernel_rfl) (fun _ _ _ h => h) (Or.inl ⟨by rfl, fun wx hS => by have hq := hS.1; clear hS; go_simp⟩) (by assumption) ?_
    simp only [List.getElem_toArray, List.getElem_cons_zero, Act.put, List.setIfInBounds_toArray, List.set_cons_zero, List.set_cons_succ]
    refine wpAnyH_take (i := 1) (v := .pointer (some ⟨B, 0, none⟩)) rfl (by kernel_rfl) (by kernel_rfl) (by kernel_rfl) (fun _ _ _ h => h) (Or.inl ⟨by rfl, fun wx hS => by rfl⟩) (by assumption) ?_
    simp only [List.getElem_toArray, List.getElem_cons_succ, List.getElem_cons_zero, Act.put, List.setIfInBounds_toArray, List.set_cons_zero, List.set_cons_succ]
    refine wpAnyH_take (i := 2) (v := .pointer (some ⟨B, 0, none⟩)) rfl (by kernel_rfl) (by kernel_rfl) (by kernel_rfl) (fun _ _ _ h => h) (Or.inl ⟨by rfl, fun wx hS => by go_simp⟩) (by assumption) ?_
    simp only [List.getElem_toArray, List.getElem_cons_succ, List.getElem_cons_zero, Act.put, List.setIfInBounds_toArray, List.set_cons_zero, List.set_cons_succ]
    refine wpAnyH_take (i := 3) (v := .slice (some ⟨gl, 0, none⟩) n cl) rfl (by kernel_rfl) (by kernel_rfl) (by kernel_rfl) (fun _ _ _ h => h) (Or.inl ⟨by rfl, fun wx hS => by have hq := hS.2.1; clear hS; go_simp⟩) (by assumption) ?_
    simp only [List.getElem_toArray, List.getElem_cons_succ, List.getElem_cons_zero, Act.put, List.setIfInBounds_toArray, List.set_cons_zero, List.set_cons_succ]
    refine wpAnyH_take (i := 4) (v := .pointer (some ⟨Bn, 0, none⟩)) rfl (by kernel_rfl) (by kernel_rfl) (by kernel_rfl) (fun _ _ _ h => h) (Or.inl ⟨by rfl, fun wx hS => by go_simp⟩) (by assumption) ?_
    simp only [List.getElem_toArray, List.getElem_cons_succ, List.getElem_cons_zero, Act.put, List.setIfInBounds_toArray, List.set_cons_zero, List.set_cons_succ]
    refine wpAnyH_take (i := 5) (v := .int .i64 (x.1.2.1 : Int)) rfl (by kernel_rfl) (by kernel_rfl) (by kernel_rfl) (fun _ _ _ h => h) (Or.inl ⟨by rfl, fun wx hS => by have hq := hS.2.2.1; clear hS; go_simp⟩) (by assumption) ?_
    simp only [List.getElem_toArray, List.getElem_cons_succ, List.getElem_cons_zero, Act.put, List.setIfInBounds_toArray, List.set_cons_zero, List.set_cons_succ]
    refine wpAnyH_take (i := 6) (v := .pointer (some ⟨Bn, 1, none⟩)) rfl (by kernel_rfl) (by kernel_rfl) (by kernel_rfl) (fun _ _ _ h => h) (Or.inl ⟨by rfl, fun wx hS => by go_simp⟩) (by assumption) ?_
    simp only [List.getElem_toArray, List.getElem_cons_succ, List.getElem_cons_zero, Act.put, List.setIfInBounds_toArray, List.set_cons_zero, List.set_cons_succ]
    refine wpAnyH_take (i := 7) (v := .agg (secV x.1.2.2).toArray) rfl (by kernel_rfl) (by kernel_rfl) (by kernel_rfl) (fun _ _ _ h => h) (yieldsIf_load_mid (by rfl) 114 (.tmp 17) rfl Bn 1 rfl (secV x.1.2.2) _ (fun _ hS => hS.2.2.2.1) hu rfl hinf) (by assumption) ?_
    simp only [List.getElem_toArray, List.getElem_cons_succ, List.getElem_cons_zero, Act.put, List.setIfInBounds_toArray, List.set_cons_zero, List.set_cons_succ]
    refine wpAnyH_take (i := 8) (v := .pointer (some ⟨gl, x.1.2.1 * 64, none⟩)) rfl (by kernel_rfl) (by kernel_rfl) (by kernel_rfl) (fun _ _ _ h => h) (Or.inl ⟨by rfl, fun wx hS => by go_simp⟩) (by assumption) ?_
    simp only [List.getElem_toArray, List.getElem_cons_succ, List.getElem_cons_zero, Act.put, List.setIfInBounds_toArray, List.set_cons_zero, List.set_cons_succ]
    refine wpAnyH_ready (rs := [9]) (by kernel_rfl) (by simp) ?_
    refine AllReadyH.cons rfl (fun K hK => ?_) AllReadyH.nil
    dsimp only [List.getElem_toArray, List.getElem_cons_succ, List.getElem_cons_zero]
    rw [if_pos (by rfl)]
    refine wp_store_mid 114 (.tmp 19) (.tmp 18) rfl gl (x.1.2.1 * 64) (secV x.1.2.2).toArray rfl rfl ht hinf' (all_oneCell_toArray (secV_one _)) ?_
    refine hK.out _ _ S1.out (fun _ => ?_)
    clear hK K
    refine wpAnyH_done (by kernel_rfl) ?_ _
    exact ⟨kf _, ks, F1.out⟩
  case done =>
    rintro D ys W hD hS hI hK
    have e1 : app d.last (ys.map fun x => x.1.2) = d.now := by
      have : ys.map (fun x => x.1.2) = (ys.map (·.1)).map (·.2) := by rw [List.map_map]; rfl
      rw [this, hS, items_snd]; rfl
    unfold FlI at hI
    rw [e1] at hI
    obtain ⟨hDi, hKd, hc2, hf2, hot⟩ := hI.close hbase hne hn hB ho.now_len ho.now_secs ho
    have HBU := hid (burn_any hDi HDD.out)
    have HKd := hid hKd
    have hK1 := hot D _ hK rfl
    have hbx := cell_of_row W _ 0 _ _ _ hI.box
    have hbx2 : (W.setCell ⟨B, 2, none⟩ (.slice none 0 0)).cell? ⟨w.heap.size, 0, none⟩ = some (.pointer (some ⟨B, 0, none⟩)) := by
      rw [World.cell?_setCell_far _ _ _ _ (show B ≠ w.heap.size by have := lt_of_heap hh; omega)]; exact hbx
    simp only [List.getElem?_toArray, List.getElem?_cons_zero] at hbx
    clear hz hI e1 hDi hKd hot hS
    gi_wp2_with (gi_at_call 79; refine (callsIn_wide.2 HBU.out).mono ?_; rintro e w7 ⟨⟨v7, rfl⟩, hdi7, hkd7⟩)
    have hK7 := hkd7.others D _ hK1 (fun _ _ _ e => by cases e)
    have hrow : ∀ r, some D = some r → ∃ o : Obj, w7.heap[r]? = some o ∧ o.isCells = false := fun r e => by cases e; exact ⟨_, hK7, rfl⟩
    refine ⟨by simp, .inl ⟨_, _, rfl, run_takeDeferred hK7, ?_⟩⟩
    refine ⟨.int .i64 0, ?_, rfl, hdi7.turn (grownBy_putObj' _ D (.deferred none)) hrow, (HKd.out.trans hkd7).turn hbase (grownBy_putObj' _ D (.deferred none)) (fun r e => by cases e; omega)⟩
    simp [results, Tryz.f55, go_sem]
  case stop => exact fun D c pre W _ _ hF _ => hF.elim
theorem flush_any {w : World} {base B n : Nat} {d : Dk} (h : DiskIs w base B n d) (hd : d.left ≠ 0) (hwl : d.wait.length ≤ 1000000) :
    Calls Tryz.prog 55 #[.pointer (some ⟨B, 0, none⟩)] w fun e w' => e = .returned (.int .i64 0) ∧ DiskIs w' base B n d.flush ∧ Kd base w w' := callsIn_wide.1 (flush_in h hd hwl)
end Go.Proofs.YtkbnjniglngjgaaGreatDoor
