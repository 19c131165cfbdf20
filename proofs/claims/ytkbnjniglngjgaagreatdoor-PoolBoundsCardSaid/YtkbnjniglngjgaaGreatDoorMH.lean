/-
  Layer 3: what page.headOf gives.
-/
import Derived.Test.YtkbnjniglngjgaaGreatDoorGStore
namespace Go.Proofs.YtkbnjniglngjgaaGreatDoor
open Go.RowKit Go.Shelf

attribute [local go_sem] Oper.semAt_some

/-- An append whose run is known, as one operation within a fence. -/
theorem opIn_append {F : Fence} {n : Nat} {P : Program} {o : Oper} {a : Act} {w w' : World} {K : Act → World → Prop} {Q : Exit → Act → World → Prop} (s x : Operand) (t : TypeId)
    (hop : o.op = Op.call { callee := Callee.builtin Builtin.append, args := #[s, x], argTypes := #[t, t] }) {v u v' : Value} (hs : a.eval s = v) (hx : a.eval x = u) (hrun : (Builtin.append_ #[t, t] o.type #[v, u]).run P w = .ok v' w')
    (hK : K (a.put o.dst v') w') : Oper.wpIn F n P o a w K Q := by
  unfold Oper.wpIn
  refine ⟨?_, ?_⟩
  · simp [Oper.about, hop, resolve, Target.leads, Sem.run_pure]
  · rw [Oper.semAt_plain F _ _ (by rw [hop]; intro c hc'; cases hc')]
    simp [execOp, hop, resolve, invoke, builtin, hs, hx, hrun, Result.andThen]
    exact hK
theorem keeps_row {W W' : World} {g : Nat} {c : Array Value} {t : TypeId} {f : Nat × Nat} (hg : W.grownBy W' (some g)) (hh : W.heap[g]? = some (.cells c t f)) : KeepsOthers W W' :=
  ⟨hg.size, fun k o hk ho => (hg.block k (lt_of_heap hk) (fun e => by
    injection e with e
    subst e
    rw [hh] at hk
    injection hk with e1
    subst e1
    cases ho)).trans hk⟩
abbrev sumAt (f : List Int) (j : Nat) : List Int := ((f.drop (512 * j)).take 512).drop 508
theorem sums_all (f : List Int) : ∀ k, 512 * k ≤ f.length → ((List.range k).map (sumAt f)).flatten = sumsOf k f
  | 0, _ => rfl
  | k + 1, h => by
    rw [List.range_succ, List.map_append, List.flatten_append, sums_all f k (by omega), sumsOf_snoc k f h]
    simp
theorem sumAt_len {f : List Int} {j : Nat} (h : 512 * (j + 1) ≤ f.length) : (sumAt f j).length = 4 := by simp [sumAt]; omega

/-- Amid page.headOf. -/
structure HdI (w : World) (Bv : Nat) (ao : Option Addr) (Ln cap : Nat) (xs : List Int) (W : World) : Prop where
  buf : Buf W w.heap.size 64 xs
  bh : W.heap[w.heap.size + 1]? = some (.cells #[.slice (some ⟨w.heap.size, 0, none⟩) xs.length 64] 38 (0, 0))
  bv : W.heap[Bv]? = some (.cells #[.slice ao Ln cap] 38 (0, 0))
  bn : W.heap[Bv + 1]? = some (.cells #[.int .i64 512] 3 (0, 0))
  below : Below w.heap.size w W
theorem HdI.turn {w W W' : World} {Bv : Nat} {ao : Option Addr} {Ln cap : Nat} {xs : List Int} {row : Option Nat} (h : HdI w Bv ao Ln cap xs W) (hg : W.grownBy W' row) (hr : ∀ r, row = some r → w.heap.size ≤ r ∧ ∃ o : Obj, W.heap[r]? = some o ∧ o.isCells = false) : HdI w Bv ao Ln cap xs W' := by
  have key := turn_cells hg (fun r e => (hr r e).2)
  exact ⟨⟨h.buf.1, (key _ _ _ _ h.buf.2).trans h.buf.2⟩, (key _ _ _ _ h.bh).trans h.bh, (key _ _ _ _ h.bv).trans h.bv, (key _ _ _ _ h.bn).trans h.bn, h.below.grown hg h.below.size (fun k e => (hr k e).1)⟩
/-- A further piece is appended. -/
theorem HdI.add {w W W1 : World} {Bv : Nat} {ao : Option Addr} {Ln cap : Nat} {xs ys : List Int} (h : HdI w Bv ao Ln cap xs W) (hBv : w.heap.size + 2 ≤ Bv) (hg : W.grownBy W1 (some w.heap.size)) (hb : Buf W1 w.heap.size 64 (xs ++ ys)) :
    HdI w Bv ao Ln cap (xs ++ ys) (W1.setCell ⟨w.heap.size + 1, 0, none⟩ (.slice (some ⟨w.heap.size, 0, none⟩) (xs ++ ys).length 64)) := by
  have far1 : ∀ k, k < W.heap.size → k ≠ w.heap.size → W1.heap[k]? = W.heap[k]? := fun k h1 h2 => hg.block k h1 (fun e => by injection e with e; exact h2 e)
  have far : ∀ k, k ≠ w.heap.size + 1 → (W1.setCell ⟨w.heap.size + 1, 0, none⟩ (.slice (some ⟨w.heap.size, 0, none⟩) (xs ++ ys).length 64)).heap[k]? = W1.heap[k]? := fun k hk => Below.heap_setCell W1 _ _ k (fun e => hk (by rw [e]))
  have bh1 := (far1 _ (lt_of_heap h.bh) (by omega)).trans h.bh
  exact ⟨⟨hb.1, (far _ (by omega)).trans hb.2⟩, box_set bh1, (far _ (by omega)).trans ((far1 _ (lt_of_heap h.bv) (by omega)).trans h.bv), (far _ (by omega)).trans ((far1 _ (lt_of_heap h.bn) (by omega)).trans h.bn),
    (h.below.grown hg h.below.size (fun k e => by cases e; omega)).setCell (p := ⟨w.heap.size + 1, 0, none⟩) (by show w.heap.size ≤ w.heap.size + 1; omega) _⟩

theorem HdI.drew {w W : World} {Bv : Nat} {ao : Option Addr} {Ln cap : Nat} {xs : List Int} (h : HdI w Bv ao Ln cap xs W) : HdI w Bv ao Ln cap xs W.drew :=
  h.turn (row := none) ⟨rfl, rfl, rfl, Nat.le_refl _, fun _ _ _ => rfl⟩ (fun r e => by cases e)
theorem sums_len {f : List Int} {q : Nat} (h : f.length = 512 * q) : ∀ (pre : List (Pc q)), ((pre.map fun x => sumAt f x.1).flatten).length = 4 * pre.length
  | [] => rfl
  | x :: r => by
    have hx := x.2
    have h1 := sums_len h r
    have h2 : (sumAt f x.1).length = 4 := sumAt_len (by rw [h]; omega)
    simp only [List.map_cons, List.flatten_cons, List.length_append, List.length_cons, h1, h2]
    omega
theorem head_uv {w wB w1 : World} {q : Nat} {v1 : Value} (hq : q ≤ 8) (hbf : Buf wB w.heap.size 64 []) (hbx : wB.heap[w.heap.size + 1]? = some (.cells #[.slice (some ⟨w.heap.size, 0, none⟩) 0 64] 38 (0, 0))) (hbb : Below w.heap.size w wB)
    (hb1 : Below wB.heap.size wB w1) (hown1 : w1.ownsRow wB.heap.size 5 1 v1 1 (List.map (Value.int .u8) [(q : Int)])) :
    w1.cell? ⟨w.heap.size + 1, 0, none⟩ = some (.slice (some ⟨w.heap.size, 0, none⟩) 0 64) ∧ ∃ a1 c1 w2, v1 = .slice a1 1 c1 ∧ (Builtin.append_ #[38, 38] 38 #[.slice (some ⟨w.heap.size, 0, none⟩) 0 64, .slice a1 1 c1]).run Tryz.prog w1 = .ok (.slice (some ⟨w.heap.size, 0, none⟩) 1 64) w2 ∧
      Buf w2 w.heap.size 64 [(q : Int)] ∧ w2.heap[w.heap.size + 1]? = some (.cells #[.slice (some ⟨w.heap.size, 0, none⟩) 0 64] 38 (0, 0)) ∧ Below w.heap.size w w2 ∧ w2.cell? ⟨w.heap.size + 1, 0, none⟩ = some (.slice (some ⟨w.heap.size, 0, none⟩) 0 64) ∧ w2.frozen? ⟨w.heap.size + 1, 0, none⟩ = false := by
  have hbx1 := (hb1.block _ (lt_of_heap hbx)).trans hbx
  obtain ⟨a1, c1, rfl, _, _⟩ := own_any hown1
  obtain ⟨w2, hrun, hbuf2, hg2⟩ := buf_append (hbf.below hb1) (bs_of_own hown1 (fun b hb => by simp at hb; omega) (by simp)) (n := 0) (m := 1) rfl rfl (by omega) (by omega) 38
  have hbx2 := (hg2.block _ (lt_of_heap hbx1) (fun e => by injection e with e; omega)).trans hbx1
  exact ⟨cell_of_row w1 (w.heap.size + 1) 0 _ _ _ hbx1, a1, c1, w2, rfl, hrun, hbuf2, hbx2, (hbb.trans (hb1.mono hbb.size)).grown hg2 (Nat.le_trans hbb.size hb1.size) (fun k e => by cases e; omega), cell_of_row w2 (w.heap.size + 1) 0 _ _ _ hbx2, frozen_of_row w2 (w.heap.size + 1) 0 _ _ hbx2⟩

set_option maxRecDepth 100000 in
set_option maxHeartbeats 2000000 in
theorem head_in {w : World} {q : Nat} {v : Value} {f : List Int} (hv : w.ownsRow 0 5 1 v (512 * q) (secV f)) (hby : By f) (hq : q ≤ 8) :
    CallsIn Fence.wide 12 Tryz.prog 90 #[v] w fun e w' => ∃ v', e = .returned v' ∧ w'.ownsRow w.heap.size 5 1 v' 64 (secV (headOf f)) ∧ Below w.heap.size w w' := by
  have hw : ∀ k, Fence.wide.fn k := fun _ => trivial
  have hmk : ∀ wx : World, (Instr.makeSlice 38 (.int .i64 0) (.int .i64 64)).run Tryz.prog wx = .ok (.slice (some ⟨wx.heap.size, 0, none⟩) 0 64) (wx.alloc (.cells (madeCells #[Value.int .u8 0] 64) 5)) := hmk0 64 (by omega)
  have hfl : f.length = 512 * q := by have := hv.1; simpa [secV] using this
  obtain ⟨ao, cap, rfl, hcap, hop⟩ := own_any hv
  obtain ⟨C, hC⟩ : ∃ C, C = madeCells #[Value.int .u8 0] 64 := ⟨_, rfl⟩
  have hbn := buf_new w 64
  rw [← hC] at hmk hbn
  clear hC
  have HV := hid hv
  have HBY := hid hby
  have HFL := hid hfl
  have HOP : Hid (1 ≤ q → ∃ g, ao = some ⟨g, 0, none⟩) := fun h => hop (by omega)
  obtain ⟨Ln, hLn⟩ : ∃ Ln, Ln = 512 * q := ⟨_, rfl⟩
  rw [← hLn] at hcap HV ⊢
  have hquo : (Ln : Int) / 512 = (q : Int) := by omega
  have hwq : IntKind.u64.wrap (q : Int) = (q : Int) := IntWalk.u64_in _ ⟨by omega, by omega⟩
  have hwi : IntKind.i64.wrap (q : Int) = (q : Int) := by rw [IntKind.wrap_i64]; omega
  have hLb : Ln ≤ 4096 := by omega
  have HLN := hid hLn
  clear hv hby hfl hop hLn
  -- the row, its box
  obtain ⟨wA, hwA⟩ : ∃ wA, w.alloc (.cells C 5) = wA := ⟨_, rfl⟩
  have hszA : wA.heap.size = w.heap.size + 1 := by rw [← hwA]; simp
  rw [hwA] at hbn
  obtain ⟨wB, hwB⟩ : ∃ wB, wA.alloc (.cells #[.slice (some ⟨w.heap.size, 0, none⟩) 0 64] 38) = wB := ⟨_, rfl⟩
  have hszB : wB.heap.size = w.heap.size + 2 := by rw [← hwB]; simp [hszA]
  have hbufB : Buf wB w.heap.size 64 [] := by rw [← hwB]; exact hbn.below ((Below.refl _ _).alloc (Nat.le_refl _) _)
  have hboxB : wB.heap[w.heap.size + 1]? = some (.cells #[.slice (some ⟨w.heap.size, 0, none⟩) 0 64] 38 (0, 0)) := by rw [← hwB, ← hszA]; exact heap_new wA _
  have hBB : Below w.heap.size w wB := by rw [← hwB, ← hwA]; exact ((Below.refl _ w).alloc (Nat.le_refl _) _).alloc (by simp) _
  have cB := cell_of_row wB (w.heap.size + 1) 0 _ _ _ hboxB
  simp only [List.getElem?_toArray, List.getElem?_cons_zero] at cB
  have HU := hid (uvar_any (q : Int) wB.drew (by omega) (by omega))
  have huq := uv_small hq
  have HUQ := hid huq
  rw [huq] at HU
  have HBF := hid hbufB
  have HBX := hid hboxB
  have HBB := hid hBB
  clear hbufB hboxB hBB hbn huq
  refine callsIn_of_wp_marks Tryz.func90 rfl trivial ?_ rfl
  simp only [Tryz.ntmps90, List.size_toArray, List.length_cons, List.length_nil, Nat.reduceAdd, Nat.reduceSub, Array.replicate_succ, Array.replicate_zero, List.push_toArray, List.append_toArray, List.nil_append, List.cons_append]
  have hmx : Tryz.prog.follows .mixedOrders = true := by kernel_rfl
  gi_wp2
  rename_i K0 hK0
  have hrest : Hid (∀ (w2 : World) (a1 : Option Addr) (c1 : Nat), Buf w2 w.heap.size 64 [(q : Int)] → w2.heap[w.heap.size + 1]? = some (.cells #[.slice (some ⟨w.heap.size, 0, none⟩) 0 64] 38 (0, 0)) → Below w.heap.size w w2 →
      K0 { tmps := #[.slice ao Ln cap, undef, .slice none 0 0, .pointer (some ⟨w.heap.size + 1, 0, none⟩), undef, .slice (some ⟨w.heap.size, 0, none⟩) 0 64, .slice (some ⟨w.heap.size, 0, none⟩) 0 64, .slice ao Ln cap, .int .i64 Ln, .int .i64 q, .int .u64 q, .slice a1 1 c1, .slice (some ⟨w.heap.size, 0, none⟩) 1 64, undef, undef, undef, undef, undef, undef, undef, undef, undef], defers := [] } (w2.setCell ⟨w.heap.size + 1, 0, none⟩ (.slice (some ⟨w.heap.size, 0, none⟩) 1 64))) := by
    intro w2 a1 c1 hbf hbx hbl
    refine hK0 _ _ ?_
    clear hK0
    obtain ⟨w3, hw3⟩ : ∃ w3, w2.setCell ⟨w.heap.size + 1, 0, none⟩ (.slice (some ⟨w.heap.size, 0, none⟩) 1 64) = w3 := ⟨_, rfl⟩
    have hbf3 : Buf w3 w.heap.size 64 [(q : Int)] := by rw [← hw3]; exact ⟨hbf.1, (Below.heap_setCell w2 _ _ _ (fun e => by have : w.heap.size = w.heap.size + 1 := e; omega)).trans hbf.2⟩
    have hbx3 : w3.heap[w.heap.size + 1]? = some (.cells #[.slice (some ⟨w.heap.size, 0, none⟩) 1 64] 38 (0, 0)) := by rw [← hw3]; exact box_set hbx
    have hbl3 : Below w.heap.size w w3 := by rw [← hw3]; exact hbl.setCell (p := ⟨w.heap.size + 1, 0, none⟩) (by show w.heap.size ≤ w.heap.size + 1; omega) _
    rw [hw3]
    clear hw3 hbf hbx hbl HBF HBX HBB cB
    gi_wp2_with (gi_at_call 92; refine (chunkOf_in _ _ _ _ 512 (by omega) _).mono ?_; rintro e w' ⟨rfl, rfl⟩)
    obtain ⟨g, hg⟩ : ∃ g, 1 ≤ q → ao = some ⟨g, 0, none⟩ := by
      rcases Nat.eq_zero_or_pos q with h | h
      · exact ⟨0, fun h' => by omega⟩
      · obtain ⟨g, hg⟩ := HOP.out h
        exact ⟨g, fun _ => hg⟩
    have hS1 := lt_of_heap hbx3
    have hsz3 := hbl3.size
    obtain ⟨W0, hW0⟩ : ∃ W0, (w3.alloc (.cells #[.slice ao Ln cap] 38)).alloc (.cells #[.int .i64 512] 3) = W0 := ⟨_, rfl⟩
    have hb30 : Below w3.heap.size w3 W0 := by rw [← hW0]; exact ((Below.refl _ w3).alloc (Nat.le_refl _) _).alloc (by simp) _
    have b0 : W0.heap[w3.heap.size]? = some (.cells #[.slice ao Ln cap] 38 (0, 0)) := by rw [← hW0, Below.heap_alloc _ _ _ (by simp)]; exact heap_new w3 _
    have b1 : W0.heap[w3.heap.size + 1]? = some (.cells #[.int .i64 512] 3 (0, 0)) := by
      have := heap_new (w3.alloc (.cells #[.slice ao Ln cap] 38)) (.cells #[.int .i64 512] 3)
      rw [World.size_alloc] at this
      rw [← hW0]; exact this
    have hszW0 : W0.heap.size = w3.heap.size + 2 := by rw [← hW0]; simp
    have h0 : HdI w w3.heap.size ao Ln cap [(q : Int)] W0 := ⟨hbf3.below hb30, (hb30.block _ hS1).trans hbx3, b0, b1, hbl3.trans (hb30.mono hsz3)⟩
    rw [hW0]
    clear hW0 hbf3 hbx3 hbl3 hb30
    obtain ⟨P, hP⟩ : ∃ P : Nat → Prop, P = fun k => k = w.heap.size ∨ k = w.heap.size + 1 := ⟨_, rfl⟩
    refine wpIn_rangeFunc_ownG rfl (by decide) (gf := 108) (lb := #[.pointer (some ⟨w3.heap.size, 0, none⟩), .pointer (some ⟨w3.heap.size + 1, 0, none⟩)]) rfl trivial (enters_of Tryz.func108 (by kernel_rfl) rfl)
      (chunk_stops (12 - 1) (by decide) w3.heap.size (w3.heap.size + 1) (w3.heap.size + 2) P g 0 cap 512 q Ln ao W0 b0 b1 ⟨by omega, by rw [hP]; simp only; omega⟩ ⟨by omega, by rw [hP]; simp only; omega⟩ hg (by have := HLN.out; omega) (by omega) hcap (by omega)) (fun h k => Kc.trans h k) (fun W l o o' _ hl hc _ => Kc.putObj _ _ W l o o' hl hc) (Below.refl _ _) (fun _ => rfl)
      (fun pre W => HdI w w3.heap.size ao Ln cap ([(q : Int)] ++ (pre.map fun x => sumAt f x.1).flatten) W) (fun _ _ _ => False) ?hI ?hIx ?h0
      (fun x => { tmps := #[.slice ao Ln cap, undef, .slice none 0 0, .pointer (some ⟨w.heap.size + 1, 0, none⟩), .slice (some ⟨g, x.1 * 512, none⟩) 512 512, .slice (some ⟨w.heap.size, 0, none⟩) 0 64, .slice (some ⟨w.heap.size, 0, none⟩) 0 64, .slice ao Ln cap, .int .i64 Ln, .int .i64 q, .int .u64 q, .slice a1 1 c1, .slice (some ⟨w.heap.size, 0, none⟩) 1 64, .slice ao Ln cap, .func (.func 108) #[] #[.pointer (some ⟨w3.heap.size, 0, none⟩), .pointer (some ⟨w3.heap.size + 1, 0, none⟩)], .slice (some ⟨g, x.1 * 512, none⟩) 512 512, undef, undef, undef, undef, undef, undef], defers := [] }) ?assign ?body ?done ?stop
    case hI => exact fun s A B' row hs hg' hrow => hs.turn hg' (fun r e => ⟨by have := (hrow r e).1; omega, (hrow r e).2⟩)
    case hIx => exact fun c s A B' row hs _ _ => hs
    case h0 => simpa using h0
    case assign =>
      intro l x W K hK
      gi_wp2
      exact hK
    case body =>
      rintro l pre x W hI hlt
      have hx := x.2
      obtain rfl := hg (by omega)
      have hId := hI.drew
      have hsl : (sumAt f x.1).length = 4 := sumAt_len (by have := HFL.out; omega)
      have hxl : ([(q : Int)] ++ (pre.map fun x => sumAt f x.1).flatten).length = 1 + 4 * pre.length := by rw [List.length_append, sums_len HFL.out]; rfl
      have hsrc : Bs W.drew (.slice (some ⟨g, x.1 * 512 + 508, none⟩) 4 4) (sumAt f x.1) := by
        have ho := own_below (own_mono HV.out (Nat.zero_le _)) (hId.below)
        refine ⟨range_of (((HBY.out.drop _).take _).drop _), by rw [hsl]; omega, .inr ⟨g, x.1 * 512 + 508, 4, by rw [hsl], by omega, fun j hj => ?_⟩⟩
        rw [hsl] at hj
        rw [ho.cellAt (x.1 * 512 + 508 + j) (by have := HLN.out; omega)]
        simp only [secV, List.getElem?_map, sumAt, List.getD_eq_getElem?_getD, List.getElem?_drop, List.getElem?_take, if_pos (show 508 + j < 512 by omega)]
        rw [show 512 * x.1 + (508 + j) = x.1 * 512 + 508 + j by omega, List.getElem?_eq_getElem (by rw [HFL.out]; omega)]
        rfl
      obtain ⟨W2, hrun, hbuf2, hg2⟩ := buf_append hId.buf hsrc hxl hsl (by omega) (by omega) 38
      have hfin := hId.add (by omega) hg2 hbuf2
      have cB := cell_of_row W.drew (w.heap.size + 1) 0 _ _ _ hId.bh
      have hbx2 := (hg2.block _ (lt_of_heap hId.bh) (fun e => by injection e with e; omega)).trans hId.bh
      have cB2 := cell_of_row W2 (w.heap.size + 1) 0 _ _ _ hbx2
      have fB2 := frozen_of_row W2 (w.heap.size + 1) 0 _ _ hbx2
      simp only [List.getElem?_toArray, List.getElem?_cons_zero] at cB cB2
      rw [hxl] at cB cB2
      have hlen2 : (([(q : Int)] ++ (pre.map fun x => sumAt f x.1).flatten) ++ sumAt f x.1).length = 1 + 4 * pre.length + 4 := by rw [List.length_append, hxl, hsl]
      have hfl : ([(q : Int)] ++ (pre.map fun x => sumAt f x.1).flatten) ++ sumAt f x.1 = [(q : Int)] ++ ((pre ++ [x]).map fun x => sumAt f x.1).flatten := by simp
      rw [hlen2, hfl] at hfin
      have HFIN : Hid (ownPostG W0.heap.size (Kc (w3.heap.size + 2) P) (fun pre W => HdI w w3.heap.size (some ⟨g, 0, none⟩) Ln cap ([(q : Int)] ++ (pre.map fun x => sumAt f x.1).flatten) W) (fun _ _ _ => False) (pre ++ [x]) W .normal { tmps := #[], defers := [] } (W2.setCell ⟨w.heap.size + 1, 0, none⟩ (.slice (some ⟨w.heap.size, 0, none⟩) (1 + 4 * pre.length + 4) 64))) := by
        have hkc : Kc (w3.heap.size + 2) P W.drew (W2.setCell ⟨w.heap.size + 1, 0, none⟩ (.slice (some ⟨w.heap.size, 0, none⟩) (1 + 4 * pre.length + 4) 64)) := (Kc.row hg2 (.inl (by rw [hP]; exact .inl rfl))).trans (Kc.row (grown_setCell W2 _ 0 _) (.inl (by rw [hP]; exact .inr rfl)))
        exact ⟨keepsFrom_of_drew ((keeps_row hg2 hId.buf.2).trans (KeepsOthers.setCell W2 _ _)), ⟨hkc.size, hkc.keep⟩, hfin⟩
      clear hfin hbx2 hbuf2 hg2 hsrc hI hId hfl hlen2 hxl hsl
      gi_wp2
      refine wpIn_region_any hmx ?_
      try (change wpAnyIn _ _ _ _ _ _ _ _ _ (World.drew _))
      refine wpAnyIn_ready (rs := [0, 1]) (by kernel_rfl) (by simp) ?_
      refine AllReadyIn.cons rfl (fun K hK => ?_) ?_
      · go_simp
        refine hK _ _ ?_
        clear hK K
        refine wpAnyIn_ready (rs := [1]) (by kernel_rfl) (by simp) ?_
        refine AllReadyIn.cons rfl (fun K hK => ?_) AllReadyIn.nil
        go_simp
        refine hK _ _ ?_
        clear hK K
        refine wpAnyIn_ready (rs := [2]) (by kernel_rfl) (by simp) ?_
        refine AllReadyIn.cons rfl (fun K hK => ?_) AllReadyIn.nil
        go_simp
        refine hK _ _ ?_
        clear hK K
        refine wpAnyIn_ready (rs := [3]) (by kernel_rfl) (by simp) ?_
        refine AllReadyIn.cons rfl (fun K hK => ?_) AllReadyIn.nil
        refine opIn_append (.tmp 16) (.tmp 18) 38 rfl rfl rfl hrun (hK _ _ ?_)
        clear hK K
        refine wpAnyIn_ready (rs := [4]) (by kernel_rfl) (by simp) ?_
        refine AllReadyIn.cons rfl (fun K hK => ?_) AllReadyIn.nil
        go_simp
        refine hK _ _ ?_
        clear hK K
        refine wpAnyIn_done (by kernel_rfl) ?_ _
        exact HFIN.out
      refine AllReadyIn.cons rfl (fun K hK => ?_) AllReadyIn.nil
      go_simp
      refine hK _ _ ?_
      clear hK K
      refine wpAnyIn_ready (rs := [0, 2]) (by kernel_rfl) (by simp) ?_
      refine AllReadyIn.cons rfl (fun K hK => ?_) ?_
      · go_simp
        refine hK _ _ ?_
        clear hK K
        refine wpAnyIn_ready (rs := [2]) (by kernel_rfl) (by simp) ?_
        refine AllReadyIn.cons rfl (fun K hK => ?_) AllReadyIn.nil
        go_simp
        refine hK _ _ ?_
        clear hK K
        refine wpAnyIn_ready (rs := [3]) (by kernel_rfl) (by simp) ?_
        refine AllReadyIn.cons rfl (fun K hK => ?_) AllReadyIn.nil
        refine opIn_append (.tmp 16) (.tmp 18) 38 rfl rfl rfl hrun (hK _ _ ?_)
        clear hK K
        refine wpAnyIn_ready (rs := [4]) (by kernel_rfl) (by simp) ?_
        refine AllReadyIn.cons rfl (fun K hK => ?_) AllReadyIn.nil
        go_simp
        refine hK _ _ ?_
        clear hK K
        refine wpAnyIn_done (by kernel_rfl) ?_ _
        exact HFIN.out
      refine AllReadyIn.cons rfl (fun K hK => ?_) AllReadyIn.nil
      go_simp
      refine hK _ _ ?_
      clear hK K
      refine wpAnyIn_ready (rs := [0]) (by kernel_rfl) (by simp) ?_
      refine AllReadyIn.cons rfl (fun K hK => ?_) AllReadyIn.nil
      go_simp
      refine hK _ _ ?_
      clear hK K
      refine wpAnyIn_ready (rs := [3]) (by kernel_rfl) (by simp) ?_
      refine AllReadyIn.cons rfl (fun K hK => ?_) AllReadyIn.nil
      refine opIn_append (.tmp 16) (.tmp 18) 38 rfl rfl rfl hrun (hK _ _ ?_)
      clear hK K
      refine wpAnyIn_ready (rs := [4]) (by kernel_rfl) (by simp) ?_
      refine AllReadyIn.cons rfl (fun K hK => ?_) AllReadyIn.nil
      go_simp
      refine hK _ _ ?_
      clear hK K
      refine wpAnyIn_done (by kernel_rfl) ?_ _
      exact HFIN.out
    case done =>
      rintro D ys W hD hS hI hK
      have hsum : (ys.map fun x => sumAt f x.1).flatten = sumsOf q f := by
        have : ys.map (fun x => sumAt f x.1) = (ys.map (·.1)).map (sumAt f) := by rw [List.map_map]; rfl
        rw [this, hS, sums_all f q (by have := HFL.out; omega)]
      rw [hsum] at hI
      have hL : ([(q : Int)] ++ sumsOf q f).length = 1 + 4 * q := by rw [List.length_append, sumsOf_len q f (by have := HFL.out; omega)]; rfl
      have cB := cell_of_row W (w.heap.size + 1) 0 _ _ _ hI.bh
      simp only [List.getElem?_toArray, List.getElem?_cons_zero] at cB
      rw [hL] at cB
      have HI := hid hI
      have HL := hid hL
      clear hI hL hsum hS
      gi_wp2
      have hrow : ∀ r, some D = some r → ∃ o : Obj, W.heap[r]? = some o ∧ o.isCells = false := fun r e => by cases e; exact ⟨_, hK, rfl⟩
      refine ⟨by simp, .inl ⟨_, _, rfl, run_takeDeferred hK, ?_⟩⟩
      have hend := HI.out.turn (grownBy_putObj' _ D (.deferred none)) (fun r e => ⟨by cases e; omega, hrow r e⟩)
      refine ⟨.slice (some ⟨w.heap.size, 0, none⟩) 64 64, ?_, _, rfl, ?_, hend.below⟩
      · simp [results, Tryz.f90, go_sem]
      · have hh : headOf f = ([(q : Int)] ++ sumsOf q f) ++ zeros (64 - ([(q : Int)] ++ sumsOf q f).length) := by
          unfold headOf
          rw [show f.length / 512 = q by have := HFL.out; omega, HUQ.out]
        have hll := sumsOf_len q f (by have := HFL.out; omega)
        rw [hh]
        refine ⟨by simp [secV, zeros]; omega, .inr ⟨w.heap.size, 64, _, by simp, Nat.le_refl _, hend.buf.2, by simp, by unfold maxLen; omega, ?_, ?_⟩⟩
        · simp [secV, zeros]; omega
        · rw [List.take_of_length_le (by simp [secV, zeros]; omega)]
    case stop => exact fun D c pre W _ _ hF _ => hF.elim
  clear hK0
  refine wpIn_region_any hmx ?_
  try (change wpAnyIn _ _ _ _ _ _ _ _ _ (World.drew _))
  refine wpAnyIn_ready (rs := [0, 1]) (by kernel_rfl) (by simp) ?_
  refine AllReadyIn.cons rfl (fun K hK => ?_) ?_
  · go_simp
    refine hK _ _ ?_
    clear hK K
    refine wpAnyIn_ready (rs := [1]) (by kernel_rfl) (by simp) ?_
    refine AllReadyIn.cons rfl (fun K hK => ?_) AllReadyIn.nil
    go_simp
    refine hK _ _ ?_
    clear hK K
    refine wpAnyIn_ready (rs := [2]) (by kernel_rfl) (by simp) ?_
    refine AllReadyIn.cons rfl (fun K hK => ?_) AllReadyIn.nil
    go_simp
    refine hK _ _ ?_
    clear hK K
    refine wpAnyIn_ready (rs := [3]) (by kernel_rfl) (by simp) ?_
    refine AllReadyIn.cons rfl (fun K hK => ?_) AllReadyIn.nil
    go_simp
    refine hK _ _ ?_
    clear hK K
    refine wpAnyIn_ready (rs := [4]) (by kernel_rfl) (by simp) ?_
    refine AllReadyIn.cons rfl (fun K hK => ?_) AllReadyIn.nil
    go_simp
    refine hK _ _ ?_
    clear hK K
    refine wpAnyIn_ready (rs := [5]) (by kernel_rfl) (by simp) ?_
    refine AllReadyIn.cons rfl (fun K hK => ?_) AllReadyIn.nil
    go_simp
    gi_wp2_with (gi_at_call 64; refine (callsIn_wide.2 HU.out).mono ?_; rintro e w1 ⟨v1, rfl, hown1, hb1⟩; obtain ⟨cB1, a1, c1, w2, rfl, hrun, hbuf2, hbx2, hB2, cB2, fB2⟩ := head_uv hq HBF.out HBX.out HBB.out ((Below.refl _ wB).drew.trans hb1) hown1; have HB2 := hid hB2; have HBF2 := hid hbuf2; have HBX2 := hid hbx2; clear hbuf2 hbx2 hown1 hb1 hB2)
    refine wpAnyIn_ready (rs := [6]) (by kernel_rfl) (by simp) ?_
    refine AllReadyIn.cons rfl (fun K hK => ?_) AllReadyIn.nil
    refine opIn_append (.tmp 6) (.tmp 11) 38 rfl rfl rfl hrun (hK _ _ ?_)
    clear hK K
    refine wpAnyIn_ready (rs := [7]) (by kernel_rfl) (by simp) ?_
    refine AllReadyIn.cons rfl (fun K hK => ?_) AllReadyIn.nil
    go_simp
    refine hK _ _ ?_
    clear hK K
    refine wpAnyIn_done (by kernel_rfl) ?_ _
    exact hrest.out _ _ _ HBF2.out HBX2.out HB2.out
  refine AllReadyIn.cons rfl (fun K hK => ?_) AllReadyIn.nil
  go_simp
  refine hK _ _ ?_
  clear hK K
  refine wpAnyIn_ready (rs := [0, 2]) (by kernel_rfl) (by simp) ?_
  refine AllReadyIn.cons rfl (fun K hK => ?_) ?_
  · go_simp
    refine hK _ _ ?_
    clear hK K
    refine wpAnyIn_ready (rs := [2]) (by kernel_rfl) (by simp) ?_
    refine AllReadyIn.cons rfl (fun K hK => ?_) AllReadyIn.nil
    go_simp
    refine hK _ _ ?_
    clear hK K
    refine wpAnyIn_ready (rs := [3]) (by kernel_rfl) (by simp) ?_
    refine AllReadyIn.cons rfl (fun K hK => ?_) AllReadyIn.nil
    go_simp
    refine hK _ _ ?_
    clear hK K
    refine wpAnyIn_ready (rs := [4]) (by kernel_rfl) (by simp) ?_
    refine AllReadyIn.cons rfl (fun K hK => ?_) AllReadyIn.nil
    go_simp
    refine hK _ _ ?_
    clear hK K
    refine wpAnyIn_ready (rs := [5]) (by kernel_rfl) (by simp) ?_
    refine AllReadyIn.cons rfl (fun K hK => ?_) AllReadyIn.nil
    go_simp
    gi_wp2_with (gi_at_call 64; refine (callsIn_wide.2 HU.out).mono ?_; rintro e w1 ⟨v1, rfl, hown1, hb1⟩; obtain ⟨cB1, a1, c1, w2, rfl, hrun, hbuf2, hbx2, hB2, cB2, fB2⟩ := head_uv hq HBF.out HBX.out HBB.out ((Below.refl _ wB).drew.trans hb1) hown1; have HB2 := hid hB2; have HBF2 := hid hbuf2; have HBX2 := hid hbx2; clear hbuf2 hbx2 hown1 hb1 hB2)
    refine wpAnyIn_ready (rs := [6]) (by kernel_rfl) (by simp) ?_
    refine AllReadyIn.cons rfl (fun K hK => ?_) AllReadyIn.nil
    refine opIn_append (.tmp 6) (.tmp 11) 38 rfl rfl rfl hrun (hK _ _ ?_)
    clear hK K
    refine wpAnyIn_ready (rs := [7]) (by kernel_rfl) (by simp) ?_
    refine AllReadyIn.cons rfl (fun K hK => ?_) AllReadyIn.nil
    go_simp
    refine hK _ _ ?_
    clear hK K
    refine wpAnyIn_done (by kernel_rfl) ?_ _
    exact hrest.out _ _ _ HBF2.out HBX2.out HB2.out
  refine AllReadyIn.cons rfl (fun K hK => ?_) AllReadyIn.nil
  go_simp
  refine hK _ _ ?_
  clear hK K
  refine wpAnyIn_ready (rs := [0, 3]) (by kernel_rfl) (by simp) ?_
  refine AllReadyIn.cons rfl (fun K hK => ?_) ?_
  · go_simp
    refine hK _ _ ?_
    clear hK K
    refine wpAnyIn_ready (rs := [3]) (by kernel_rfl) (by simp) ?_
    refine AllReadyIn.cons rfl (fun K hK => ?_) AllReadyIn.nil
    go_simp
    refine hK _ _ ?_
    clear hK K
    refine wpAnyIn_ready (rs := [4]) (by kernel_rfl) (by simp) ?_
    refine AllReadyIn.cons rfl (fun K hK => ?_) AllReadyIn.nil
    go_simp
    refine hK _ _ ?_
    clear hK K
    refine wpAnyIn_ready (rs := [5]) (by kernel_rfl) (by simp) ?_
    refine AllReadyIn.cons rfl (fun K hK => ?_) AllReadyIn.nil
    go_simp
    gi_wp2_with (gi_at_call 64; refine (callsIn_wide.2 HU.out).mono ?_; rintro e w1 ⟨v1, rfl, hown1, hb1⟩; obtain ⟨cB1, a1, c1, w2, rfl, hrun, hbuf2, hbx2, hB2, cB2, fB2⟩ := head_uv hq HBF.out HBX.out HBB.out ((Below.refl _ wB).drew.trans hb1) hown1; have HB2 := hid hB2; have HBF2 := hid hbuf2; have HBX2 := hid hbx2; clear hbuf2 hbx2 hown1 hb1 hB2)
    refine wpAnyIn_ready (rs := [6]) (by kernel_rfl) (by simp) ?_
    refine AllReadyIn.cons rfl (fun K hK => ?_) AllReadyIn.nil
    refine opIn_append (.tmp 6) (.tmp 11) 38 rfl rfl rfl hrun (hK _ _ ?_)
    clear hK K
    refine wpAnyIn_ready (rs := [7]) (by kernel_rfl) (by simp) ?_
    refine AllReadyIn.cons rfl (fun K hK => ?_) AllReadyIn.nil
    go_simp
    refine hK _ _ ?_
    clear hK K
    refine wpAnyIn_done (by kernel_rfl) ?_ _
    exact hrest.out _ _ _ HBF2.out HBX2.out HB2.out
  refine AllReadyIn.cons rfl (fun K hK => ?_) AllReadyIn.nil
  go_simp
  refine hK _ _ ?_
  clear hK K
  refine wpAnyIn_ready (rs := [0, 4]) (by kernel_rfl) (by simp) ?_
  refine AllReadyIn.cons rfl (fun K hK => ?_) ?_
  · go_simp
    refine hK _ _ ?_
    clear hK K
    refine wpAnyIn_ready (rs := [4]) (by kernel_rfl) (by simp) ?_
    refine AllReadyIn.cons rfl (fun K hK => ?_) AllReadyIn.nil
    go_simp
    refine hK _ _ ?_
    clear hK K
    refine wpAnyIn_ready (rs := [5]) (by kernel_rfl) (by simp) ?_
    refine AllReadyIn.cons rfl (fun K hK => ?_) AllReadyIn.nil
    go_simp
    gi_wp2_with (gi_at_call 64; refine (callsIn_wide.2 HU.out).mono ?_; rintro e w1 ⟨v1, rfl, hown1, hb1⟩; obtain ⟨cB1, a1, c1, w2, rfl, hrun, hbuf2, hbx2, hB2, cB2, fB2⟩ := head_uv hq HBF.out HBX.out HBB.out ((Below.refl _ wB).drew.trans hb1) hown1; have HB2 := hid hB2; have HBF2 := hid hbuf2; have HBX2 := hid hbx2; clear hbuf2 hbx2 hown1 hb1 hB2)
    refine wpAnyIn_ready (rs := [6]) (by kernel_rfl) (by simp) ?_
    refine AllReadyIn.cons rfl (fun K hK => ?_) AllReadyIn.nil
    refine opIn_append (.tmp 6) (.tmp 11) 38 rfl rfl rfl hrun (hK _ _ ?_)
    clear hK K
    refine wpAnyIn_ready (rs := [7]) (by kernel_rfl) (by simp) ?_
    refine AllReadyIn.cons rfl (fun K hK => ?_) AllReadyIn.nil
    go_simp
    refine hK _ _ ?_
    clear hK K
    refine wpAnyIn_done (by kernel_rfl) ?_ _
    exact hrest.out _ _ _ HBF2.out HBX2.out HB2.out
  refine AllReadyIn.cons rfl (fun K hK => ?_) AllReadyIn.nil
  go_simp
  refine hK _ _ ?_
  clear hK K
  refine wpAnyIn_ready (rs := [0, 5]) (by kernel_rfl) (by simp) ?_
  refine AllReadyIn.cons rfl (fun K hK => ?_) ?_
  · go_simp
    refine hK _ _ ?_
    clear hK K
    refine wpAnyIn_ready (rs := [5]) (by kernel_rfl) (by simp) ?_
    refine AllReadyIn.cons rfl (fun K hK => ?_) AllReadyIn.nil
    go_simp
    gi_wp2_with (gi_at_call 64; refine (callsIn_wide.2 HU.out).mono ?_; rintro e w1 ⟨v1, rfl, hown1, hb1⟩; obtain ⟨cB1, a1, c1, w2, rfl, hrun, hbuf2, hbx2, hB2, cB2, fB2⟩ := head_uv hq HBF.out HBX.out HBB.out ((Below.refl _ wB).drew.trans hb1) hown1; have HB2 := hid hB2; have HBF2 := hid hbuf2; have HBX2 := hid hbx2; clear hbuf2 hbx2 hown1 hb1 hB2)
    refine wpAnyIn_ready (rs := [6]) (by kernel_rfl) (by simp) ?_
    refine AllReadyIn.cons rfl (fun K hK => ?_) AllReadyIn.nil
    refine opIn_append (.tmp 6) (.tmp 11) 38 rfl rfl rfl hrun (hK _ _ ?_)
    clear hK K
    refine wpAnyIn_ready (rs := [7]) (by kernel_rfl) (by simp) ?_
    refine AllReadyIn.cons rfl (fun K hK => ?_) AllReadyIn.nil
    go_simp
    refine hK _ _ ?_
    clear hK K
    refine wpAnyIn_done (by kernel_rfl) ?_ _
    exact hrest.out _ _ _ HBF2.out HBX2.out HB2.out
  refine AllReadyIn.cons rfl (fun K hK => ?_) AllReadyIn.nil
  go_simp
  gi_wp2_with (gi_at_call 64; refine (callsIn_wide.2 HU.out).mono ?_; rintro e w1 ⟨v1, rfl, hown1, hb1⟩; obtain ⟨cB1, a1, c1, w2, rfl, hrun, hbuf2, hbx2, hB2, cB2, fB2⟩ := head_uv hq HBF.out HBX.out HBB.out ((Below.refl _ wB).drew.trans hb1) hown1; have HB2 := hid hB2; have HBF2 := hid hbuf2; have HBX2 := hid hbx2; clear hbuf2 hbx2 hown1 hb1 hB2)
  refine wpAnyIn_ready (rs := [0]) (by kernel_rfl) (by simp) ?_
  refine AllReadyIn.cons rfl (fun K hK => ?_) AllReadyIn.nil
  go_simp
  refine hK _ _ ?_
  clear hK K
  refine wpAnyIn_ready (rs := [6]) (by kernel_rfl) (by simp) ?_
  refine AllReadyIn.cons rfl (fun K hK => ?_) AllReadyIn.nil
  refine opIn_append (.tmp 6) (.tmp 11) 38 rfl rfl rfl hrun (hK _ _ ?_)
  clear hK K
  refine wpAnyIn_ready (rs := [7]) (by kernel_rfl) (by simp) ?_
  refine AllReadyIn.cons rfl (fun K hK => ?_) AllReadyIn.nil
  go_simp
  refine hK _ _ ?_
  clear hK K
  refine wpAnyIn_done (by kernel_rfl) ?_ _
  exact hrest.out _ _ _ HBF2.out HBX2.out HB2.out
theorem head_any {w : World} {q : Nat} {v : Value} {f : List Int} (hv : w.ownsRow 0 5 1 v (512 * q) (secV f)) (hby : By f) (hq : q ≤ 8) :
    Calls Tryz.prog 90 #[v] w fun e w' => ∃ v', e = .returned v' ∧ w'.ownsRow w.heap.size 5 1 v' 64 (secV (headOf f)) ∧ Below w.heap.size w w' := callsIn_wide.1 (head_in hv hby hq)
end Go.Proofs.YtkbnjniglngjgaaGreatDoor

namespace Go.Proofs.YtkbnjniglngjgaaGreatDoor
open Go.RowKit

/-- The slice v holds the pages ps, each with bytes of its own. -/
def Pgs (w : World) (v : Value) (ps : List Pg) : Prop :=
  ∃ ao cap, v = .slice ao ps.length cap ∧ ps.length ≤ cap ∧ (1 ≤ ps.length → ∃ b off c f, ao = some ⟨b, off, none⟩ ∧ w.heap[b]? = some (.cells c 40 f) ∧
    ∀ (k : Nat) (p : Pg), ps[k]? = some p → ∃ s, w.cell? ⟨b, off + k * 3, none⟩ = some (.int .i64 p.no) ∧ w.cell? ⟨b, off + k * 3 + 1, none⟩ = some (.int .u64 p.lsn) ∧ w.cell? ⟨b, off + k * 3 + 2, none⟩ = some s ∧ w.ownsRow 0 5 1 s p.data.length (secV p.data))
theorem nd_page : ¬ diskT 40 := by unfold diskT; decide
theorem Pgs.same {w w' : World} {v : Value} {ps : List Pg} (h : Pgs w v ps) (hk : ∀ (k : Nat) c t f, w.heap[k]? = some (Obj.cells c t f) → t = 40 ∨ t = 5 → w'.heap[k]? = w.heap[k]?) : Pgs w' v ps := by
  obtain ⟨ao, cap, rfl, hc, h⟩ := h
  refine ⟨ao, cap, rfl, hc, fun h1 => ?_⟩
  obtain ⟨b, off, c, f, hb, hh, hp⟩ := h h1
  have hb' := hk b _ _ _ hh (.inl rfl)
  refine ⟨b, off, c, f, hb, hb'.trans hh, fun k p hkp => ?_⟩
  obtain ⟨s, c0, c1, c2, hs⟩ := hp k p hkp
  have far : ∀ o, w'.cell? ⟨b, o, none⟩ = w.cell? ⟨b, o, none⟩ := fun o => by simp only [World.cell?, hb']
  refine ⟨s, (far _).trans c0, (far _).trans c1, (far _).trans c2, own_same hs fun k' hk' => ?_⟩
  obtain ⟨c', hc'⟩ := own_heap hs hk'
  exact hk k' _ _ _ hc' (.inr rfl)
theorem Pgs.below {w w' : World} {v : Value} {ps : List Pg} (h : Pgs w v ps) (hb : Below w.heap.size w w') : Pgs w' v ps := h.same fun k _ _ _ hk _ => hb.block k (lt_of_heap hk)
theorem Pgs.kd {w w' : World} {base : Nat} {v : Value} {ps : List Pg} (h : Pgs w v ps) (hk : Kd base w w') : Pgs w' v ps := h.same fun k c t f h1 ht => by
  rcases ht with rfl | rfl
  · exact hk.keep k _ _ _ h1 (by decide) (by decide) (by decide)
  · exact hk.keep k _ _ _ h1 (by decide) (by decide) (by decide)
theorem pgs_nil (w : World) : Pgs w (.slice none 0 0) [] := ⟨none, 0, rfl, Nat.le_refl _, fun h => by simp at h⟩

theorem same_any {w : World} {a n : Int} {l : Int} {s : Value} {bx : Nat} (hb : w.cell? ⟨bx, 0, none⟩ = some (.int .i64 n)) (hlt : bx < w.heap.size) :
    Calls Tryz.prog 96 #[.agg #[.int .i64 a, .int .u64 l, s], .pointer (some ⟨bx, 0, none⟩)] w fun e w' => e = .returned (.bool (a == n)) ∧ Below w.heap.size w w' := by
  have hb2 : (w.alloc (.cells #[.int .i64 a, .int .u64 l, s] 40)).cell? ⟨bx, 0, none⟩ = some (.int .i64 n) := by rw [World.cell?_alloc_lt _ _ _ hlt]; exact hb
  clear hb
  go_enter Tryz.func96, Tryz.ntmps96
  go_wp2
  go_ret
  exact ⟨rfl, (Below.refl _ _).alloc (Nat.le_refl _) _⟩
theorem pindex_any {w : World} {v : Value} {ps : List Pg} {bx : Nat} {n : Nat} (h : Pgs w v ps) (hl : ps.length ≤ 8) (hb : w.cell? ⟨bx, 0, none⟩ = some (.int .i64 n)) (hne : ∀ p ∈ ps, p.no ≠ n) :
    Calls Tryz.prog 109 #[v, .func (.func 96) #[] #[.pointer (some ⟨bx, 0, none⟩)]] w fun e w' => e = .returned (.int .i64 (-1)) ∧ Below w.heap.size w w' := by
  obtain ⟨ao, cap, rfl, hc, hp⟩ := h
  have hblt := lt_of_cell hb
  obtain ⟨L, hL⟩ : ∃ L, L = ps.length := ⟨_, rfl⟩
  rw [← hL] at hc hl hp ⊢
  have HP := hid hp
  have HL := hid hL
  have HB := hid hb
  have HNE := hid hne
  clear hp hL hb hne
  go_enter Tryz.func109, Tryz.ntmps109
  go_wp2
  go_loopw [5, 8] (fun _ i wr => ∃ k : Nat, k ≤ L ∧ i = .int .i64 k ∧ Below w.heap.size w wr) (fun _ i _ => L - (intOf i).toNat)
  case atStart => exact ⟨0, by omega, rfl, Below.refl _ _⟩
  case round =>
    obtain ⟨k, hk, rfl, hbr⟩ := hrel
    by_cases hlt : k < L
    · obtain ⟨b, off, c, f, rfl, hh, hpp⟩ := HP.out (by omega)
      have hkl : k < ps.length := by have := HL.out; omega
      obtain ⟨s, c0, c1, c2, hs⟩ := hpp k ps[k] (by simp [hkl])
      have hbb := lt_of_heap hh
      have d0 := (hbr.cell (p := ⟨b, off + k * 3, none⟩) hbb).trans c0
      have d1 := (hbr.cell (p := ⟨b, off + k * 3 + 1, none⟩) hbb).trans c1
      have d2 := (hbr.cell (p := ⟨b, off + k * 3 + 2, none⟩) hbb).trans c2
      obtain ⟨aS, cS, rfl, _⟩ := own_any hs
      have hno := HNE.out ps[k] (List.getElem_mem hkl)
      have hnb : (((ps[k]).no : Int) == (n : Int)) = false := by simp; omega
      have HS := hid (fun (l : Int) (s : Value) => same_any (w := wr) (a := ((ps[k]).no : Int)) (l := l) (s := s) ((hbr.cell (p := ⟨bx, 0, none⟩) hblt).trans HB.out) (Nat.lt_of_lt_of_le hblt hbr.size))
      rw [hnb] at HS
      have hkI : (k : Int) < (L : Int) := by omega
      have HBR := hid hbr
      generalize ps[k] = pk at *
      clear c0 c1 c2 hs hpp hh hno hnb hbr
      go_wp2_with (go_at_call 96; refine (HS.out _ _).mono ?_; rintro e w2 ⟨rfl, hb2⟩; have HB2 := hid (HBR.out.trans (hb2.mono HBR.out.size)); clear hb2)
      go_roundw
      case rel => exact ⟨k + 1, by omega, by go_num, HB2.out⟩
      case measure => simp [intOf]; omega
    · have HBR := hid hbr
      clear hbr
      go_wp2
      go_ret
      exact ⟨rfl, HBR.out⟩
theorem pcontains_any {w : World} {v : Value} {ps : List Pg} {bx : Nat} {n : Nat} (h : Pgs w v ps) (hl : ps.length ≤ 8) (hb : w.cell? ⟨bx, 0, none⟩ = some (.int .i64 n)) (hne : ∀ p ∈ ps, p.no ≠ n) :
    Calls Tryz.prog 95 #[v, .func (.func 96) #[] #[.pointer (some ⟨bx, 0, none⟩)]] w fun e w' => e = .returned (.bool false) ∧ Below w.heap.size w w' := by
  have HI := hid (pindex_any h hl hb hne)
  obtain ⟨ao, cap, rfl, _⟩ := h
  clear hb hne
  go_enter Tryz.func95, Tryz.ntmps95
  go_wp2_with (go_at_call 109; refine HI.out.mono ?_; rintro e w2 ⟨rfl, hb2⟩; have HB2 := hid hb2; clear hb2)
  go_ret
  exact ⟨rfl, HB2.out⟩
theorem Pgs.head {w : World} {ao : Option Addr} {len cap i : Nat} {ps : List Pg} (h : Pgs w (.slice ao len cap) ps) (hi : i ≤ ps.length) : Pgs w (.slice ao i cap) (ps.take i) := by
  obtain ⟨ao', cap', hv, hc, hp⟩ := h
  injection hv with e1 e2 e3
  subst e1 e3
  have hl : (ps.take i).length = i := by simp; omega
  refine ⟨ao, cap, by rw [hl], by omega, fun h1 => ?_⟩
  obtain ⟨b, off, c, f, h1, h2, h3⟩ := hp (by omega)
  exact ⟨b, off, c, f, h1, h2, fun k p hk => h3 k p (by
    rw [List.getElem?_take] at hk
    split at hk
    · exact hk
    · cases hk)⟩
theorem takes_no {n : Nat} {ps : List Pg} (h : takes n ps) {k : Nat} (hk : k < ps.length) : ∀ p ∈ ps.take k, p.no ≠ (ps[k]).no := by
  intro p hp e
  obtain ⟨j, hj, rfl⟩ := List.mem_iff_getElem.1 hp
  have hjl : j < k := by simp at hj; omega
  have hnd := h.2.2
  have := List.pairwise_iff_getElem.1 hnd j k (by simp; omega) (by simpa using hk) hjl
  simp at this e
  exact this e

set_option maxRecDepth 8000 in
theorem accept_any {w : World} {base F B p0 np : Nat} {half : Bool} (hf : FileIs w base F B p0 np half) {v : Value} {ps : List Pg} (h : Pgs w v ps) (ht : takes np ps) :
    Calls Tryz.prog 82 #[.pointer (some ⟨F, 0, none⟩), v] w fun e w' => e = .returned (.int .i64 0) ∧ Below w.heap.size w w' := by
  have HF := hid hf
  have HT := hid ht
  have HP := hid h
  have hl8 := ht.1
  obtain ⟨ao, cap, rfl, hc, hp⟩ := h
  obtain ⟨L, hL⟩ : ∃ L, L = ps.length := ⟨_, rfl⟩
  rw [← hL] at hc hp hl8 HP ⊢
  have HPP := hid hp
  have HL := hid hL
  have h8 : ¬ ((8 : Int) < (L : Int)) := by omega
  clear hp hL hf ht
  go_enter Tryz.func82, Tryz.ntmps82
  go_wp2
  go_loopw [5, 6, 7, 13] (fun _ _ _ i wr => ∃ k : Nat, k ≤ L ∧ i = .int .i64 k ∧ Below w.heap.size w wr) (fun _ _ _ i _ => L - (intOf i).toNat)
  case atStart => exact ⟨0, by omega, rfl, Below.refl _ _⟩
  case round =>
    obtain ⟨k, hk, rfl, hbr⟩ := hrel
    by_cases hlt : k < L
    · obtain ⟨b, off, c, f, rfl, hh, hpp⟩ := HPP.out (by omega)
      have hkl : k < ps.length := by have := HL.out; omega
      obtain ⟨s, c0, c1, c2, hs⟩ := hpp k ps[k] (by simp [hkl])
      have hbb := lt_of_heap hh
      have d0 := (hbr.cell (p := ⟨b, off + k * 3, none⟩) hbb).trans c0
      have d1 := (hbr.cell (p := ⟨b, off + k * 3 + 1, none⟩) hbb).trans c1
      have d2 := (hbr.cell (p := ⟨b, off + k * 3 + 2, none⟩) hbb).trans c2
      have hpok := HT.out.2.1 ps[k] (List.getElem_mem hkl)
      rw [hpok.len] at hs
      obtain ⟨aS, cS, rfl, _⟩ := own_any hs
      have hno := takes_no HT.out hkl
      have hin := hpok.no
      have hkI : (k : Int) < (L : Int) := by omega
      have hwb : Below wr.heap.size wr (wr.alloc (.cells #[.int .i64 (ps[k]).no, .int .u64 (ps[k]).lsn, .slice aS 480 cS] 40)) := (Below.refl _ _).alloc (Nat.le_refl _) _
      have hcb : (wr.alloc (.cells #[.int .i64 (ps[k]).no, .int .u64 (ps[k]).lsn, .slice aS 480 cS] 40)).cell? ⟨wr.heap.size, 0, none⟩ = some (.int .i64 (ps[k]).no) := by rw [cell_of_row _ _ _ _ _ _ (heap_new wr _)]; rfl
      have HC := hid (pcontains_any (((HP.out.below hbr).below hwb).head (i := k) (by omega)) (by simp; omega) hcb hno)
      have HHAS := hid (fun wx (hb : Below w.heap.size w wx) => phas_any (HF.out.below hb) ((ps[k]).no : Int))
      have hhd : decide (0 ≤ ((ps[k]).no : Int) ∧ ((ps[k]).no : Int) < (np : Int)) = true := by simp; omega
      rw [hhd] at HHAS
      have HBR := hid (hbr.trans (hwb.mono hbr.size))
      have HN0 := hid (heap_new wr (.cells #[.int .i64 (ps[k]).no, .int .u64 (ps[k]).lsn, .slice aS 480 cS] 40))
      have HSZ := hid hbr.size
      generalize ps[k] = pk at *
      obtain ⟨wB, hwB⟩ : ∃ wB, wr.alloc (.cells #[.int .i64 pk.no, .int .u64 pk.lsn, .slice aS 480 cS] 40) = wB := ⟨_, rfl⟩
      rw [hwB] at HC HBR HN0
      clear c0 c1 c2 hs hpp hh hno hbr hwb hcb hin hhd hpok
      go_wp2_with (first
        | (go_at_call 95; refine HC.out.mono ?_; rintro e w2 ⟨rfl, hb2⟩; have HB2 := hid (HBR.out.trans (hb2.mono HBR.out.size)); have hn2 := (hb2.block _ (lt_of_heap HN0.out)).trans HN0.out; have e0 := cell_of_row w2 wr.heap.size 0 _ _ _ hn2; have e2 := cell_of_row w2 wr.heap.size 2 _ _ _ hn2; simp only [List.getElem?_toArray, List.getElem?_cons_succ, List.getElem?_cons_zero] at e0 e2; have HHA := hid (HHAS.out w2 HB2.out); clear hb2 HC hn2)
        | (go_at_call 32; refine HHA.out.mono ?_; rintro e w3 ⟨rfl, hw⟩; have hw' := hw.symm; clear hw; subst hw'; clear HHA))
      go_roundw
      case rel => exact ⟨k + 1, by omega, by go_num, HB2.out⟩
      case measure => simp [intOf]; omega
    · have HBR := hid hbr
      clear hbr
      go_wp2
      go_ret
      exact ⟨rfl, HBR.out⟩
end Go.Proofs.YtkbnjniglngjgaaGreatDoor

namespace Go.Proofs.YtkbnjniglngjgaaGreatDoor
open Go.RowKit Go.Shelf

attribute [local go_sem] Oper.semAt_some

def pgCells (p : Pg) (s : Value) : List Value := [.int .i64 p.no, .int .u64 p.lsn, s]
/-- A row of the call's own that holds pages. -/
def PgRow (W : World) (base : Nat) (v : Value) (ps : List Pg) : Prop :=
  ∃ ss : List Value, ss.length = ps.length ∧ W.ownsRow base 40 3 v ps.length ((ps.zip ss).map fun x => pgCells x.1 x.2).flatten ∧ ∀ (k : Nat) (p : Pg) (s : Value), ps[k]? = some p → ss[k]? = some s → W.ownsRow 0 5 1 s p.data.length (secV p.data)
theorem PgRow.same {w w' : World} {base : Nat} {v : Value} {ps : List Pg} (h : PgRow w base v ps) (hk : ∀ (k : Nat) c t f, w.heap[k]? = some (Obj.cells c t f) → t = 40 ∨ t = 5 → w'.heap[k]? = w.heap[k]?) : PgRow w' base v ps := by
  obtain ⟨ss, h1, h2, h3⟩ := h
  refine ⟨ss, h1, own_same h2 fun k hk' => ?_, fun k p s hp hs => own_same (h3 k p s hp hs) fun k' hk' => ?_⟩
  · obtain ⟨c, hc⟩ := own_heap h2 hk'
    exact hk k _ _ _ hc (.inl rfl)
  · obtain ⟨c, hc⟩ := own_heap (h3 k p s hp hs) hk'
    exact hk k' _ _ _ hc (.inr rfl)
theorem PgRow.below {w w' : World} {base : Nat} {v : Value} {ps : List Pg} (h : PgRow w base v ps) (hb : Below w.heap.size w w') : PgRow w' base v ps := h.same fun k _ _ _ hk _ => hb.block k (lt_of_heap hk)
theorem PgRow.kd {w w' : World} {base b2 : Nat} {v : Value} {ps : List Pg} (h : PgRow w base v ps) (hk : Kd b2 w w') : PgRow w' base v ps := h.same fun k c t f h1 ht => by
  rcases ht with rfl | rfl
  · exact hk.keep k _ _ _ h1 (by decide) (by decide) (by decide)
  · exact hk.keep k _ _ _ h1 (by decide) (by decide) (by decide)
theorem PgRow.nil (w : World) (base : Nat) : PgRow w base (.slice none 0 0) [] := ⟨[], rfl, World.ownsRow_nil _ _ _ _, fun k p s hp _ => by simp at hp⟩
theorem PgRow.form {w : World} {base : Nat} {v : Value} {ps : List Pg} (h : PgRow w base v ps) : ∃ ao cap, v = .slice ao ps.length cap ∧ ps.length ≤ cap ∧ (1 ≤ ps.length → ∃ g, ao = some ⟨g, 0, none⟩) := by
  obtain ⟨ss, _, h2, _⟩ := h
  rcases h2.2 with ⟨rfl, h0⟩ | ⟨g, cap, cur, rfl, _, _, hc, _⟩
  · exact ⟨none, 0, by rw [h0], by omega, fun h => by omega⟩
  · exact ⟨_, cap, rfl, hc, fun _ => ⟨g, rfl⟩⟩
theorem PgRow.pgs {w : World} {base : Nat} {v : Value} {ps : List Pg} (h : PgRow w base v ps) : Pgs w v ps := by
  obtain ⟨ao, cap, rfl, hc, hg⟩ := h.form
  obtain ⟨ss, h1, h2, h3⟩ := h
  refine ⟨ao, cap, rfl, hc, fun hl => ?_⟩
  obtain ⟨g, rfl⟩ := hg hl
  obtain ⟨c, hh⟩ := own_heap h2 (k := g) rfl
  refine ⟨g, 0, c, (0, 0), rfl, hh, fun k p hp => ?_⟩
  have hk := (List.getElem?_eq_some_iff.1 hp).1
  have hks : k < ss.length := by omega
  have hz : ((ps.zip ss).map fun x => pgCells x.1 x.2).getD k [] = pgCells p ss[k] := by
    have e : ps[k] = p := by
      have := (List.getElem?_eq_some_iff.1 hp).2
      exact this
    have hzk : (ps.zip ss)[k]? = some (p, ss[k]) := by
      rw [List.getElem?_eq_getElem (by simp; omega)]
      simp [e]
    simp [List.getD, hzk]
  have cellAt : ∀ j, j < 3 → w.cell? ⟨g, 0 + k * 3 + j, none⟩ = (pgCells p ss[k])[j]? := fun j hj => by
    rw [Nat.zero_add, h2.cellAt (k * 3 + j) (by omega), flatten_at _ k j (by simp; omega) (by intro b hb; obtain ⟨x, _, rfl⟩ := List.mem_map.1 hb; rfl) hj, hz]
  exact ⟨ss[k], cellAt 0 (by omega), cellAt 1 (by omega), cellAt 2 (by omega), h3 k p _ hp (by simp [hks])⟩

theorem infoPg : (Tryz.prog.info? 40).map (fun i => (i.zero, i.size, i.bytes)) = some (some (.agg #[.int .i64 0, .int .u64 0, .slice none 0 0]), 3, 40) := by kernel_rfl
theorem pgCells_one (p : Pg) (s : Value) (hs : s.oneCell' = true) : ∀ u ∈ pgCells p s, u.oneCell' = true := by
  intro u hu
  simp [pgCells] at hu
  rcases hu with rfl | rfl | rfl
  · rfl
  · rfl
  · exact hs
/-- 'append(l, p)', p laid as a slice of one. -/
theorem PgRow.snoc {w : World} {base : Nat} {v : Value} {ps : List Pg} (h : PgRow w base v ps) (hb : base ≤ w.heap.size) (hl : ps.length ≤ 1000) {p : Pg} {aS : Option Addr} {ns cs : Nat} (hs : w.ownsRow 0 5 1 (.slice aS ns cs) p.data.length (secV p.data)) (ty : TypeId) :
    ∃ ao cap w', (Builtin.append_ #[107, 107] ty #[v, .slice (some ⟨w.heap.size, 0, none⟩) 1 1]).run Tryz.prog (w.alloc (.cells #[.int .i64 p.no, .int .u64 p.lsn, .slice aS ns cs] 40)) = .ok (.slice ao (ps.length + 1) cap) w' ∧
      PgRow w' base (.slice ao (ps.length + 1) cap) (ps ++ [p]) ∧ (∃ row, (w.alloc (.cells #[.int .i64 p.no, .int .u64 p.lsn, .slice aS ns cs] 40)).grownBy w' row ∧ ∀ r, row = some r → base ≤ r ∧ r < w.heap.size ∧ ∃ c f, w.heap[r]? = some (.cells c 40 f)) := by
  obtain ⟨i0, hi, hz0, hz1, hz2⟩ := info_parts infoPg
  obtain ⟨wA, hwA⟩ : ∃ wA, wA = w.alloc (.cells #[.int .i64 p.no, .int .u64 p.lsn, .slice aS ns cs] 40) := ⟨_, rfl⟩
  have hbA : Below w.heap.size w wA := by rw [hwA]; exact (Below.refl _ _).alloc (Nat.le_refl _) _
  have hnew : wA.heap[w.heap.size]? = some (.cells #[.int .i64 p.no, .int .u64 p.lsn, .slice aS ns cs] 40 (0, 0)) := by rw [hwA]; exact heap_new w _
  have hA := h.below hbA
  obtain ⟨ss, h1, h2, h3⟩ := hA
  obtain ⟨v', w', hrun, r1, r2, _⟩ := run_append_own (P := Tryz.prog) wA base 107 ty 40 i0 _ 3 40 Tryz.underlying107 hi hz0 hz1 hz2 rfl (by decide) v ps.length _ h2 ⟨w.heap.size, 0, none⟩ 1 1 (pgCells p (.slice aS ns cs)) rfl
    (fun j u hj => by rw [Addr.add_lit, Nat.zero_add, cell_of_row _ _ _ _ _ _ hnew, ← hj]; simp [pgCells]) (pgCells_one _ _ rfl) (by unfold maxLen; omega) (by omega) (by rw [hwA]; simp; omega)
  obtain ⟨ao, cap, rfl, hc, hg⟩ : ∃ ao cap, v' = .slice ao (ps.length + 1) cap ∧ ps.length + 1 ≤ cap ∧ True := by
    rcases r1.2 with ⟨rfl, h0⟩ | ⟨g, cap, cur, rfl, _, _, hc, _⟩
    · omega
    · exact ⟨_, cap, rfl, hc, trivial⟩
  have hrow : ∀ r, v.ownBlock = some r → base ≤ r ∧ r < w.heap.size ∧ ∃ c f, w.heap[r]? = some (.cells c 40 f) := fun r hr => by
    obtain ⟨ss', _, h2', _⟩ := h
    obtain ⟨c, hc⟩ := own_heap h2' hr
    exact ⟨own_base h2' r hr, lt_of_heap hc, c, _, hc⟩
  rw [← hwA]
  refine ⟨ao, cap, w', hrun, ⟨ss ++ [.slice aS ns cs], by simp [h1], ?_, ?_⟩, _, r2, hrow⟩
  · have e : ((ps ++ [p]).zip (ss ++ [.slice aS ns cs])).map (fun x => pgCells x.1 x.2) = (ps.zip ss).map (fun x => pgCells x.1 x.2) ++ [pgCells p (.slice aS ns cs)] := by
      rw [List.zip_append (by omega)]; simp
    rw [e, List.flatten_append, List.length_append]
    simpa using r1
  · intro k q s hq hs'
    have keep : ∀ (u : Value) (n : Nat) (xs : List Value), wA.ownsRow 0 5 1 u n xs → w'.ownsRow 0 5 1 u n xs := fun u n xs ho => own_same ho fun k' hk' => by
      obtain ⟨c, hc⟩ := own_heap ho hk'
      refine r2.block k' (lt_of_heap hc) (fun e => ?_)
      obtain ⟨c2, hc2⟩ := own_heap h2 e.symm
      rw [hc] at hc2
      injection hc2 with e1
      injection e1 with _ e2 _
      exact absurd e2 (by decide)
    rcases Nat.lt_or_ge k ps.length with hk | hk
    · rw [List.getElem?_append_left (by omega)] at hq hs'
      exact keep _ _ _ (h3 k q s hq hs')
    · rw [List.getElem?_append_right (by omega)] at hq hs'
      rw [h1] at hs'
      have hk0 : k - ps.length = 0 := by
        have := (List.getElem?_eq_some_iff.1 hq).1
        simp at this; omega
      rw [hk0] at hq hs'
      simp at hq hs'
      subst hq hs'
      exact keep _ _ _ (own_below hs hbA)

set_option maxRecDepth 8000 in
theorem page_bad {w : World} {v : Value} {f : List Int} (h : Bs w v f) (ht : TabOk w) (he : openE f ≠ 0) :
    Calls Tryz.prog 57 #[v] w fun e w' => e = .returned (.tuple #[.agg #[.int .i64 0, .int .u64 0, .slice none 0 0], .int .i64 (openE f)]) ∧ Below w.heap.size w w' := by
  have hbx : Below w.heap.size w (w.alloc (.cells #[.int .i64 0, .int .u64 0, .slice none 0 0] 40)) := (Below.refl _ _).alloc (Nat.le_refl _) _
  have HOP := hid (open_any (h.below hbx) (ht.below hbx (Nat.le_refl _)))
  generalize openE f = E at *
  have hne : (E != 0) = true := by simpa using he
  clear h ht he
  go_enter Tryz.func57, Tryz.ntmps57
  go_wp2_with (go_at_call 78; refine HOP.out.mono ?_; rintro e w1 ⟨v1, rfl, hbs1, hb1⟩; clear HOP; have HB1 := hid (hbx.trans (hb1.mono hbx.size)); have hr1 := (hb1.block w.heap.size (by simp)).trans (heap_new w _); have c0 := cell_of_row w1 w.heap.size 0 _ _ _ hr1; have c1 := cell_of_row w1 w.heap.size 1 _ _ _ hr1; have c2 := cell_of_row w1 w.heap.size 2 _ _ _ hr1; have f0 := frozen_of_row w1 w.heap.size 0 _ _ hr1; have f1 := frozen_of_row w1 w.heap.size 1 _ _ hr1; have f2 := frozen_of_row w1 w.heap.size 2 _ _ hr1; simp only [List.getElem?_toArray, List.getElem?_cons_succ, List.getElem?_cons_zero] at c0 c1 c2; obtain ⟨a1, k1, rfl, _⟩ := hbs1.open; clear hbs1 hb1 hbx hr1)
  refine bodyPost_ret (v := .tuple #[.agg #[.int .i64 0, .int .u64 0, .slice none 0 0], .int .i64 E]) (by simp [results, Tryz.results57, go_sem, c0, c1, c2]) rfl ⟨rfl, ?_⟩
  exact ((HB1.out.setCell (p := ⟨w.heap.size, 0, none⟩) (Nat.le_refl _) _).setCell (p := ⟨w.heap.size, 1, none⟩) (Nat.le_refl _) _).setCell (p := ⟨w.heap.size, 2, none⟩) (Nat.le_refl _) _
end Go.Proofs.YtkbnjniglngjgaaGreatDoor

namespace Go.Proofs.YtkbnjniglngjgaaGreatDoor
open Go.RowKit Go.Shelf

attribute [local go_sem] Oper.semAt_some

abbrev frameAt (f : List Int) (j : Nat) : List Int := (f.drop (512 * j)).take 512
/-- All frames are sound. -/
def soundB (q : Nat) (f : List Int) : Bool := (List.range q).all fun j => pageErr (frameAt f j) == 0
/-- The pages that the frames tell; none, if one is not sound. -/
def pagesL (q : Nat) (f : List Int) : List Pg := if soundB q f = true then (List.range q).map fun j => pageIn (frameAt f j) else []
theorem soundB_iff {q : Nat} {f : List Int} : soundB q f = true ↔ ∀ j, j < q → pageErr (frameAt f j) = 0 := by
  unfold soundB
  rw [List.all_eq_true]
  constructor
  · intro h j hj
    have := h j (List.mem_range.2 hj)
    simpa using this
  · intro h j hj
    simpa using h j (List.mem_range.1 hj)

theorem wpListIn_run_append {F : Fence} {m : Nat} {P : Program} {ops : Array Oper} {rest : List Oper} {o : Oper} {a : Act} {w w' : World} {Q : Exit → Act → World → Prop} (hgd : o.guard = none) (s x : Operand) (t : TypeId)
    (hop : o.op = Op.call { callee := Callee.builtin Builtin.append, args := #[s, x], argTypes := #[t, t] }) {v u v' : Value} (hs : a.eval s = v) (hx : a.eval x = u) (hrun : (Builtin.append_ #[t, t] o.type #[v, u]).run P w = .ok v' w')
    (h : wpListIn F m P ops Q rest (a.put o.dst v') w') : wpListIn F m P ops Q (o :: rest) a w :=
  wpListIn_plain hgd fun _K hK => opIn_append s x t hop hs hx hrun (hK _ _ h)

theorem keeps_below {W W' : World} (h : Below W.heap.size W W') : KeepsOthers W W' := ⟨h.size, fun k _ hk _ => (h.block k (Array.getElem?_eq_some_iff.1 hk).1).trans hk⟩
/-- Amid page.pagesOf. -/
structure PoI (w : World) (ao : Option Addr) (Ln cap : Nat) (v : Value) (ps : List Pg) (W : World) : Prop where
  br : W.heap[w.heap.size]? = some (.cells #[.slice none 0 0] 107 (0, 0))
  bl : W.heap[w.heap.size + 1]? = some (.cells #[v] 107 (0, 0))
  bv : W.heap[w.heap.size + 2]? = some (.cells #[.slice ao Ln cap] 38 (0, 0))
  bn : W.heap[w.heap.size + 3]? = some (.cells #[.int .i64 512] 3 (0, 0))
  row : PgRow W w.heap.size v ps
  below : Below w.heap.size w W
theorem PoI.turn {w W W' : World} {ao : Option Addr} {Ln cap : Nat} {v : Value} {ps : List Pg} {row : Option Nat} (h : PoI w ao Ln cap v ps W) (hg : W.grownBy W' row) (hr : ∀ r, row = some r → w.heap.size ≤ r ∧ ∃ o : Obj, W.heap[r]? = some o ∧ o.isCells = false) : PoI w ao Ln cap v ps W' := by
  have key := turn_cells hg (fun r e => (hr r e).2)
  exact ⟨(key _ _ _ _ h.br).trans h.br, (key _ _ _ _ h.bl).trans h.bl, (key _ _ _ _ h.bv).trans h.bv, (key _ _ _ _ h.bn).trans h.bn, h.row.same fun k c t f hk _ => key k c t f hk, h.below.grown hg h.below.size (fun k e => (hr k e).1)⟩
theorem PoI.fresh {w W W' : World} {ao : Option Addr} {Ln cap : Nat} {v : Value} {ps : List Pg} (h : PoI w ao Ln cap v ps W) (hb : Below W.heap.size W W') : PoI w ao Ln cap v ps W' :=
  ⟨(hb.block _ (lt_of_heap h.br)).trans h.br, (hb.block _ (lt_of_heap h.bl)).trans h.bl, (hb.block _ (lt_of_heap h.bv)).trans h.bv, (hb.block _ (lt_of_heap h.bn)).trans h.bn, h.row.below hb, h.below.trans (hb.mono h.below.size)⟩
/-- A further page is appended, its variable set. -/
theorem PoI.add {w W : World} {ao : Option Addr} {Ln cap : Nat} {v : Value} {ps : List Pg} (h : PoI w ao Ln cap v ps W) (hl : ps.length ≤ 8) {p : Pg} {aS : Option Addr} {ns cs : Nat} (hs : W.ownsRow 0 5 1 (.slice aS ns cs) p.data.length (secV p.data)) :
    ∃ a' c' W', (Builtin.append_ #[107, 107] 107 #[v, .slice (some ⟨W.heap.size, 0, none⟩) 1 1]).run Tryz.prog (W.alloc (.cells #[.int .i64 p.no, .int .u64 p.lsn, .slice aS ns cs] 40)) = .ok (.slice a' (ps.length + 1) c') W' ∧
      W'.cell? ⟨w.heap.size + 1, 0, none⟩ = some v ∧ W'.frozen? ⟨w.heap.size + 1, 0, none⟩ = false ∧ PoI w ao Ln cap (.slice a' (ps.length + 1) c') (ps ++ [p]) (W'.setCell ⟨w.heap.size + 1, 0, none⟩ (.slice a' (ps.length + 1) c')) ∧
      KeepsOthers W (W'.setCell ⟨w.heap.size + 1, 0, none⟩ (.slice a' (ps.length + 1) c')) ∧ Kc (w.heap.size + 4) (fun k => k = w.heap.size + 1) W (W'.setCell ⟨w.heap.size + 1, 0, none⟩ (.slice a' (ps.length + 1) c')) := by
  obtain ⟨a', c', W', hrun, hrow, row, hg, hr⟩ := h.row.snoc h.below.size (by omega) hs 107
  have hbA : Below W.heap.size W (W.alloc (.cells #[.int .i64 p.no, .int .u64 p.lsn, .slice aS ns cs] 40)) := (Below.refl _ _).alloc (Nat.le_refl _) _
  -- blocks of another type are as they were
  have key : ∀ k c t f, W.heap[k]? = some (Obj.cells c t f) → t ≠ 40 → W'.heap[k]? = W.heap[k]? := fun k c t f hk ht => by
    refine (hg.block k (Nat.lt_of_lt_of_le (lt_of_heap hk) hbA.size) (fun e => ?_)).trans (hbA.block k (lt_of_heap hk))
    obtain ⟨_, _, c2, f2, h2⟩ := hr k e.symm
    rw [hk] at h2
    injection h2 with e1
    injection e1 with _ e2 _
    exact ht e2
  have br' := (key _ _ _ _ h.br (by decide)).trans h.br
  have bl' := (key _ _ _ _ h.bl (by decide)).trans h.bl
  have bv' := (key _ _ _ _ h.bv (by decide)).trans h.bv
  have bn' := (key _ _ _ _ h.bn (by decide)).trans h.bn
  have far : ∀ k, k ≠ w.heap.size + 1 → (W'.setCell ⟨w.heap.size + 1, 0, none⟩ (.slice a' (ps.length + 1) c')).heap[k]? = W'.heap[k]? := fun k hk => Below.heap_setCell W' _ _ k (fun e => hk (by rw [e]))
  have hBW' : Below w.heap.size w W' := (h.below.trans (hbA.mono h.below.size)).grown hg (Nat.le_trans h.below.size hbA.size) (fun k e => (hr k e).1)
  refine ⟨a', c', W', hrun, cell_of_row W' _ 0 _ _ _ bl', frozen_of_row W' _ 0 _ _ bl', ⟨(far _ (by omega)).trans br', box_set bl', (far _ (by omega)).trans bv', (far _ (by omega)).trans bn', hrow.same fun k c t f hk ht => far k (fun e => ?_), hBW'.setCell (p := ⟨w.heap.size + 1, 0, none⟩) (by show w.heap.size ≤ w.heap.size + 1; omega) _⟩, ?_, ?_⟩
  · subst e
    rw [bl'] at hk
    injection hk with e1
    injection e1 with _ e2 _
    rcases ht with ht | ht <;> rw [ht] at e2 <;> exact absurd e2 (by decide)
  · have hkA : KeepsOthers (W.alloc (.cells #[.int .i64 p.no, .int .u64 p.lsn, .slice aS ns cs] 40)) W' := by
     cases row with
     | none => exact ⟨hg.size, fun k o hk _ => (hg.block k (lt_of_heap hk) (fun e => by cases e)).trans hk⟩
     | some r =>
      obtain ⟨_, hlt, c, f, hc⟩ := hr r rfl
      exact keeps_row hg ((hbA.block r hlt).trans hc)
    exact ((KeepsOthers.alloc W _).trans hkA).trans (KeepsOthers.setCell W' _ _)
  · refine ⟨?_, fun k c t f hk hp hc => ?_⟩
    · have := hbA.size; have := hg.size
      show W.heap.size ≤ (W'.setCell _ _).heap.size
      have h2 := (grown_setCell W' (w.heap.size + 1) 0 (.slice a' (ps.length + 1) c')).size
      omega
    · rw [far k hp]
      rcases Nat.lt_or_ge k w.heap.size with hlt | hge
      · exact (hg.block k (Nat.lt_of_lt_of_le (lt_of_heap hc) hbA.size) (fun e => by have := (hr k e.symm).1; omega)).trans (hbA.block k (lt_of_heap hc))
      · rcases (show k = w.heap.size ∨ k = w.heap.size + 2 ∨ k = w.heap.size + 3 by omega) with rfl | rfl | rfl
        · exact br'.trans h.br.symm
        · exact bv'.trans h.bv.symm
        · exact bn'.trans h.bn.symm
theorem push4 (a : Array Obj) (x0 x1 x2 x3 : Obj) : ((((a.push x0).push x1).push x2).push x3)[a.size]? = some x0 ∧ ((((a.push x0).push x1).push x2).push x3)[a.size + 1]? = some x1 ∧ ((((a.push x0).push x1).push x2).push x3)[a.size + 2]? = some x2 ∧ ((((a.push x0).push x1).push x2).push x3)[a.size + 3]? = some x3 := by
  refine ⟨?_, ?_, ?_, ?_⟩ <;> simp only [Array.getElem?_push, Array.size_push] <;> repeat (first | rw [if_pos (by omega)] | rw [if_neg (by omega)] | rw [if_pos trivial])

set_option maxRecDepth 100000 in
set_option maxHeartbeats 2000000 in
theorem pagesOf_in {w : World} {base F B p0 np q : Nat} {half : Bool} (hf : FileIs w base F B p0 np half) {v : Value} {f : List Int} (hv : w.ownsRow 0 5 1 v (512 * q) (secV f)) (hby : By f) (ht : TabOk w) (hq : q ≤ 8)
    (hkind : ∀ j, j < q → pageErr (frameAt f j) = 0 ∨ openE (frameAt f j) ≠ 0) (htk : takes np (pagesL q f)) :
    CallsIn Fence.wide 12 Tryz.prog 91 #[.pointer (some ⟨F, 0, none⟩), v] w fun e w' => ∃ v', e = .returned v' ∧ Pgs w' v' (pagesL q f) ∧ Below w.heap.size w w' := by
  have hw : ∀ k, Fence.wide.fn k := fun _ => trivial
  have hfl : f.length = 512 * q := by have := hv.1; simpa [secV] using this
  obtain ⟨ao, cap, rfl, hcap, hop⟩ := own_any hv
  have HV := hid hv
  have HBY := hid hby
  have HFL := hid hfl
  have HF := hid hf
  have HT := hid ht
  have HTK := hid htk
  have HKI := hid hkind
  obtain ⟨g, hg⟩ : ∃ g, 1 ≤ q → ao = some ⟨g, 0, none⟩ := by
    rcases Nat.eq_zero_or_pos q with h | h
    · exact ⟨0, fun h' => by omega⟩
    · obtain ⟨g, hg⟩ := hop (by omega)
      exact ⟨g, fun _ => hg⟩
  obtain ⟨Ln, hLn⟩ : ∃ Ln, Ln = 512 * q := ⟨_, rfl⟩
  rw [← hLn] at hcap HV ⊢
  have HLN := hid hLn
  clear hv hby hfl hop hLn ht htk hkind hf
  refine callsIn_of_wp_marks Tryz.func91 rfl trivial ?_ rfl
  simp only [Tryz.ntmps91, List.size_toArray, List.length_cons, List.length_nil, Nat.reduceAdd, Nat.reduceSub, Array.replicate_succ, Array.replicate_zero, List.push_toArray, List.append_toArray, List.nil_append, List.cons_append]
  have hmx : Tryz.prog.follows .mixedOrders = true := by kernel_rfl
  gi_wp2_with (gi_at_call 92; refine (chunkOf_in _ _ _ _ 512 (by omega) _).mono ?_; rintro e w' ⟨rfl, rfl⟩)
  obtain ⟨W0, hW0⟩ : ∃ W0, (((w.alloc (.cells #[.slice none 0 0] 107)).alloc (.cells #[.slice none 0 0] 107)).alloc (.cells #[.slice ao Ln cap] 38)).alloc (.cells #[.int .i64 512] 3) = W0 := ⟨_, rfl⟩
  have hsz : W0.heap.size = w.heap.size + 4 := by rw [← hW0]; simp
  have hF0 : Below w.heap.size w W0 := by rw [← hW0]; exact ((((Below.refl _ w).alloc (Nat.le_refl _) _).alloc (by simp) _).alloc (by simp; omega) _).alloc (by simp; omega) _
  obtain ⟨b0, b1, b2, b3⟩ : W0.heap[w.heap.size]? = some (.cells #[.slice none 0 0] 107 (0, 0)) ∧ W0.heap[w.heap.size + 1]? = some (.cells #[.slice none 0 0] 107 (0, 0)) ∧ W0.heap[w.heap.size + 2]? = some (.cells #[.slice ao Ln cap] 38 (0, 0)) ∧ W0.heap[w.heap.size + 3]? = some (.cells #[.int .i64 512] 3 (0, 0)) := by
    rw [← hW0]; exact push4 w.heap _ _ _ _
  have h0 : PoI w ao Ln cap (.slice none 0 0) [] W0 := ⟨b0, b1, b2, b3, PgRow.nil _ _, hF0⟩
  rw [hW0]
  clear hW0
  refine wpIn_rangeFunc_ownG rfl (by decide) (gf := 108) (lb := #[.pointer (some ⟨w.heap.size + 1 + 1, 0, none⟩), .pointer (some ⟨w.heap.size + 1 + 1 + 1, 0, none⟩)]) rfl trivial (enters_of Tryz.func108 (by kernel_rfl) rfl)
    (chunk_stops (12 - 1) (by decide) (w.heap.size + 2) (w.heap.size + 3) (w.heap.size + 4) (fun k => k = w.heap.size + 1) g 0 cap 512 q Ln ao W0 b2 b3 ⟨by omega, by omega⟩ ⟨by omega, by omega⟩ hg (by have := HLN.out; omega) (by omega) hcap (by have := HLN.out; omega)) (fun h k => Kc.trans h k) (fun W l o o' _ hl hc _ => Kc.putObj _ _ W l o o' hl hc) (Below.refl _ _) (fun _ => rfl)
    (fun pre W => (∀ x ∈ pre, pageErr (frameAt f x.1) = 0) ∧ ∃ v, PoI w ao Ln cap v (pre.map fun x => pageIn (frameAt f x.1)) W)
    (fun c pre W => c = .ret ∧ (∃ x ∈ pre, pageErr (frameAt f x.1) ≠ 0) ∧ ∃ v ps, PoI w ao Ln cap v ps W) ?hI ?hIx ?h0
    (fun x => { tmps := #[.pointer (some ⟨F, 0, none⟩), .slice ao Ln cap, undef, undef, .pointer (some ⟨w.heap.size, 0, none⟩), .pointer (some ⟨w.heap.size + 1, 0, none⟩), .slice (some ⟨g, x.1 * 512, none⟩) 512 512, undef, undef, .slice ao Ln cap, .func (.func 108) #[] #[.pointer (some ⟨w.heap.size + 1 + 1, 0, none⟩), .pointer (some ⟨w.heap.size + 1 + 1 + 1, 0, none⟩)], .slice (some ⟨g, x.1 * 512, none⟩) 512 512, undef, undef, undef, undef, undef, undef, undef, undef, undef, undef, undef, undef, undef, undef, undef, undef], defers := [] }) ?assign ?body ?done ?stop
  case hI =>
    rintro s A B' row ⟨hz, v, hs⟩ hg' hrow
    exact ⟨hz, v, hs.turn hg' (fun r e => ⟨by have := (hrow r e).1; omega, (hrow r e).2⟩)⟩
  case hIx =>
    rintro c s A B' row ⟨hc, hz, v, ps, hs⟩ hg' hrow
    exact ⟨hc, hz, v, ps, hs.turn hg' (fun r e => ⟨by have := (hrow r e).1; omega, (hrow r e).2⟩)⟩
  case h0 => exact ⟨by simp, _, h0⟩
  case assign =>
    intro l x W K hK
    gi_wp2
    exact hK
  case body =>
    rintro l pre x W ⟨hz, v, hI⟩ hlt
    have hd1 : 1 ≤ 12 - 1 - 1 := by decide
    have hx := x.2
    obtain rfl := hg (by omega)
    have hfl2 : (frameAt f x.1).length = 512 := by have := HFL.out; simp [frameAt]; omega
    have hsrc : Bs W (.slice (some ⟨g, x.1 * 512, none⟩) 512 512) (frameAt f x.1) := by
      have ho := own_below (own_mono HV.out (Nat.zero_le _)) hI.below
      refine ⟨range_of ((HBY.out.drop _).take _), by rw [hfl2]; omega, .inr ⟨g, x.1 * 512, 512, by rw [hfl2], by omega, fun j hj => ?_⟩⟩
      rw [hfl2] at hj
      rw [ho.cellAt (x.1 * 512 + j) (by have := HLN.out; omega)]
      simp only [secV, List.getElem?_map, frameAt, List.getD_eq_getElem?_getD, List.getElem?_take, List.getElem?_drop, if_pos hj]
      rw [show 512 * x.1 + j = x.1 * 512 + j by omega, List.getElem?_eq_getElem (by rw [HFL.out]; omega)]
      rfl
    by_cases he : pageErr (frameAt f x.1) = 0
    · have HPG := hid (page_good hsrc hfl2 (HT.out.below hI.below (Nat.le_refl _)) he)
      have HI := hid hI
      have HZ := hid hz
      have HE := hid he
      have hlen : (pre.map fun x : Pc q => pageIn (frameAt f x.1)).length = pre.length := by simp
      have hdl : (pageIn (frameAt f x.1)).data.length = 480 := by
        have := pageErr_zero he
        simp only [pageIn, List.length_take, openB_len this.1 hfl2]
        omega
      obtain ⟨p, hp⟩ : ∃ p, p = pageIn (frameAt f x.1) := ⟨_, rfl⟩
      rw [← hp] at HPG hdl
      have HPE := hid hp
      obtain ⟨av, cv, rfl, _, _⟩ := hI.row.form
      rw [hlen] at HI
      clear hsrc hI hz he hp
      gi_wp2_with (first
        | (gi_at_call 57; refine (CallsIn.inRound l (callsIn_wide.2 HPG.out)).mono ?_; rintro e W1 ⟨s1, rfl, hs1, hb1⟩; obtain ⟨aS, cS, rfl, _, _⟩ := own_any hs1; obtain ⟨W2, hW2⟩ : ∃ W2, W1.alloc (.cells #[.int .i64 p.no, .int .u64 p.lsn, .slice aS 480 cS] 40) = W2 := ⟨_, rfl⟩; have hb12 : Below W1.heap.size W1 W2 := (by rw [← hW2]; exact (Below.refl _ _).alloc (Nat.le_refl _) _); have hI2 := (HI.out.fresh hb1).fresh hb12; have hpn : W2.heap[W1.heap.size]? = some (.cells #[.int .i64 p.no, .int .u64 p.lsn, .slice aS 480 cS] 40 (0, 0)) := (by rw [← hW2]; exact heap_new W1 _); have cl := cell_of_row W2 (w.heap.size + 1) 0 _ _ _ hI2.bl; have q0 := cell_of_row W2 W1.heap.size 0 _ _ _ hpn; have q1 := cell_of_row W2 W1.heap.size 1 _ _ _ hpn; have q2 := cell_of_row W2 W1.heap.size 2 _ _ _ hpn; simp only [List.getElem?_toArray, List.getElem?_cons_succ, List.getElem?_cons_zero] at cl q0 q1 q2; obtain ⟨a', c', W3, hrun, hc3, hf3, hfin, hko, hkc⟩ := hI2.add (by rw [hlen]; omega) (p := p) (aS := aS) (ns := 480) (cs := cS) (by rw [hdl]; exact own_mono (own_below hs1 hb12) (Nat.zero_le _)); rw [hlen] at hrun hfin hko hkc; have HR := hid hrun; have HFIN := hid hfin; have HKO := hid (((keeps_below hb1).trans (keeps_below hb12)).trans hko); have HKC := hid (((Kc.fresh hb1).trans (Kc.fresh hb12)).trans hkc); clear hrun hfin hko hkc hI2 hpn hs1 hb1 hb12 HPG)
        | (refine wpListIn_run_append (v' := .slice a' (pre.length + 1) c') (w' := W3) rfl (.tmp 19) (.tmp 21) 107 rfl rfl rfl ?_ ?_; exact HR.out))
      refine ⟨HKO.out.from W0.heap.size, HKC.out, ?_, .slice a' (pre.length + 1) c', ?_⟩
      · intro y hy
        rcases List.mem_append.1 hy with hy | hy
        · exact HZ.out y hy
        · simp at hy; subst hy; exact HE.out
      · have := HFIN.out
        rw [HPE.out] at this
        rw [List.map_append]
        exact this
    · have hop : openE (frameAt f x.1) ≠ 0 := by
        rcases HKI.out x.1 hx with h | h
        · exact absurd h he
        · exact h
      have HPG := hid (page_bad hsrc (HT.out.below hI.below (Nat.le_refl _)) hop)
      have HI := hid hI
      have HE := hid he
      have hne : (openE (frameAt f x.1) != 0) = true := by simpa using hop
      generalize openE (frameAt f x.1) = E at *
      clear hsrc hI hz he hop
      gi_wp2_with (gi_at_call 57; refine (CallsIn.inRound l (callsIn_wide.2 HPG.out)).mono ?_; rintro e W1 ⟨rfl, hb1⟩; have hI1 := HI.out.fresh hb1; have cr := cell_of_row W1 w.heap.size 0 _ _ _ hI1.br; have fr := frozen_of_row W1 w.heap.size 0 _ _ hI1.br; simp only [List.getElem?_toArray, List.getElem?_cons_zero] at cr; have hrl := lt_of_heap hI1.br; have HI1 := hid hI1; have HKO := hid (keeps_below hb1); clear hI1 hb1 HPG)
      have hI2 := HI1.out
      have hset : PoI w (some ⟨g, 0, none⟩) Ln cap v (pre.map fun x => pageIn (frameAt f x.1)) (W1.setCell ⟨w.heap.size, 0, none⟩ (.slice none 0 0)) := by
        have far : ∀ k, k ≠ w.heap.size → (W1.setCell ⟨w.heap.size, 0, none⟩ (.slice none 0 0)).heap[k]? = W1.heap[k]? := fun k hk => Below.heap_setCell W1 _ _ k (fun e => hk (by rw [e]))
        refine ⟨box_set hI2.br, (far _ (by omega)).trans hI2.bl, (far _ (by omega)).trans hI2.bv, (far _ (by omega)).trans hI2.bn, hI2.row.same fun k c t f' hk ht => far k (fun e => ?_), hI2.below.setCell (p := ⟨w.heap.size, 0, none⟩) (Nat.le_refl _) _⟩
        subst e
        rw [hI2.br] at hk
        injection hk with e1
        injection e1 with _ e2 _
        rcases ht with ht | ht <;> rw [ht] at e2 <;> exact absurd e2 (by decide)
      exact ⟨((HKO.out.trans (KeepsOthers.setCell W1 _ _)).trans (KeepsOthers.alloc _ _)).from W0.heap.size, rfl, ⟨x, by simp, HE.out⟩, v, _, hset.fresh ((Below.refl _ _).alloc (Nat.le_refl _) _)⟩
  case done =>
    rintro D ys W hD hS ⟨hz, v, hI⟩ hK
    have hall : soundB q f = true := soundB_iff.2 fun j hj => by
      have : j ∈ ys.map (·.1) := by rw [hS]; exact List.mem_range.2 hj
      obtain ⟨x, hx, rfl⟩ := List.mem_map.1 this
      exact hz x hx
    have hps : ys.map (fun x => pageIn (frameAt f x.1)) = pagesL q f := by
      unfold pagesL
      rw [if_pos hall, ← hS, List.map_map]
      rfl
    rw [hps] at hI
    obtain ⟨av, cv, rfl, _, _⟩ := hI.row.form
    have HA := hid (accept_any (HF.out.below hI.below) hI.row.pgs HTK.out)
    have cl := cell_of_row W (w.heap.size + 1) 0 _ _ _ hI.bl
    simp only [List.getElem?_toArray, List.getElem?_cons_zero] at cl
    have HI := hid hI
    have HKD := hid hK
    generalize (pagesL q f).length = m at *
    clear hI hz hS hps hall hK
    gi_wp2_with (gi_at_call 82; refine (callsIn_wide.2 HA.out).mono ?_; rintro e W1 ⟨rfl, hb1⟩; have hI1 := HI.out.fresh hb1; have cr := cell_of_row W1 w.heap.size 0 _ _ _ hI1.br; have fr := frozen_of_row W1 w.heap.size 0 _ _ hI1.br; have cl1 := cell_of_row W1 (w.heap.size + 1) 0 _ _ _ hI1.bl; simp only [List.getElem?_toArray, List.getElem?_cons_zero] at cr cl1; have HI1 := hid hI1; have HK1 := hid ((keeps_below hb1).same D _ HKD.out rfl); clear hI1 hb1 HA)
    have hK2 := (KeepsOthers.setCell W1 ⟨w.heap.size, 0, none⟩ (.slice av m cv)).same D _ HK1.out rfl
    have hrow : ∀ r, some D = some r → ∃ o : Obj, (W1.setCell ⟨w.heap.size, 0, none⟩ (.slice av m cv)).heap[r]? = some o ∧ o.isCells = false := fun r e => by cases e; exact ⟨_, hK2, rfl⟩
    refine ⟨by simp, .inl ⟨_, _, rfl, run_takeDeferred hK2, ?_⟩⟩
    have hbr2 : (W1.setCell ⟨w.heap.size, 0, none⟩ (.slice av m cv)).heap[w.heap.size]? = some (.cells #[.slice av m cv] 107 (0, 0)) := box_set HI1.out.br
    have hb5 := cell_kept (o := 0) hbr2 (grownBy_putObj' _ D (.deferred none)) hrow
    simp only [List.getElem?_toArray, List.getElem?_cons_zero] at hb5
    have hr2 : PgRow (W1.setCell ⟨w.heap.size, 0, none⟩ (.slice av m cv)) w.heap.size (.slice av m cv) (pagesL q f) := HI1.out.row.same fun k c t f' hk ht => Below.heap_setCell W1 _ _ k (fun e => by
      have e' : k = w.heap.size := e
      subst e'
      rw [HI1.out.br] at hk
      injection hk with e1
      injection e1 with _ e2 _
      rcases ht with ht | ht <;> rw [ht] at e2 <;> exact absurd e2 (by decide))
    refine ⟨.slice av m cv, ?_, _, rfl, (hr2.same fun k c t f' hk _ => turn_cells (grownBy_putObj' _ D (.deferred none)) hrow k c t f' hk).pgs, ?_⟩
    · simp [results, Tryz.f91, go_sem, hb5]
    · have hbl := HI1.out.below.setCell (p := ⟨w.heap.size, 0, none⟩) (Nat.le_refl _) (.slice av m cv)
      exact hbl.grown (grownBy_putObj' _ D (.deferred none)) hbl.size (fun k e => by cases e; omega)
  case stop =>
    rintro D c pre W hD hSp ⟨rfl, ⟨x, hx, hne⟩, v, ps, hI⟩ hK
    have hall : soundB q f ≠ true := fun h => hne (soundB_iff.1 h x.1 x.2)
    have hps : pagesL q f = [] := by unfold pagesL; rw [if_neg hall]
    have HPS := hid hps
    have HI := hid hI
    clear hI hps hall hne
    gi_wp2
    have hrow : ∀ r, some D = some r → ∃ o : Obj, W.heap[r]? = some o ∧ o.isCells = false := fun r e => by cases e; exact ⟨_, hK, rfl⟩
    refine ⟨by simp, .inl ⟨_, _, rfl, run_takeDeferred hK, ?_⟩⟩
    have hb5 := cell_kept (o := 0) HI.out.br (grownBy_putObj' _ D (.deferred none)) hrow
    simp only [List.getElem?_toArray, List.getElem?_cons_zero] at hb5
    rw [HPS.out]
    refine ⟨.slice none 0 0, ?_, _, rfl, pgs_nil _, (HI.out.turn (grownBy_putObj' _ D (.deferred none)) (fun r e => ⟨by cases e; omega, hrow r e⟩)).below⟩
    simp [results, Tryz.f91, go_sem, hb5]
theorem pagesOf_any {w : World} {base F B p0 np q : Nat} {half : Bool} (hf : FileIs w base F B p0 np half) {v : Value} {f : List Int} (hv : w.ownsRow 0 5 1 v (512 * q) (secV f)) (hby : By f) (ht : TabOk w) (hq : q ≤ 8)
    (hkind : ∀ j, j < q → pageErr (frameAt f j) = 0 ∨ openE (frameAt f j) ≠ 0) (htk : takes np (pagesL q f)) :
    Calls Tryz.prog 91 #[.pointer (some ⟨F, 0, none⟩), v] w fun e w' => ∃ v', e = .returned v' ∧ Pgs w' v' (pagesL q f) ∧ Below w.heap.size w w' := callsIn_wide.1 (pagesOf_in hf hv hby ht hq hkind htk)
end Go.Proofs.YtkbnjniglngjgaaGreatDoor
