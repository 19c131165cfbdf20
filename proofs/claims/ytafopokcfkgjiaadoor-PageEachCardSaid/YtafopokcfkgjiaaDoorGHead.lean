/-
  Layer 3: what page.headOf gives.
-/
import Derived.Test.YtafopokcfkgjiaaDoorGStore
namespace Go.Proofs.YtafopokcfkgjiaaDoor
open Go.RowKit Go.Shelf

attribute [local go_sem] Oper.semAt_some

/-- An append whose run is known, as one operation within a fence. -/
theorem opIn_append {F : Fence} {n : Nat} {P : Program} {o : Oper} {a : Act} {w w' : World} {K : Act → World → Prop} {Q : Exit → Act → World → Prop} (s x : Operand) (t : TypeId)
    (hop : o.op = Op.call { callee := Callee.builtin Builtin.append, args := #[s, x], argTypes := #[t, t] }) {v u v' : Value} (hs : a.eval s = v) (hx : a.eval x = u) (hrun : (Builtin.append_ #[t, t] o.type #[v, u]).run P w = .ok v' w')
    (hK : K (a.put o.dst v') w') : Oper.wpIn F n P o a w K Q := by
  unfold Oper.wpIn
  refine ⟨?_, ?_⟩
  · simp [Oper.about, hop, resolve, Target.leads, Sem.run_pure]
  · rw [Oper.semAt_plain F _ _ (by rw [hop]; intro c hc'; cases hc')]
    simp [execOp, hop, resolve, invoke, builtin, hs, hx, hrun, Result.andThen]
    exact hK
theorem keeps_row {W W' : World} {g : Nat} {c : Array Value} {t : TypeId} {f : Nat × Nat} (hg : W.grownBy W' (some g)) (hh : W.heap[g]? = some (.cells c t f)) : KeepsOthers W W' :=
  ⟨hg.size, fun k o hk ho => (hg.block k (lt_of_heap hk) (fun e => by
    injection e with e
    subst e
    rw [hh] at hk
    injection hk with e1
    subst e1
    cases ho)).trans hk⟩
abbrev sumAt (f : List Int) (j : Nat) : List Int := ((f.drop (512 * j)).take 512).drop 508
theorem sums_all (f : List Int) : ∀ k, 512 * k ≤ f.length → ((List.range k).map (sumAt f)).flatten = sumsOf k f
  | 0, _ => rfl
  | k + 1, h => by
    rw [List.range_succ, List.map_append, List.flatten_append, sums_all f k (by omega), sumsOf_snoc k f h]
    simp
theorem sumAt_len {f : List Int} {j : Nat} (h : 512 * (j + 1) ≤ f.length) : (sumAt f j).length = 4 := by simp [sumAt]; omega

/-- Amid page.headOf. -/
structure HdI (w : World) (Bv : Nat) (ao : Option Addr) (Ln cap : Nat) (xs : List Int) (W : World) : Prop where
  buf : Buf W w.heap.size 64 xs
  bh : W.heap[w.heap.size + 1]? = some (.cells #[.slice (some ⟨w.heap.size, 0, none⟩) xs.length 64] 31 (0, 0))
  bv : W.heap[Bv]? = some (.cells #[.slice ao Ln cap] 31 (0, 0))
  bn : W.heap[Bv + 1]? = some (.cells #[.int .i64 512] 3 (0, 0))
  below : Below w.heap.size w W
theorem HdI.turn {w W W' : World} {Bv : Nat} {ao : Option Addr} {Ln cap : Nat} {xs : List Int} {row : Option Nat} (h : HdI w Bv ao Ln cap xs W) (hg : W.grownBy W' row) (hr : ∀ r, row = some r → w.heap.size ≤ r ∧ ∃ o : Obj, W.heap[r]? = some o ∧ o.isCells = false) : HdI w Bv ao Ln cap xs W' := by
  have key := turn_cells hg (fun r e => (hr r e).2)
  exact ⟨⟨h.buf.1, (key _ _ _ _ h.buf.2).trans h.buf.2⟩, (key _ _ _ _ h.bh).trans h.bh, (key _ _ _ _ h.bv).trans h.bv, (key _ _ _ _ h.bn).trans h.bn, h.below.grown hg h.below.size (fun k e => (hr k e).1)⟩
/-- A further piece is appended. -/
theorem HdI.add {w W W1 : World} {Bv : Nat} {ao : Option Addr} {Ln cap : Nat} {xs ys : List Int} (h : HdI w Bv ao Ln cap xs W) (hBv : w.heap.size + 2 ≤ Bv) (hg : W.grownBy W1 (some w.heap.size)) (hb : Buf W1 w.heap.size 64 (xs ++ ys)) :
    HdI w Bv ao Ln cap (xs ++ ys) (W1.setCell ⟨w.heap.size + 1, 0, none⟩ (.slice (some ⟨w.heap.size, 0, none⟩) (xs ++ ys).length 64)) := by
  have far1 : ∀ k, k < W.heap.size → k ≠ w.heap.size → W1.heap[k]? = W.heap[k]? := fun k h1 h2 => hg.block k h1 (fun e => by injection e with e; exact h2 e)
  have far : ∀ k, k ≠ w.heap.size + 1 → (W1.setCell ⟨w.heap.size + 1, 0, none⟩ (.slice (some ⟨w.heap.size, 0, none⟩) (xs ++ ys).length 64)).heap[k]? = W1.heap[k]? := fun k hk => Below.heap_setCell W1 _ _ k (fun e => hk (by rw [e]))
  have bh1 := (far1 _ (lt_of_heap h.bh) (by omega)).trans h.bh
  exact ⟨⟨hb.1, (far _ (by omega)).trans hb.2⟩, box_set bh1, (far _ (by omega)).trans ((far1 _ (lt_of_heap h.bv) (by omega)).trans h.bv), (far _ (by omega)).trans ((far1 _ (lt_of_heap h.bn) (by omega)).trans h.bn),
    (h.below.grown hg h.below.size (fun k e => by cases e; omega)).setCell (p := ⟨w.heap.size + 1, 0, none⟩) (by show w.heap.size ≤ w.heap.size + 1; omega) _⟩

theorem HdI.drew {w W : World} {Bv : Nat} {ao : Option Addr} {Ln cap : Nat} {xs : List Int} (h : HdI w Bv ao Ln cap xs W) : HdI w Bv ao Ln cap xs W.drew :=
  h.turn (row := none) ⟨rfl, rfl, rfl, Nat.le_refl _, fun _ _ _ => rfl⟩ (fun r e => by cases e)
theorem sums_len {f : List Int} {q : Nat} (h : f.length = 512 * q) : ∀ (pre : List (Pc q)), ((pre.map fun x => sumAt f x.1).flatten).length = 4 * pre.length
  | [] => rfl
  | x :: r => by
    have hx := x.2
    have h1 := sums_len h r
    have h2 : (sumAt f x.1).length = 4 := sumAt_len (by rw [h]; omega)
    simp only [List.map_cons, List.flatten_cons, List.length_append, List.length_cons, h1, h2]
    omega
theorem head_uv {w wB w1 : World} {q : Nat} {v1 : Value} (hq : q ≤ 8) (hbf : Buf wB w.heap.size 64 []) (hbx : wB.heap[w.heap.size + 1]? = some (.cells #[.slice (some ⟨w.heap.size, 0, none⟩) 0 64] 31 (0, 0))) (hbb : Below w.heap.size w wB)
    (hb1 : Below wB.heap.size wB w1) (hown1 : w1.ownsRow wB.heap.size 5 1 v1 1 (List.map (Value.int .u8) [(q : Int)])) :
    w1.cell? ⟨w.heap.size + 1, 0, none⟩ = some (.slice (some ⟨w.heap.size, 0, none⟩) 0 64) ∧ ∃ a1 c1 w2, v1 = .slice a1 1 c1 ∧ (Builtin.append_ #[31, 31] 31 #[.slice (some ⟨w.heap.size, 0, none⟩) 0 64, .slice a1 1 c1]).run Tryd.prog w1 = .ok (.slice (some ⟨w.heap.size, 0, none⟩) 1 64) w2 ∧
      Buf w2 w.heap.size 64 [(q : Int)] ∧ w2.heap[w.heap.size + 1]? = some (.cells #[.slice (some ⟨w.heap.size, 0, none⟩) 0 64] 31 (0, 0)) ∧ Below w.heap.size w w2 ∧ w2.cell? ⟨w.heap.size + 1, 0, none⟩ = some (.slice (some ⟨w.heap.size, 0, none⟩) 0 64) ∧ w2.frozen? ⟨w.heap.size + 1, 0, none⟩ = false := by
  have hbx1 := (hb1.block _ (lt_of_heap hbx)).trans hbx
  obtain ⟨a1, c1, rfl, _, _⟩ := own_any hown1
  obtain ⟨w2, hrun, hbuf2, hg2⟩ := buf_append (hbf.below hb1) (bs_of_own hown1 (fun b hb => by simp at hb; omega) (by simp)) (n := 0) (m := 1) rfl rfl (by omega) (by omega) 31
  have hbx2 := (hg2.block _ (lt_of_heap hbx1) (fun e => by injection e with e; omega)).trans hbx1
  exact ⟨cell_of_row w1 (w.heap.size + 1) 0 _ _ _ hbx1, a1, c1, w2, rfl, hrun, hbuf2, hbx2, (hbb.trans (hb1.mono hbb.size)).grown hg2 (Nat.le_trans hbb.size hb1.size) (fun k e => by cases e; omega), cell_of_row w2 (w.heap.size + 1) 0 _ _ _ hbx2, frozen_of_row w2 (w.heap.size + 1) 0 _ _ hbx2⟩

set_option maxRecDepth 100000 in
set_option maxHeartbeats 2000000 in
theorem head_in {w : World} {q : Nat} {v : Value} {f : List Int} (hv : w.ownsRow 0 5 1 v (512 * q) (secV f)) (hby : By f) (hq : q ≤ 8) :
    CallsIn Fence.wide 12 Tryd.prog 33 #[v] w fun e w' => ∃ v', e = .returned v' ∧ w'.ownsRow w.heap.size 5 1 v' 64 (secV (headOf f)) ∧ Below w.heap.size w w' := by
  have hw : ∀ k, Fence.wide.fn k := fun _ => trivial
  have hmk : ∀ wx : World, (Instr.makeSlice 31 (.int .i64 0) (.int .i64 64)).run Tryd.prog wx = .ok (.slice (some ⟨wx.heap.size, 0, none⟩) 0 64) (wx.alloc (.cells (madeCells #[Value.int .u8 0] 64) 5)) := hmk0 64 (by omega)
  have hfl : f.length = 512 * q := by have := hv.1; simpa [secV] using this
  obtain ⟨ao, cap, rfl, hcap, hop⟩ := own_any hv
  obtain ⟨C, hC⟩ : ∃ C, C = madeCells #[Value.int .u8 0] 64 := ⟨_, rfl⟩
  have hbn := buf_new w 64
  rw [← hC] at hmk hbn
  clear hC
  have HV := hid hv
  have HBY := hid hby
  have HFL := hid hfl
  have HOP : Hid (1 ≤ q → ∃ g, ao = some ⟨g, 0, none⟩) := fun h => hop (by omega)
  obtain ⟨Ln, hLn⟩ : ∃ Ln, Ln = 512 * q := ⟨_, rfl⟩
  rw [← hLn] at hcap HV ⊢
  have hquo : (Ln : Int) / 512 = (q : Int) := by omega
  have hwq : IntKind.u64.wrap (q : Int) = (q : Int) := IntWalk.u64_in _ ⟨by omega, by omega⟩
  have hwi : IntKind.i64.wrap (q : Int) = (q : Int) := by rw [IntKind.wrap_i64]; omega
  have hLb : Ln ≤ 4096 := by omega
  have HLN := hid hLn
  clear hv hby hfl hop hLn
  -- the row, its box
  obtain ⟨wA, hwA⟩ : ∃ wA, w.alloc (.cells C 5) = wA := ⟨_, rfl⟩
  have hszA : wA.heap.size = w.heap.size + 1 := by rw [← hwA]; simp
  rw [hwA] at hbn
  obtain ⟨wB, hwB⟩ : ∃ wB, wA.alloc (.cells #[.slice (some ⟨w.heap.size, 0, none⟩) 0 64] 31) = wB := ⟨_, rfl⟩
  have hszB : wB.heap.size = w.heap.size + 2 := by rw [← hwB]; simp [hszA]
  have hbufB : Buf wB w.heap.size 64 [] := by rw [← hwB]; exact hbn.below ((Below.refl _ _).alloc (Nat.le_refl _) _)
  have hboxB : wB.heap[w.heap.size + 1]? = some (.cells #[.slice (some ⟨w.heap.size, 0, none⟩) 0 64] 31 (0, 0)) := by rw [← hwB, ← hszA]; exact heap_new wA _
  have hBB : Below w.heap.size w wB := by rw [← hwB, ← hwA]; exact ((Below.refl _ w).alloc (Nat.le_refl _) _).alloc (by simp) _
  have cB := cell_of_row wB (w.heap.size + 1) 0 _ _ _ hboxB
  simp only [List.getElem?_toArray, List.getElem?_cons_zero] at cB
  have HU := hid (uvar_any (q : Int) wB.drew (by omega) (by omega))
  have huq := uv_small hq
  have HUQ := hid huq
  rw [huq] at HU
  have HBF := hid hbufB
  have HBX := hid hboxB
  have HBB := hid hBB
  clear hbufB hboxB hBB hbn huq
  refine callsIn_of_wp_marks Tryd.func33 rfl trivial ?_ rfl
  simp only [Tryd.ntmps33, List.size_toArray, List.length_cons, List.length_nil, Nat.reduceAdd, Nat.reduceSub, Array.replicate_succ, Array.replicate_zero, List.push_toArray, List.append_toArray, List.nil_append, List.cons_append]
  have hmx : Tryd.prog.follows .mixedOrders = true := by kernel_rfl
  gi_wp2
  rename_i K0 hK0
  have hrest : Hid (∀ (w2 : World) (a1 : Option Addr) (c1 : Nat), Buf w2 w.heap.size 64 [(q : Int)] → w2.heap[w.heap.size + 1]? = some (.cells #[.slice (some ⟨w.heap.size, 0, none⟩) 0 64] 31 (0, 0)) → Below w.heap.size w w2 →
      K0 { tmps := #[.slice ao Ln cap, undef, .slice none 0 0, .pointer (some ⟨w.heap.size + 1, 0, none⟩), undef, .slice (some ⟨w.heap.size, 0, none⟩) 0 64, .slice (some ⟨w.heap.size, 0, none⟩) 0 64, .slice ao Ln cap, .int .i64 Ln, .int .i64 q, .int .u64 q, .slice a1 1 c1, .slice (some ⟨w.heap.size, 0, none⟩) 1 64, undef, undef, undef, undef, undef, undef, undef, undef, undef], defers := [] } (w2.setCell ⟨w.heap.size + 1, 0, none⟩ (.slice (some ⟨w.heap.size, 0, none⟩) 1 64))) := by
    intro w2 a1 c1 hbf hbx hbl
    refine hK0 _ _ ?_
    clear hK0
    obtain ⟨w3, hw3⟩ : ∃ w3, w2.setCell ⟨w.heap.size + 1, 0, none⟩ (.slice (some ⟨w.heap.size, 0, none⟩) 1 64) = w3 := ⟨_, rfl⟩
    have hbf3 : Buf w3 w.heap.size 64 [(q : Int)] := by rw [← hw3]; exact ⟨hbf.1, (Below.heap_setCell w2 _ _ _ (fun e => by have : w.heap.size = w.heap.size + 1 := e; omega)).trans hbf.2⟩
    have hbx3 : w3.heap[w.heap.size + 1]? = some (.cells #[.slice (some ⟨w.heap.size, 0, none⟩) 1 64] 31 (0, 0)) := by rw [← hw3]; exact box_set hbx
    have hbl3 : Below w.heap.size w w3 := by rw [← hw3]; exact hbl.setCell (p := ⟨w.heap.size + 1, 0, none⟩) (by show w.heap.size ≤ w.heap.size + 1; omega) _
    rw [hw3]
    clear hw3 hbf hbx hbl HBF HBX HBB cB
    gi_wp2_with (gi_at_call 34; refine (chunkOf_in _ _ _ _ 512 (by omega) _).mono ?_; rintro e w' ⟨rfl, rfl⟩)
    obtain ⟨g, hg⟩ : ∃ g, 1 ≤ q → ao = some ⟨g, 0, none⟩ := by
      rcases Nat.eq_zero_or_pos q with h | h
      · exact ⟨0, fun h' => by omega⟩
      · obtain ⟨g, hg⟩ := HOP.out h
        exact ⟨g, fun _ => hg⟩
    have hS1 := lt_of_heap hbx3
    have hsz3 := hbl3.size
    obtain ⟨W0, hW0⟩ : ∃ W0, (w3.alloc (.cells #[.slice ao Ln cap] 31)).alloc (.cells #[.int .i64 512] 3) = W0 := ⟨_, rfl⟩
    have hb30 : Below w3.heap.size w3 W0 := by rw [← hW0]; exact ((Below.refl _ w3).alloc (Nat.le_refl _) _).alloc (by simp) _
    have b0 : W0.heap[w3.heap.size]? = some (.cells #[.slice ao Ln cap] 31 (0, 0)) := by rw [← hW0, Below.heap_alloc _ _ _ (by simp)]; exact heap_new w3 _
    have b1 : W0.heap[w3.heap.size + 1]? = some (.cells #[.int .i64 512] 3 (0, 0)) := by
      have := heap_new (w3.alloc (.cells #[.slice ao Ln cap] 31)) (.cells #[.int .i64 512] 3)
      rw [World.size_alloc] at this
      rw [← hW0]; exact this
    have hszW0 : W0.heap.size = w3.heap.size + 2 := by rw [← hW0]; simp
    have h0 : HdI w w3.heap.size ao Ln cap [(q : Int)] W0 := ⟨hbf3.below hb30, (hb30.block _ hS1).trans hbx3, b0, b1, hbl3.trans (hb30.mono hsz3)⟩
    rw [hW0]
    clear hW0 hbf3 hbx3 hbl3 hb30
    obtain ⟨P, hP⟩ : ∃ P : Nat → Prop, P = fun k => k = w.heap.size ∨ k = w.heap.size + 1 := ⟨_, rfl⟩
    refine wpIn_rangeFunc_ownG rfl (by decide) (gf := 47) (lb := #[.pointer (some ⟨w3.heap.size, 0, none⟩), .pointer (some ⟨w3.heap.size + 1, 0, none⟩)]) rfl trivial (enters_of Tryd.func47 (by kernel_rfl) rfl)
      (chunk_stops (12 - 1) (by decide) w3.heap.size (w3.heap.size + 1) (w3.heap.size + 2) P g 0 cap 512 q Ln ao W0 b0 b1 ⟨by omega, by rw [hP]; simp only; omega⟩ ⟨by omega, by rw [hP]; simp only; omega⟩ hg (by have := HLN.out; omega) (by omega) hcap (by omega)) (fun h k => Kc.trans h k) (fun W l o o' _ hl hc _ => Kc.putObj _ _ W l o o' hl hc) (Below.refl _ _) (fun _ => rfl)
      (fun pre W => HdI w w3.heap.size ao Ln cap ([(q : Int)] ++ (pre.map fun x => sumAt f x.1).flatten) W) (fun _ _ _ => False) ?hI ?hIx ?h0
      (fun x => { tmps := #[.slice ao Ln cap, undef, .slice none 0 0, .pointer (some ⟨w.heap.size + 1, 0, none⟩), .slice (some ⟨g, x.1 * 512, none⟩) 512 512, .slice (some ⟨w.heap.size, 0, none⟩) 0 64, .slice (some ⟨w.heap.size, 0, none⟩) 0 64, .slice ao Ln cap, .int .i64 Ln, .int .i64 q, .int .u64 q, .slice a1 1 c1, .slice (some ⟨w.heap.size, 0, none⟩) 1 64, .slice ao Ln cap, .func (.func 47) #[] #[.pointer (some ⟨w3.heap.size, 0, none⟩), .pointer (some ⟨w3.heap.size + 1, 0, none⟩)], .slice (some ⟨g, x.1 * 512, none⟩) 512 512, undef, undef, undef, undef, undef, undef], defers := [] }) ?assign ?body ?done ?stop
    case hI => exact fun s A B' row hs hg' hrow => hs.turn hg' (fun r e => ⟨by have := (hrow r e).1; omega, (hrow r e).2⟩)
    case hIx => exact fun c s A B' row hs _ _ => hs
    case h0 => simpa using h0
    case assign =>
      intro l x W K hK
      gi_wp2
      exact hK
    case body =>
      rintro l pre x W hI hlt
      have hx := x.2
      obtain rfl := hg (by omega)
      have hId := hI.drew
      have hsl : (sumAt f x.1).length = 4 := sumAt_len (by have := HFL.out; omega)
      have hxl : ([(q : Int)] ++ (pre.map fun x => sumAt f x.1).flatten).length = 1 + 4 * pre.length := by rw [List.length_append, sums_len HFL.out]; rfl
      have hsrc : Bs W.drew (.slice (some ⟨g, x.1 * 512 + 508, none⟩) 4 4) (sumAt f x.1) := by
        have ho := own_below (own_mono HV.out (Nat.zero_le _)) (hId.below)
        refine ⟨range_of (((HBY.out.drop _).take _).drop _), by rw [hsl]; omega, .inr ⟨g, x.1 * 512 + 508, 4, by rw [hsl], by omega, fun j hj => ?_⟩⟩
        rw [hsl] at hj
        rw [ho.cellAt (x.1 * 512 + 508 + j) (by have := HLN.out; omega)]
        simp only [secV, List.getElem?_map, sumAt, List.getD_eq_getElem?_getD, List.getElem?_drop, List.getElem?_take, if_pos (show 508 + j < 512 by omega)]
        rw [show 512 * x.1 + (508 + j) = x.1 * 512 + 508 + j by omega, List.getElem?_eq_getElem (by rw [HFL.out]; omega)]
        rfl
      obtain ⟨W2, hrun, hbuf2, hg2⟩ := buf_append hId.buf hsrc hxl hsl (by omega) (by omega) 31
      have hfin := hId.add (by omega) hg2 hbuf2
      have cB := cell_of_row W.drew (w.heap.size + 1) 0 _ _ _ hId.bh
      have hbx2 := (hg2.block _ (lt_of_heap hId.bh) (fun e => by injection e with e; omega)).trans hId.bh
      have cB2 := cell_of_row W2 (w.heap.size + 1) 0 _ _ _ hbx2
      have fB2 := frozen_of_row W2 (w.heap.size + 1) 0 _ _ hbx2
      simp only [List.getElem?_toArray, List.getElem?_cons_zero] at cB cB2
      rw [hxl] at cB cB2
      have hlen2 : (([(q : Int)] ++ (pre.map fun x => sumAt f x.1).flatten) ++ sumAt f x.1).length = 1 + 4 * pre.length + 4 := by rw [List.length_append, hxl, hsl]
      have hfl : ([(q : Int)] ++ (pre.map fun x => sumAt f x.1).flatten) ++ sumAt f x.1 = [(q : Int)] ++ ((pre ++ [x]).map fun x => sumAt f x.1).flatten := by simp
      rw [hlen2, hfl] at hfin
      have HFIN : Hid (ownPostG W0.heap.size (Kc (w3.heap.size + 2) P) (fun pre W => HdI w w3.heap.size (some ⟨g, 0, none⟩) Ln cap ([(q : Int)] ++ (pre.map fun x => sumAt f x.1).flatten) W) (fun _ _ _ => False) (pre ++ [x]) W .normal { tmps := #[], defers := [] } (W2.setCell ⟨w.heap.size + 1, 0, none⟩ (.slice (some ⟨w.heap.size, 0, none⟩) (1 + 4 * pre.length + 4) 64))) := by
        have hkc : Kc (w3.heap.size + 2) P W.drew (W2.setCell ⟨w.heap.size + 1, 0, none⟩ (.slice (some ⟨w.heap.size, 0, none⟩) (1 + 4 * pre.length + 4) 64)) := (Kc.row hg2 (.inl (by rw [hP]; exact .inl rfl))).trans (Kc.row (grown_setCell W2 _ 0 _) (.inl (by rw [hP]; exact .inr rfl)))
        exact ⟨keepsFrom_of_drew ((keeps_row hg2 hId.buf.2).trans (KeepsOthers.setCell W2 _ _)), ⟨hkc.size, hkc.keep⟩, hfin⟩
      clear hfin hbx2 hbuf2 hg2 hsrc hI hId hfl hlen2 hxl hsl
      gi_wp2
      refine wpIn_region_any hmx ?_
      try (change wpAnyIn _ _ _ _ _ _ _ _ _ (World.drew _))
      refine wpAnyIn_ready (rs := [0, 1]) (by kernel_rfl) (by simp) ?_
      refine AllReadyIn.cons rfl (fun K hK => ?_) ?_
      · go_simp
        refine hK _ _ ?_
        clear hK K
        refine wpAnyIn_ready (rs := [1]) (by kernel_rfl) (by simp) ?_
        refine AllReadyIn.cons rfl (fun K hK => ?_) AllReadyIn.nil
        go_simp
        refine hK _ _ ?_
        clear hK K
        refine wpAnyIn_ready (rs := [2]) (by kernel_rfl) (by simp) ?_
        refine AllReadyIn.cons rfl (fun K hK => ?_) AllReadyIn.nil
        go_simp
        refine hK _ _ ?_
        clear hK K
        refine wpAnyIn_ready (rs := [3]) (by kernel_rfl) (by simp) ?_
        refine AllReadyIn.cons rfl (fun K hK => ?_) AllReadyIn.nil
        refine opIn_append (.tmp 16) (.tmp 18) 31 rfl rfl rfl hrun (hK _ _ ?_)
        clear hK K
        refine wpAnyIn_ready (rs := [4]) (by kernel_rfl) (by simp) ?_
        refine AllReadyIn.cons rfl (fun K hK => ?_) AllReadyIn.nil
        go_simp
        refine hK _ _ ?_
        clear hK K
        refine wpAnyIn_done (by kernel_rfl) ?_ _
        exact HFIN.out
      refine AllReadyIn.cons rfl (fun K hK => ?_) AllReadyIn.nil
      go_simp
      refine hK _ _ ?_
      clear hK K
      refine wpAnyIn_ready (rs := [0, 2]) (by kernel_rfl) (by simp) ?_
      refine AllReadyIn.cons rfl (fun K hK => ?_) ?_
      · go_simp
        refine hK _ _ ?_
        clear hK K
        refine wpAnyIn_ready (rs := [2]) (by kernel_rfl) (by simp) ?_
        refine AllReadyIn.cons rfl (fun K hK => ?_) AllReadyIn.nil
        go_simp
        refine hK _ _ ?_
        clear hK K
        refine wpAnyIn_ready (rs := [3]) (by kernel_rfl) (by simp) ?_
        refine AllReadyIn.cons rfl (fun K hK => ?_) AllReadyIn.nil
        refine opIn_append (.tmp 16) (.tmp 18) 31 rfl rfl rfl hrun (hK _ _ ?_)
        clear hK K
        refine wpAnyIn_ready (rs := [4]) (by kernel_rfl) (by simp) ?_
        refine AllReadyIn.cons rfl (fun K hK => ?_) AllReadyIn.nil
        go_simp
        refine hK _ _ ?_
        clear hK K
        refine wpAnyIn_done (by kernel_rfl) ?_ _
        exact HFIN.out
      refine AllReadyIn.cons rfl (fun K hK => ?_) AllReadyIn.nil
      go_simp
      refine hK _ _ ?_
      clear hK K
      refine wpAnyIn_ready (rs := [0]) (by kernel_rfl) (by simp) ?_
      refine AllReadyIn.cons rfl (fun K hK => ?_) AllReadyIn.nil
      go_simp
      refine hK _ _ ?_
      clear hK K
      refine wpAnyIn_ready (rs := [3]) (by kernel_rfl) (by simp) ?_
      refine AllReadyIn.cons rfl (fun K hK => ?_) AllReadyIn.nil
      refine opIn_append (.tmp 16) (.tmp 18) 31 rfl rfl rfl hrun (hK _ _ ?_)
      clear hK K
      refine wpAnyIn_ready (rs := [4]) (by kernel_rfl) (by simp) ?_
      refine AllReadyIn.cons rfl (fun K hK => ?_) AllReadyIn.nil
      go_simp
      refine hK _ _ ?_
      clear hK K
      refine wpAnyIn_done (by kernel_rfl) ?_ _
      exact HFIN.out
    case done =>
      rintro D ys W hD hS hI hK
      have hsum : (ys.map fun x => sumAt f x.1).flatten = sumsOf q f := by
        have : ys.map (fun x => sumAt f x.1) = (ys.map (·.1)).map (sumAt f) := by rw [List.map_map]; rfl
        rw [this, hS, sums_all f q (by have := HFL.out; omega)]
      rw [hsum] at hI
      have hL : ([(q : Int)] ++ sumsOf q f).length = 1 + 4 * q := by rw [List.length_append, sumsOf_len q f (by have := HFL.out; omega)]; rfl
      have cB := cell_of_row W (w.heap.size + 1) 0 _ _ _ hI.bh
      simp only [List.getElem?_toArray, List.getElem?_cons_zero] at cB
      rw [hL] at cB
      have HI := hid hI
      have HL := hid hL
      clear hI hL hsum hS
      gi_wp2
      have hrow : ∀ r, some D = some r → ∃ o : Obj, W.heap[r]? = some o ∧ o.isCells = false := fun r e => by cases e; exact ⟨_, hK, rfl⟩
      refine ⟨by simp, .inl ⟨_, _, rfl, run_takeDeferred hK, ?_⟩⟩
      have hend := HI.out.turn (grownBy_putObj' _ D (.deferred none)) (fun r e => ⟨by cases e; omega, hrow r e⟩)
      refine ⟨.slice (some ⟨w.heap.size, 0, none⟩) 64 64, ?_, _, rfl, ?_, hend.below⟩
      · simp [results, Tryd.f33, go_sem]
      · have hh : headOf f = ([(q : Int)] ++ sumsOf q f) ++ zeros (64 - ([(q : Int)] ++ sumsOf q f).length) := by
          unfold headOf
          rw [show f.length / 512 = q by have := HFL.out; omega, HUQ.out]
        have hll := sumsOf_len q f (by have := HFL.out; omega)
        rw [hh]
        refine ⟨by simp [secV, zeros]; omega, .inr ⟨w.heap.size, 64, _, by simp, Nat.le_refl _, hend.buf.2, by simp, by unfold maxLen; omega, ?_, ?_⟩⟩
        · simp [secV, zeros]; omega
        · rw [List.take_of_length_le (by simp [secV, zeros]; omega)]
    case stop => exact fun D c pre W _ _ hF _ => hF.elim
  clear hK0
  refine wpIn_region_any hmx ?_
  try (change wpAnyIn _ _ _ _ _ _ _ _ _ (World.drew _))
  refine wpAnyIn_ready (rs := [0, 1]) (by kernel_rfl) (by simp) ?_
  refine AllReadyIn.cons rfl (fun K hK => ?_) ?_
  · go_simp
    refine hK _ _ ?_
    clear hK K
    refine wpAnyIn_ready (rs := [1]) (by kernel_rfl) (by simp) ?_
    refine AllReadyIn.cons rfl (fun K hK => ?_) AllReadyIn.nil
    go_simp
    refine hK _ _ ?_
    clear hK K
    refine wpAnyIn_ready (rs := [2]) (by kernel_rfl) (by simp) ?_
    refine AllReadyIn.cons rfl (fun K hK => ?_) AllReadyIn.nil
    go_simp
    refine hK _ _ ?_
    clear hK K
    refine wpAnyIn_ready (rs := [3]) (by kernel_rfl) (by simp) ?_
    refine AllReadyIn.cons rfl (fun K hK => ?_) AllReadyIn.nil
    go_simp
    refine hK _ _ ?_
    clear hK K
    refine wpAnyIn_ready (rs := [4]) (by kernel_rfl) (by simp) ?_
    refine AllReadyIn.cons rfl (fun K hK => ?_) AllReadyIn.nil
    go_simp
    refine hK _ _ ?_
    clear hK K
    refine wpAnyIn_ready (rs := [5]) (by kernel_rfl) (by simp) ?_
    refine AllReadyIn.cons rfl (fun K hK => ?_) AllReadyIn.nil
    go_simp
    gi_wp2_with (gi_at_call 36; refine (callsIn_wide.2 HU.out).mono ?_; rintro e w1 ⟨v1, rfl, hown1, hb1⟩; obtain ⟨cB1, a1, c1, w2, rfl, hrun, hbuf2, hbx2, hB2, cB2, fB2⟩ := head_uv hq HBF.out HBX.out HBB.out ((Below.refl _ wB).drew.trans hb1) hown1; have HB2 := hid hB2; have HBF2 := hid hbuf2; have HBX2 := hid hbx2; clear hbuf2 hbx2 hown1 hb1 hB2)
    refine wpAnyIn_ready (rs := [6]) (by kernel_rfl) (by simp) ?_
    refine AllReadyIn.cons rfl (fun K hK => ?_) AllReadyIn.nil
    refine opIn_append (.tmp 6) (.tmp 11) 31 rfl rfl rfl hrun (hK _ _ ?_)
    clear hK K
    refine wpAnyIn_ready (rs := [7]) (by kernel_rfl) (by simp) ?_
    refine AllReadyIn.cons rfl (fun K hK => ?_) AllReadyIn.nil
    go_simp
    refine hK _ _ ?_
    clear hK K
    refine wpAnyIn_done (by kernel_rfl) ?_ _
    exact hrest.out _ _ _ HBF2.out HBX2.out HB2.out
  refine AllReadyIn.cons rfl (fun K hK => ?_) AllReadyIn.nil
  go_simp
  refine hK _ _ ?_
  clear hK K
  refine wpAnyIn_ready (rs := [0, 2]) (by kernel_rfl) (by simp) ?_
  refine AllReadyIn.cons rfl (fun K hK => ?_) ?_
  · go_simp
    refine hK _ _ ?_
    clear hK K
    refine wpAnyIn_ready (rs := [2]) (by kernel_rfl) (by simp) ?_
    refine AllReadyIn.cons rfl (fun K hK => ?_) AllReadyIn.nil
    go_simp
    refine hK _ _ ?_
    clear hK K
    refine wpAnyIn_ready (rs := [3]) (by kernel_rfl) (by simp) ?_
    refine AllReadyIn.cons rfl (fun K hK => ?_) AllReadyIn.nil
    go_simp
    refine hK _ _ ?_
    clear hK K
    refine wpAnyIn_ready (rs := [4]) (by kernel_rfl) (by simp) ?_
    refine AllReadyIn.cons rfl (fun K hK => ?_) AllReadyIn.nil
    go_simp
    refine hK _ _ ?_
    clear hK K
    refine wpAnyIn_ready (rs := [5]) (by kernel_rfl) (by simp) ?_
    refine AllReadyIn.cons rfl (fun K hK => ?_) AllReadyIn.nil
    go_simp
    gi_wp2_with (gi_at_call 36; refine (callsIn_wide.2 HU.out).mono ?_; rintro e w1 ⟨v1, rfl, hown1, hb1⟩; obtain ⟨cB1, a1, c1, w2, rfl, hrun, hbuf2, hbx2, hB2, cB2, fB2⟩ := head_uv hq HBF.out HBX.out HBB.out ((Below.refl _ wB).drew.trans hb1) hown1; have HB2 := hid hB2; have HBF2 := hid hbuf2; have HBX2 := hid hbx2; clear hbuf2 hbx2 hown1 hb1 hB2)
    refine wpAnyIn_ready (rs := [6]) (by kernel_rfl) (by simp) ?_
    refine AllReadyIn.cons rfl (fun K hK => ?_) AllReadyIn.nil
    refine opIn_append (.tmp 6) (.tmp 11) 31 rfl rfl rfl hrun (hK _ _ ?_)
    clear hK K
    refine wpAnyIn_ready (rs := [7]) (by kernel_rfl) (by simp) ?_
    refine AllReadyIn.cons rfl (fun K hK => ?_) AllReadyIn.nil
    go_simp
    refine hK _ _ ?_
    clear hK K
    refine wpAnyIn_done (by kernel_rfl) ?_ _
    exact hrest.out _ _ _ HBF2.out HBX2.out HB2.out
  refine AllReadyIn.cons rfl (fun K hK => ?_) AllReadyIn.nil
  go_simp
  refine hK _ _ ?_
  clear hK K
  refine wpAnyIn_ready (rs := [0, 3]) (by kernel_rfl) (by simp) ?_
  refine AllReadyIn.cons rfl (fun K hK => ?_) ?_
  · go_simp
    refine hK _ _ ?_
    clear hK K
    refine wpAnyIn_ready (rs := [3]) (by kernel_rfl) (by simp) ?_
    refine AllReadyIn.cons rfl (fun K hK => ?_) AllReadyIn.nil
    go_simp
    refine hK _ _ ?_
    clear hK K
    refine wpAnyIn_ready (rs := [4]) (by kernel_rfl) (by simp) ?_
    refine AllReadyIn.cons rfl (fun K hK => ?_) AllReadyIn.nil
    go_simp
    refine hK _ _ ?_
    clear hK K
    refine wpAnyIn_ready (rs := [5]) (by kernel_rfl) (by simp) ?_
    refine AllReadyIn.cons rfl (fun K hK => ?_) AllReadyIn.nil
    go_simp
    gi_wp2_with (gi_at_call 36; refine (callsIn_wide.2 HU.out).mono ?_; rintro e w1 ⟨v1, rfl, hown1, hb1⟩; obtain ⟨cB1, a1, c1, w2, rfl, hrun, hbuf2, hbx2, hB2, cB2, fB2⟩ := head_uv hq HBF.out HBX.out HBB.out ((Below.refl _ wB).drew.trans hb1) hown1; have HB2 := hid hB2; have HBF2 := hid hbuf2; have HBX2 := hid hbx2; clear hbuf2 hbx2 hown1 hb1 hB2)
    refine wpAnyIn_ready (rs := [6]) (by kernel_rfl) (by simp) ?_
    refine AllReadyIn.cons rfl (fun K hK => ?_) AllReadyIn.nil
    refine opIn_append (.tmp 6) (.tmp 11) 31 rfl rfl rfl hrun (hK _ _ ?_)
    clear hK K
    refine wpAnyIn_ready (rs := [7]) (by kernel_rfl) (by simp) ?_
    refine AllReadyIn.cons rfl (fun K hK => ?_) AllReadyIn.nil
    go_simp
    refine hK _ _ ?_
    clear hK K
    refine wpAnyIn_done (by kernel_rfl) ?_ _
    exact hrest.out _ _ _ HBF2.out HBX2.out HB2.out
  refine AllReadyIn.cons rfl (fun K hK => ?_) AllReadyIn.nil
  go_simp
  refine hK _ _ ?_
  clear hK K
  refine wpAnyIn_ready (rs := [0, 4]) (by kernel_rfl) (by simp) ?_
  refine AllReadyIn.cons rfl (fun K hK => ?_) ?_
  · go_simp
    refine hK _ _ ?_
    clear hK K
    refine wpAnyIn_ready (rs := [4]) (by kernel_rfl) (by simp) ?_
    refine AllReadyIn.cons rfl (fun K hK => ?_) AllReadyIn.nil
    go_simp
    refine hK _ _ ?_
    clear hK K
    refine wpAnyIn_ready (rs := [5]) (by kernel_rfl) (by simp) ?_
    refine AllReadyIn.cons rfl (fun K hK => ?_) AllReadyIn.nil
    go_simp
    gi_wp2_with (gi_at_call 36; refine (callsIn_wide.2 HU.out).mono ?_; rintro e w1 ⟨v1, rfl, hown1, hb1⟩; obtain ⟨cB1, a1, c1, w2, rfl, hrun, hbuf2, hbx2, hB2, cB2, fB2⟩ := head_uv hq HBF.out HBX.out HBB.out ((Below.refl _ wB).drew.trans hb1) hown1; have HB2 := hid hB2; have HBF2 := hid hbuf2; have HBX2 := hid hbx2; clear hbuf2 hbx2 hown1 hb1 hB2)
    refine wpAnyIn_ready (rs := [6]) (by kernel_rfl) (by simp) ?_
    refine AllReadyIn.cons rfl (fun K hK => ?_) AllReadyIn.nil
    refine opIn_append (.tmp 6) (.tmp 11) 31 rfl rfl rfl hrun (hK _ _ ?_)
    clear hK K
    refine wpAnyIn_ready (rs := [7]) (by kernel_rfl) (by simp) ?_
    refine AllReadyIn.cons rfl (fun K hK => ?_) AllReadyIn.nil
    go_simp
    refine hK _ _ ?_
    clear hK K
    refine wpAnyIn_done (by kernel_rfl) ?_ _
    exact hrest.out _ _ _ HBF2.out HBX2.out HB2.out
  refine AllReadyIn.cons rfl (fun K hK => ?_) AllReadyIn.nil
  go_simp
  refine hK _ _ ?_
  clear hK K
  refine wpAnyIn_ready (rs := [0, 5]) (by kernel_rfl) (by simp) ?_
  refine AllReadyIn.cons rfl (fun K hK => ?_) ?_
  · go_simp
    refine hK _ _ ?_
    clear hK K
    refine wpAnyIn_ready (rs := [5]) (by kernel_rfl) (by simp) ?_
    refine AllReadyIn.cons rfl (fun K hK => ?_) AllReadyIn.nil
    go_simp
    gi_wp2_with (gi_at_call 36; refine (callsIn_wide.2 HU.out).mono ?_; rintro e w1 ⟨v1, rfl, hown1, hb1⟩; obtain ⟨cB1, a1, c1, w2, rfl, hrun, hbuf2, hbx2, hB2, cB2, fB2⟩ := head_uv hq HBF.out HBX.out HBB.out ((Below.refl _ wB).drew.trans hb1) hown1; have HB2 := hid hB2; have HBF2 := hid hbuf2; have HBX2 := hid hbx2; clear hbuf2 hbx2 hown1 hb1 hB2)
    refine wpAnyIn_ready (rs := [6]) (by kernel_rfl) (by simp) ?_
    refine AllReadyIn.cons rfl (fun K hK => ?_) AllReadyIn.nil
    refine opIn_append (.tmp 6) (.tmp 11) 31 rfl rfl rfl hrun (hK _ _ ?_)
    clear hK K
    refine wpAnyIn_ready (rs := [7]) (by kernel_rfl) (by simp) ?_
    refine AllReadyIn.cons rfl (fun K hK => ?_) AllReadyIn.nil
    go_simp
    refine hK _ _ ?_
    clear hK K
    refine wpAnyIn_done (by kernel_rfl) ?_ _
    exact hrest.out _ _ _ HBF2.out HBX2.out HB2.out
  refine AllReadyIn.cons rfl (fun K hK => ?_) AllReadyIn.nil
  go_simp
  gi_wp2_with (gi_at_call 36; refine (callsIn_wide.2 HU.out).mono ?_; rintro e w1 ⟨v1, rfl, hown1, hb1⟩; obtain ⟨cB1, a1, c1, w2, rfl, hrun, hbuf2, hbx2, hB2, cB2, fB2⟩ := head_uv hq HBF.out HBX.out HBB.out ((Below.refl _ wB).drew.trans hb1) hown1; have HB2 := hid hB2; have HBF2 := hid hbuf2; have HBX2 := hid hbx2; clear hbuf2 hbx2 hown1 hb1 hB2)
  refine wpAnyIn_ready (rs := [0]) (by kernel_rfl) (by simp) ?_
  refine AllReadyIn.cons rfl (fun K hK => ?_) AllReadyIn.nil
  go_simp
  refine hK _ _ ?_
  clear hK K
  refine wpAnyIn_ready (rs := [6]) (by kernel_rfl) (by simp) ?_
  refine AllReadyIn.cons rfl (fun K hK => ?_) AllReadyIn.nil
  refine opIn_append (.tmp 6) (.tmp 11) 31 rfl rfl rfl hrun (hK _ _ ?_)
  clear hK K
  refine wpAnyIn_ready (rs := [7]) (by kernel_rfl) (by simp) ?_
  refine AllReadyIn.cons rfl (fun K hK => ?_) AllReadyIn.nil
  go_simp
  refine hK _ _ ?_
  clear hK K
  refine wpAnyIn_done (by kernel_rfl) ?_ _
  exact hrest.out _ _ _ HBF2.out HBX2.out HB2.out
theorem head_any {w : World} {q : Nat} {v : Value} {f : List Int} (hv : w.ownsRow 0 5 1 v (512 * q) (secV f)) (hby : By f) (hq : q ≤ 8) :
    Calls Tryd.prog 33 #[v] w fun e w' => ∃ v', e = .returned v' ∧ w'.ownsRow w.heap.size 5 1 v' 64 (secV (headOf f)) ∧ Below w.heap.size w w' := callsIn_wide.1 (head_in hv hby hq)
end Go.Proofs.YtafopokcfkgjiaaDoor
