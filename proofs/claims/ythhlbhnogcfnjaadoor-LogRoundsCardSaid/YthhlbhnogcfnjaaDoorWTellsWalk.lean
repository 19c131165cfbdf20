/-
  Layer 4: told, walked.
-/
import Derived.Test.YthhlbhnogcfnjaaDoorWTells
import Derived.Deep.RegionHeld3
namespace Go.Proofs.YthhlbhnogcfnjaaDoor
open Go.RowKit Go.Shelf

attribute [local go_sem] Oper.semAt_some

theorem bytesOf_len (pre : List Rc) : (bytesOf pre).length = pre.length := by simp [bytesOf]

/-- An append whose run is known, within a fence. -/
theorem wpListIn_append_run {F : Fence} {n : Nat} {P : Program} {w w' : World} {ops : Array Oper} {rest : List Oper} {o : Oper} {a : Act} {Q : Exit → Act → World → Prop}
    (hg : o.guard = none) (s x : Operand) (t : TypeId) (hop : o.op = Op.call { callee := Callee.builtin Builtin.append, args := #[s, x], argTypes := #[t, t] }) {v u v' : Value} (hs : a.eval s = v) (hx : a.eval x = u)
    (hrun : (Builtin.append_ #[t, t] o.type #[v, u]).run P w = .ok v' w') (hK : wpListIn F n P ops Q rest (a.put o.dst v') w') : wpListIn F n P ops Q (o :: rest) a w := by
  refine wpListIn_plain hg fun K hK' => ?_
  unfold Oper.wpIn
  refine ⟨?_, ?_⟩
  · simp [Oper.about, hop, resolve, Target.leads, Sem.run_pure]
  · rw [Oper.semAt_plain F _ _ (by rw [hop]; intro c hc'; cases hc')]
    simp [execOp, hop, resolve, invoke, builtin, hs, hx, hrun, Result.andThen]
    exact hK' _ _ hK

set_option maxRecDepth 100000 in
set_option maxHeartbeats 4000000 in
theorem tells_in {w : World} {base L B n at' sc : Nat} {d : Dk} {g : Lg} (h : LogIs w base L B n at' sc d g) :
    CallsIn Fence.wide 12 Tryd.prog 12 #[.pointer (some ⟨L, 0, none⟩)] w fun e w' => ∃ ao cap, e = .returned (.tuple #[.slice ao g.recs.length cap, .bool true]) ∧ StrRow w' w.heap.size (.slice ao g.recs.length cap) g.recs ∧ LogIs w' base L B n at' sc d g ∧ Below w.heap.size w w' := by
  have hfn : ∀ k, Fence.wide.fn k := fun _ => trivial
  have hnum := h.2.2.2.1
  obtain ⟨W0, hW0⟩ : ∃ W0, w.alloc (.cells #[.slice none 0 0] 38) = W0 := ⟨_, rfl⟩
  obtain ⟨W1, hW1⟩ : ∃ W1, W0.alloc (.cells #[.bool false] 4) = W1 := ⟨_, rfl⟩
  obtain ⟨W2, hW2⟩ : ∃ W2, W1.alloc (.cells #[.slice none 0 0] 38) = W2 := ⟨_, rfl⟩
  obtain ⟨W3, hW3⟩ : ∃ W3, W2.alloc (.cells #[.int .u64 (g.first : Int)] 29) = W3 := ⟨_, rfl⟩
  have s0 : W0.heap.size = w.heap.size + 1 := by rw [← hW0]; simp
  have s1 : W1.heap.size = w.heap.size + 2 := by rw [← hW1]; simp [s0]
  have s2 : W2.heap.size = w.heap.size + 3 := by rw [← hW2]; simp [s1]
  have s3 : W3.heap.size = w.heap.size + 4 := by rw [← hW3]; simp [s2]
  have hb0 : Below w.heap.size w W0 := by rw [← hW0]; exact (Below.refl _ w).alloc (Nat.le_refl _) _
  have hb1 : Below W0.heap.size W0 W1 := by rw [← hW1]; exact (Below.refl _ _).alloc (Nat.le_refl _) _
  have hb2 : Below W1.heap.size W1 W2 := by rw [← hW2]; exact (Below.refl _ _).alloc (Nat.le_refl _) _
  have hb3 : Below W2.heap.size W2 W3 := by rw [← hW3]; exact (Below.refl _ _).alloc (Nat.le_refl _) _
  have x0 : W0.heap[w.heap.size]? = some (.cells #[.slice none 0 0] 38 (0, 0)) := by rw [← hW0]; exact heap_new w _
  have x1 : W1.heap[w.heap.size + 1]? = some (.cells #[.bool false] 4 (0, 0)) := by rw [← hW1, ← s0]; exact heap_new W0 _
  have x2 : W2.heap[w.heap.size + 2]? = some (.cells #[.slice none 0 0] 38 (0, 0)) := by rw [← hW2, ← s1]; exact heap_new W1 _
  have x3 : W3.heap[w.heap.size + 3]? = some (.cells #[.int .u64 (g.first : Int)] 29 (0, 0)) := by rw [← hW3, ← s2]; exact heap_new W2 _
  have b02 : Below w.heap.size w W2 := (hb0.trans (hb1.mono (by omega))).trans (hb2.mono (by omega))
  have b03 : Below w.heap.size w W3 := b02.trans (hb3.mono (by omega))
  have hl2 := h.below b02
  have hl3 := h.below b03
  have HF := hid (lfirst_any hl2)
  have hal : Calls Tryd.prog 32 #[.pointer (some ⟨L, 0, none⟩)] W3 fun e w6 => ∃ Bx, e = .returned (.func (.func 49) #[] #[.pointer (some ⟨Bx, 0, none⟩)]) ∧ Hid (∃ Br Bf us ra rc gr cr, RecsAt w6 (tellT (w.heap.size + 3)) Bx Br Bf g.first g.recs us ra rc gr cr) ∧ Hid (TsI w base L B n at' sc d g (w.heap.size + 2) (w.heap.size + 3) [] w6) := by
    obtain ⟨ra, rc, ta, tc, hh, _⟩ := hl3.form
    refine (all_any hl3 hh).mono ?_
    rintro e w6 ⟨Bx, Br, Bf, rfl, h1, h2, h3, h4, h5, h6, hb6⟩
    obtain ⟨us, gr, cr, hR⟩ := hl3.recsAt hh hb6 h1 h2 h3 (P := tellT (w.heap.size + 3)) (fun k => by unfold tellT; constructor <;> (rintro (⟨_, e⟩ | e | e) <;> cases e)) (by unfold tellT; rintro (⟨e, _⟩ | e | e) <;> first | omega | cases e) (fun k => by unfold tellT; rintro (⟨_, e⟩ | e | e) <;> cases e)
    refine ⟨Bx, rfl, ⟨Br, Bf, us, ra, rc, gr, cr, hR⟩, ⟨?_, ?_, ⟨none, 0, ?_, ?_⟩, ?_, hl3.below hb6, b03.trans (hb6.mono (by omega))⟩⟩
    · exact (hb6.block _ (by omega)).trans ((hb3.block _ (by omega)).trans ((hb2.block _ (by omega)).trans ((hb1.block _ (by omega)).trans x0)))
    · exact (hb6.block _ (by omega)).trans ((hb3.block _ (by omega)).trans ((hb2.block _ (by omega)).trans x1))
    · exact (hb6.block _ (by omega)).trans ((hb3.block _ (by omega)).trans x2)
    · exact ⟨rfl, .inl ⟨rfl, rfl⟩⟩
    · exact (hb6.block _ (by omega)).trans x3
  have HAL := hid hal
  refine callsIn_of_wp_marks Tryd.func12 rfl trivial ?_ rfl
  simp only [Tryd.ntmps12, List.size_toArray, List.length_cons, List.length_nil, Nat.reduceAdd, Nat.reduceSub, Array.replicate_succ, Array.replicate_zero, List.push_toArray, List.append_toArray, List.nil_append, List.cons_append]
  have hmx : Tryd.prog.follows .mixedOrders = true := by kernel_rfl
  clear h hal hl2 hl3 hb0 hb1 hb2 hb3 x0 x1 x2 x3 b02 b03
  refine wpIn_wide.2 ?_
  go_wp2_with (first
    | (go_at_call 9; refine HF.out.mono ?_; rintro e w2 ⟨rfl, hw⟩; have hw' := hw.symm; clear hw HF; subst hw')
    | (go_at_call 32; refine HAL.out.mono ?_; rintro e w6 ⟨Bx, rfl, hRR, hAW⟩; clear HAL))
  obtain ⟨Br, Bf, us, ra, rc, gr, cr, hRec⟩ := hRR.out
  have hT0 := hAW.out
  clear hRR hAW
  refine (wpIn_wide (n := 12)).1 (range_far rfl (by decide) (gf := 49) (lb := #[.pointer (some ⟨Bx, 0, none⟩)]) rfl trivial (enters_of Tryd.func49 (by kernel_rfl) rfl)
    (all_hands (12 - 1) (by decide) Bx Br Bf g.first 0 (tellT (w.heap.size + 3)) g.recs us ra rc gr cr w6 hRec (Nat.zero_le _) (by omega) (by omega)) (fun h k => Kt.trans h k) (fun V o o' hq ho => Kt.putObj _ V _ o o' hq ho) (fun pre x V q o o' hy hq ho => ⟨hy.1.putObj q o o' hq ho, hy.2⟩) (fun _ => rfl)
    (fun pre V => TsI w base L B n at' sc d g (w.heap.size + 2) (w.heap.size + 3) (bytesOf pre) V) (fun _ _ _ => False) (fun pre A B' row hs hg' hrow => hs.turn hg' (fun r e => ⟨by have := (hrow r e).1; have := hT0.below.size; omega, (hrow r e).2⟩)) (fun _ _ _ _ _ h => h.elim) hT0 ?a1 ?assign ?body ?done ?stop)
  case assign =>
    intro q x V K hK
    gi_wp2
    exact hK
  case stop => exact fun _ _ _ _ _ _ h => h.elim
  case body =>
    rintro q pre ⟨k, v, r⟩ V hI ⟨hN, hk, hr⟩
    dsimp only at hN hk hr
    have hlt := (List.getElem?_eq_some_iff.1 hr).1
    have hcv := hN.1.conv
    obtain ⟨ao0, cap0, ao, cap, w', hc0, hcn, hrun, hc1, hf1, hc2, hf2, hI', hKt, hKO⟩ := hI.step (by omega) (by rw [bytesOf_len]; omega) r
    rw [bytesOf_len] at hc0 hcn hrun hc1 hc2 hf2 hI' hKt hKO
    rw [← hk] at hcn hc2 hI' hKt hKO
    have hkb : (k : Int) ≤ 6000000000000000000 := by omega
    have HK := hid (And.intro hI' (And.intro hKt hKO))
    have HR := hid hrun
    obtain ⟨S, hS⟩ : ∃ S, S = strOfNums r := ⟨_, rfl⟩
    rw [← hS] at hcv HR
    clear hI hN hr hlt hI' hKt hKO hrun hk hS
    gi_wp2_with (gi_at_builtin; refine wpListIn_append_run rfl (.tmp 17) (.tmp 20) 38 rfl rfl rfl HR.out ?_)
    obtain ⟨hI', hKt, hKO⟩ := HK.out
    exact ⟨hKO.from _, hKt, by simpa [bytesOf] using hI'⟩
  case done =>
    rintro D xs V hD hS hI hK
    rw [show bytesOf xs = g.recs from hS] at hI
    obtain ⟨ao, cap, hO, hSR⟩ := hI.out
    have hlt6 : w.heap.size + 4 ≤ w6.heap.size := by have := hT0.below.size; have := lt_of_heap hT0.cnt; omega
    obtain ⟨N, hNN⟩ : ∃ N, g.recs.length = N := ⟨_, rfl⟩
    obtain ⟨KN, hKN⟩ : ∃ K, g.first + N = K := ⟨_, rfl⟩
    have hcnt := hI.cnt
    rw [hNN] at hO hSR hcnt
    rw [hKN] at hcnt
    have hgen : ∀ W : World, Below V.heap.size V W → W.cell? ⟨w.heap.size + 2, 0, none⟩ = some (.slice ao N cap) ∧ W.cell? ⟨w.heap.size + 3, 0, none⟩ = some (.int .u64 (KN : Int)) ∧ W.cell? ⟨w.heap.size, 0, none⟩ = some (.slice none 0 0) ∧ W.frozen? ⟨w.heap.size, 0, none⟩ = false ∧ W.cell? ⟨w.heap.size + 1, 0, none⟩ = some (.bool false) ∧ W.frozen? ⟨w.heap.size + 1, 0, none⟩ = false := fun W hW => by
      have h1 := (hW.block _ (lt_of_heap hO)).trans hO
      have h2 := (hW.block _ (lt_of_heap hcnt)).trans hcnt
      have h3 := (hW.block _ (lt_of_heap hI.r0)).trans hI.r0
      have h4 := (hW.block _ (lt_of_heap hI.r1)).trans hI.r1
      exact ⟨by simpa using cell_of_row W _ 0 _ _ _ h1, by simpa using cell_of_row W _ 0 _ _ _ h2, by simpa using cell_of_row W _ 0 _ _ _ h3, frozen_of_row W _ 0 _ _ h3, by simpa using cell_of_row W _ 0 _ _ _ h4, frozen_of_row W _ 0 _ _ h4⟩
    have hfin : ∀ W : World, Below V.heap.size V W → ((W.setCell ⟨w.heap.size, 0, none⟩ (.slice ao N cap)).setCell ⟨w.heap.size + 1, 0, none⟩ (.bool true)).heap[D]? = some (.deferred (some [])) ∧
        (((W.setCell ⟨w.heap.size, 0, none⟩ (.slice ao N cap)).setCell ⟨w.heap.size + 1, 0, none⟩ (.bool true)).putObj D (.deferred none)).cell? ⟨w.heap.size, 0, none⟩ = some (.slice ao N cap) ∧
        (((W.setCell ⟨w.heap.size, 0, none⟩ (.slice ao N cap)).setCell ⟨w.heap.size + 1, 0, none⟩ (.bool true)).putObj D (.deferred none)).cell? ⟨w.heap.size + 1, 0, none⟩ = some (.bool true) ∧
        StrRow (((W.setCell ⟨w.heap.size, 0, none⟩ (.slice ao N cap)).setCell ⟨w.heap.size + 1, 0, none⟩ (.bool true)).putObj D (.deferred none)) w.heap.size (.slice ao N cap) g.recs ∧
        LogIs (((W.setCell ⟨w.heap.size, 0, none⟩ (.slice ao N cap)).setCell ⟨w.heap.size + 1, 0, none⟩ (.bool true)).putObj D (.deferred none)) base L B n at' sc d g ∧
        Below w.heap.size w (((W.setCell ⟨w.heap.size, 0, none⟩ (.slice ao N cap)).setCell ⟨w.heap.size + 1, 0, none⟩ (.bool true)).putObj D (.deferred none)) := fun W hW => by
      have h3 := (hW.block _ (lt_of_heap hI.r0)).trans hI.r0
      have h4 := (hW.block _ (lt_of_heap hI.r1)).trans hI.r1
      have h5 : W.heap[D]? = some (.deferred (some [])) := (hW.block _ (lt_of_heap hK)).trans hK
      obtain ⟨W', hW'⟩ : ∃ W', W' = W.setCell ⟨w.heap.size, 0, none⟩ (.slice ao N cap) := ⟨_, rfl⟩
      obtain ⟨W'', hW''⟩ : ∃ W'', W'' = W'.setCell ⟨w.heap.size + 1, 0, none⟩ (.bool true) := ⟨_, rfl⟩
      rw [← hW', ← hW'']
      have f1 : ∀ k, k ≠ w.heap.size → W'.heap[k]? = W.heap[k]? := fun k hk => by rw [hW']; exact Below.heap_setCell W ⟨w.heap.size, 0, none⟩ _ k hk
      have f2 : ∀ k, k ≠ w.heap.size + 1 → W''.heap[k]? = W'.heap[k]? := fun k hk => by rw [hW'']; exact Below.heap_setCell W' ⟨w.heap.size + 1, 0, none⟩ _ k hk
      have g0 : W'.heap[w.heap.size]? = some (.cells #[.slice ao N cap] 38 (0, 0)) := by rw [hW']; exact box_set h3
      have g1 : W'.heap[w.heap.size + 1]? = some (.cells #[.bool false] 4 (0, 0)) := (f1 _ (by omega)).trans h4
      have g2 : W''.heap[w.heap.size + 1]? = some (.cells #[.bool true] 4 (0, 0)) := by rw [hW'']; exact box_set g1
      have g3 : W''.heap[w.heap.size]? = some (.cells #[.slice ao N cap] 38 (0, 0)) := (f2 _ (by omega)).trans g0
      have g5 : W''.heap[D]? = some (.deferred (some [])) := (f2 _ (by omega)).trans ((f1 _ (by omega)).trans h5)
      have hrow : ∀ r, some D = some r → ∃ o : Obj, W''.heap[r]? = some o ∧ o.isCells = false := fun r e => by cases e; exact ⟨_, g5, rfl⟩
      have c6 := cell_kept (o := 0) g3 (grownBy_putObj' _ D (.deferred none)) hrow
      have c7 := cell_kept (o := 0) g2 (grownBy_putObj' _ D (.deferred none)) hrow
      have key := turn_cells (grownBy_putObj' W'' D (.deferred none)) hrow
      have hb : Below w.heap.size w W'' := by
        rw [hW'', hW']
        exact ((hI.below.trans (hW.mono hI.below.size)).setCell (p := ⟨w.heap.size, 0, none⟩) (Nat.le_refl _) _).setCell (p := ⟨w.heap.size + 1, 0, none⟩) (Nat.le_succ _) _
      refine ⟨g5, by simpa using c6, by simpa using c7, ?_, ?_, hb.grown (grownBy_putObj' _ D (.deferred none)) hb.size (fun k e => by cases e; omega)⟩
      · have s1' : StrRow W' w.heap.size (.slice ao N cap) g.recs := (hSR.below hW).same fun k c hc => f1 k (ty_ne hc h3 (by decide))
        have s2' : StrRow W'' w.heap.size (.slice ao N cap) g.recs := s1'.same fun k c hc => f2 k (ty_ne hc g1 (by decide))
        exact s2'.same fun k c hc => key k _ _ _ hc
      · refine LogIs.cells ?_ key
        rw [hW'']
        refine LogIs.box ?_ g1 nl_bool _
        rw [hW']
        exact (hI.log.below hW).box h3 nl_strs _
    obtain ⟨cO, cN, cr0, fr0, cr1, fr1⟩ := hgen V (Below.refl _ V)
    have HNX := hid (lnext_any (hI.log.below (Below.refl _ V).drew))
    rw [hNN, hKN] at HNX
    have HG := hid hgen
    have HFI := hid hfin
    clear hgen hfin hI hK hS hO hSR hcnt hRec hT0
    have HFAR := hid (show ∀ (W : World) (c b i : Nat) (u : Value), b ≠ c → (W.setCell ⟨c, 0, none⟩ u).cell? ⟨b, i, none⟩ = W.cell? ⟨b, i, none⟩ from fun W c b i u hb => by
      have := Below.heap_setCell W ⟨c, 0, none⟩ u b hb
      simp only [World.cell?, this])
    go_wp2
    go_region_held3 (fun w' => w'.cell? ⟨w.heap.size + 2, 0, none⟩ = some (.slice ao N cap) ∧ w'.cell? ⟨w.heap.size + 3, 0, none⟩ = some (.int .u64 (KN : Int))) (first | exact ⟨cO, cN⟩ | exact HCK.out | exact HCL.out | exact HCM.out) (first | (go_at_call 13; refine HNX.out.mono ?_; rintro e w7 ⟨rfl, q, hw⟩; have HB7 := hid (show Below V.heap.size V w7 by rw [hw]; exact below_drewN (Below.refl _ V).drew q); obtain ⟨dO, dN, dr0, df0, dr1, df1⟩ := HG.out w7 HB7.out; have HCK := hid (And.intro dO dN); have HCL := hid (show (w7.setCell ⟨w.heap.size, 0, none⟩ (.slice ao N cap)).cell? ⟨w.heap.size + 2, 0, none⟩ = some (.slice ao N cap) ∧ (w7.setCell ⟨w.heap.size, 0, none⟩ (.slice ao N cap)).cell? ⟨w.heap.size + 3, 0, none⟩ = some (.int .u64 (KN : Int)) from ⟨(HFAR.out _ _ _ _ _ (by omega)).trans dO, (HFAR.out _ _ _ _ _ (by omega)).trans dN⟩); have HCM := hid (show ((w7.setCell ⟨w.heap.size, 0, none⟩ (.slice ao N cap)).setCell ⟨w.heap.size + 1, 0, none⟩ (.bool true)).cell? ⟨w.heap.size + 2, 0, none⟩ = some (.slice ao N cap) ∧ ((w7.setCell ⟨w.heap.size, 0, none⟩ (.slice ao N cap)).setCell ⟨w.heap.size + 1, 0, none⟩ (.bool true)).cell? ⟨w.heap.size + 3, 0, none⟩ = some (.int .u64 (KN : Int)) from ⟨(HFAR.out _ _ _ _ _ (by omega)).trans HCL.out.1, (HFAR.out _ _ _ _ _ (by omega)).trans HCL.out.2⟩); clear hw))
    go_wp2
    obtain ⟨hK', e0, e1, hS', hL', hB'⟩ := HFI.out w7 HB7.out
    refine ⟨by simp, .inl ⟨_, _, rfl, run_takeDeferred hK', ?_⟩⟩
    refine ⟨.tuple #[.slice ao N cap, .bool true], ?_, ao, cap, by rw [hNN], by rw [hNN]; exact hS', hL', hB'⟩
    simp [results, Tryd.f12, go_sem, e0, e1]
theorem tells_any {w : World} {base L B n at' sc : Nat} {d : Dk} {g : Lg} (h : LogIs w base L B n at' sc d g) :
    Calls Tryd.prog 12 #[.pointer (some ⟨L, 0, none⟩)] w fun e w' => ∃ ao cap, e = .returned (.tuple #[.slice ao g.recs.length cap, .bool true]) ∧ StrRow w' w.heap.size (.slice ao g.recs.length cap) g.recs ∧ LogIs w' base L B n at' sc d g ∧ Below w.heap.size w w' := callsIn_wide.1 (tells_in h)
end Go.Proofs.YthhlbhnogcfnjaaDoor
