/-
  Layer 4: what the document fixes (awake).
-/
import Derived.Test.YthhlbhnogcfnjaaDoorMG
import Derived.Test.YthhlbhnogcfnjaaDoorWAppend
import Derived.Test.YthhlbhnogcfnjaaDoorWAll
import Derived.Test.YthhlbhnogcfnjaaDoorMB
namespace Go.Proofs.YthhlbhnogcfnjaaDoor
open Go.RowKit Go.Shelf

attribute [local go_sem] Oper.semAt_some

theorem LogIs.ofT {w w' : World} {base L B n at' sc : Nat} {d : Dk} {g : Lg} (h : LogIs w base L B n at' sc d g) (hk : ∀ (k : Nat) (c : Array Value) (t : TypeId) (f : Nat × Nat), w.heap[k]? = some (Obj.cells c t f) → logT t → w'.heap[k]? = w.heap[k]?) : LogIs w' base L B n at' sc d g := by
  obtain ⟨hd, hL, hs, hn, hby, rv, tv, hh, ht, hr⟩ := h
  refine ⟨hd.same fun k c t f hk' ht' => hk k c t f hk' (.inl ht'), hL, hs, hn, hby, rv, tv, (hk L _ _ _ hh (.inr (.inl rfl))).trans hh, own_same ht fun k e => ?_, hr.all fun k c t hc h2 => hk k c t _ hc ?_⟩
  · obtain ⟨c, hc⟩ := own_heap ht e
    exact hk k _ _ _ hc (.inr (.inr (.inl rfl)))
  · rcases h2 with rfl | rfl
    · exact .inr (.inr (.inl rfl))
    · exact .inr (.inr (.inr rfl))
theorem LogIs.box {w : World} {base L B n at' sc : Nat} {d : Dk} {g : Lg} (h : LogIs w base L B n at' sc d g) {b o : Nat} {c : Array Value} {t : TypeId} {f : Nat × Nat} (hb : w.heap[b]? = some (.cells c t f)) (ht : ¬ logT t) (v : Value) : LogIs (w.setCell ⟨b, o, none⟩ v) base L B n at' sc d g :=
  h.ofT fun k c' t' f' hk hd => Below.heap_setCell w ⟨b, o, none⟩ v k (fun e => by
    have e' : k = b := e
    subst e'
    rw [hb] at hk
    injection hk with e1
    injection e1 with _ e2 _
    exact ht (e2 ▸ hd))
theorem nl_int : ¬ logT 3 := by unfold logT diskT; decide
theorem nl_bool : ¬ logT 4 := by unfold logT diskT; decide
/-- The Log's records, as All tells of them. -/
theorem LogIs.recsAt {w w' : World} {base L B n at' sc : Nat} {d : Dk} {g : Lg} (h : LogIs w base L B n at' sc d g) {ra : Option Addr} {rc : Nat} {ta : Option Addr} {tc : Nat} (hf : w.heap[L]? = some (.cells #[.pointer (some ⟨B, 0, none⟩), .int .i64 at', .int .i64 sc, .int .u64 g.first, .slice ra g.recs.length rc, .int .u64 g.start, .int .u64 g.stop, .int .u64 g.flushed, .slice ta g.tail.length tc] 50 (0, 0)))
    (hb : Below w.heap.size w w') {Bx Br Bf : Nat} (h1 : w'.heap[Bx]? = some (.cells #[.func (.func 43) #[] #[.pointer (some ⟨Br, 0, none⟩), .pointer (some ⟨Bf, 0, none⟩)]] 55 (0, 0))) (h2 : w'.heap[Br]? = some (.cells #[.slice ra g.recs.length rc] 48 (0, 0))) (h3 : w'.heap[Bf]? = some (.cells #[.int .u64 g.first] 29 (0, 0)))
    {P : Nat → TypeId → Prop} (hp1 : ∀ k, ¬ P k 5 ∧ ¬ P k 80) (hp2 : ¬ P Bf 29) (hp3 : ∀ k, ¬ P k 32) : ∃ us gr cr, RecsAt w' P Bx Br Bf g.first g.recs us ra rc gr cr := by
  obtain ⟨hd, hL, hs, hn, hby, rv, tv, hh, ht, hr⟩ := h
  obtain ⟨e4, _⟩ : rv = .slice ra g.recs.length rc ∧ True := by
    rw [hf] at hh
    injection hh with e
    injection e with e _ _
    simp at e
    exact ⟨e.1.symm, trivial⟩
  subst e4
  obtain ⟨us, hl, hrow, heach⟩ := hr
  have hel : ∀ (k : Nat) (r : List Int) (u : Value), g.recs[k]? = some r → us[k]? = some u → NewBs 0 w' u r := fun k r u h4 h5 => by
    obtain ⟨hb4, hx4⟩ := heach k r u h4 h5
    exact NewBs.below ⟨hb4, fun b e => ⟨Nat.zero_le _, (hx4 b e).2.2⟩⟩ hb
  rcases hrow.2 with ⟨e, h0⟩ | ⟨gr, cap, cur, e, hg0, hgh, hc1, hc2, hc3, hc4⟩
  · exact ⟨us, 0, #[], h1, by rw [hl]; exact h2, h3, hp2, fun hx => by omega, hl, hel, hp1⟩
  · injection e with e1 _ e3
    subst e1 e3
    refine ⟨us, gr, cur, h1, by rw [hl]; exact h2, h3, hp2, fun _ => ⟨rfl, hp3 _, (hb.block gr (lt_of_heap hgh)).trans hgh, fun k hk => ?_⟩, hl, hel, hp1⟩
    rw [← hc4, List.getElem?_take, if_pos (by omega)]
    simp

/-- Between two rounds of awake's loop. -/
structure AwI (w : World) (base L B Bk : Nat) (d : Dk) (g : Lg) (n : Nat) (W : World) : Prop where
  b0 : W.heap[w.heap.size]? = some (.cells #[.bool false] 4 (0, 0))
  bk : W.heap[Bk]? = some (.cells #[.int .i64 n] 3 (0, 0))
  log : LogIs W base L B 40 4 32 d g
  below : Below w.heap.size w W
theorem AwI.turn {w W W' : World} {base L B Bk : Nat} {d : Dk} {g : Lg} {n : Nat} {row : Option Nat} (h : AwI w base L B Bk d g n W) (hg : W.grownBy W' row) (hr : ∀ r, row = some r → w.heap.size ≤ r ∧ ∃ o : Obj, W.heap[r]? = some o ∧ o.isCells = false) : AwI w base L B Bk d g n W' := by
  have key := turn_cells hg (fun r e => (hr r e).2)
  exact ⟨(key _ _ _ _ h.b0).trans h.b0, (key _ _ _ _ h.bk).trans h.bk, h.log.cells key, h.below.grown hg h.below.size (fun k e => (hr k e).1)⟩

set_option maxRecDepth 100000 in
set_option maxHeartbeats 4000000 in
theorem lawake_in (w : World) (ht : TabOk w) :
    CallsIn Fence.wide 12 Tryd.prog 14 #[] w fun e w' => e = .returned (.bool true) ∧ Below w.heap.size w w' := by
  have hfn : ∀ k, Fence.wide.fn k := fun _ => trivial
  obtain ⟨W0, hW0⟩ : ∃ W0, w.alloc (.cells #[.bool false] 4) = W0 := ⟨_, rfl⟩
  have hb0 : Below w.heap.size w W0 := by rw [← hW0]; exact (Below.refl _ w).alloc (Nat.le_refl _) _
  have hs0 : W0.heap.size = w.heap.size + 1 := by rw [← hW0]; simp
  have hx0 : W0.heap[w.heap.size]? = some (.cells #[.bool false] 4 (0, 0)) := by rw [← hW0]; exact heap_new w _
  have ht0 : TabOk W0 := ht.below hb0 (Nat.le_refl _)
  have hg := ht0.lt
  have HNW := hid (new_any 40 W0 (by omega))
  have HT0 := hid ht0
  have HW0 := hid hW0
  have hsame := conv_same
  have hap : ∀ (w2 : World) (L B : Nat), LogIs w2 W0.heap.size L B 40 4 32 (Dk.new 40).flush Lg.fresh → Below W0.heap.size W0 w2 → Calls Tryd.prog 6 #[.pointer (some ⟨L, 0, none⟩), .slice (some ⟨w2.heap.size, 0, none⟩) 1 1] (w2.alloc (.cells #[.int .u8 97] 5 (1, 2))) fun e w' => e = .returned (.tuple #[.int .u64 1, .int .i64 0]) ∧ LogIs w' W0.heap.size L B 40 4 32 (Dk.new 40).flush (Lg.fresh.add [97]) ∧ Below W0.heap.size W0 w' := fun w2 L B hl2 hb2 => by
    have hbA : Below w2.heap.size w2 (w2.alloc (.cells #[.int .u8 97] 5 (1, 2))) := (Below.refl _ _).alloc (Nat.le_refl _) _
    have hA := heap_new w2 (.cells #[.int .u8 97] 5 (1, 2))
    have hbs : ArgBs w2.heap.size (w2.alloc (.cells #[.int .u8 97] 5 (1, 2))) (.slice (some ⟨w2.heap.size, 0, none⟩) 1 1) [97] := by
      refine ⟨⟨range_of (by simp), by simp, .inr ⟨w2.heap.size, 0, 1, rfl, by simp, fun j hj => ?_⟩⟩, fun b e => ?_⟩
      · obtain rfl : j = 0 := by simpa using hj
        rw [Nat.zero_add, cell_of_row _ _ _ _ _ _ hA]
        rfl
      · simp only [Value.ownBlock, Option.some.injEq] at e
        subst e
        exact ⟨Nat.le_refl _, lt_of_heap hA⟩
    refine (append_any hl2 hbA (by simp [Dk.new, Dk.flush, burn]) (HT0.out.base (hb2.trans (hbA.mono hb2.size)) (by omega)) (by omega) hbs (by simp) (by simp [Lg.fresh]) (by simp [Lg.fresh]) (by simp [Lg.fresh]) (by simp [Lg.fresh]) (by simp [Lg.fresh]) (by simp [Lg.fresh])).mono ?_
    rintro e w' ⟨rfl, hl', hk'⟩
    exact ⟨rfl, hl', (hb2.trans (hbA.mono hb2.size)).trans hk'.below⟩
  have HAP := hid hap
  have hal : ∀ (w4 : World) (L B : Nat), LogIs w4 W0.heap.size L B 40 4 32 (Dk.new 40).flush (Lg.fresh.add [97]) → Below W0.heap.size W0 w4 → Calls Tryd.prog 32 #[.pointer (some ⟨L, 0, none⟩)] (w4.alloc (.cells #[.int .i64 0] 3)) fun e w6 => ∃ Bx, e = .returned (.func (.func 49) #[] #[.pointer (some ⟨Bx, 0, none⟩)]) ∧ Hid (∃ Br Bf us ra rc gr cr, RecsAt w6 (fun _ t => t = 3) Bx Br Bf 1 [[97]] us ra rc gr cr) ∧ Hid (AwI w W0.heap.size L B w4.heap.size (Dk.new 40).flush (Lg.fresh.add [97]) 0 w6) := fun w4 L B hl4 hb4 => by
    have hbK : Below w4.heap.size w4 (w4.alloc (.cells #[.int .i64 0] 3)) := (Below.refl _ _).alloc (Nat.le_refl _) _
    have hK := heap_new w4 (.cells #[.int .i64 0] 3)
    have hl5 := hl4.below hbK
    obtain ⟨ra, rc, ta, tc, hh, _⟩ := hl5.form
    refine (all_any hl5 hh).mono ?_
    rintro e w6 ⟨Bx, Br, Bf, rfl, h1, h2, h3, h4, h5, h6, hb6⟩
    obtain ⟨us, gr, cr, hR⟩ := hl5.recsAt hh hb6 h1 h2 h3 (P := fun _ t => t = 3) (fun k => ⟨by decide, by decide⟩) (by decide) (fun k => by decide)
    have hb46 : Below W0.heap.size W0 w6 := (hb4.trans (hbK.mono hb4.size)).trans (hb6.mono (Nat.le_trans hb4.size hbK.size))
    refine ⟨Bx, rfl, ⟨Br, Bf, us, ra, rc, gr, cr, hR⟩, ⟨(hb46.block _ (lt_of_heap hx0)).trans hx0, (hb6.block _ (lt_of_heap hK)).trans hK, hl5.below hb6, ?_⟩⟩
    exact hb0.trans (hb46.mono hb0.size)
  have HAL := hid hal
  refine callsIn_of_wp_marks Tryd.func14 rfl trivial ?_ rfl
  simp only [Tryd.ntmps14, List.size_toArray, List.length_nil, Nat.reduceSub, Array.replicate_succ, Array.replicate_zero, List.push_toArray, List.append_toArray, List.nil_append, List.cons_append]
  have hmx : Tryd.prog.follows .mixedOrders = true := by kernel_rfl
  clear ht ht0 hW0 hap hal
  refine wpIn_wide.2 ?_
  go_wp2_with (first
    | (go_at_call 4; rw [HW0.out]; refine HNW.out.mono ?_; rintro e w1 ⟨B, rfl, hd1, hb1⟩; have HO := hid (lopen_new (at' := 4) (sc := 32) hd1 (by omega) (HT0.out.below hb1 (Nat.le_refl _)) hg); have HB1 := hid hb1; clear HNW hd1 hb1)
    | (go_at_call 5; refine HO.out.mono ?_; rintro e w2 ⟨L, rfl, hl2, hk2, hLs⟩; have HB2 := hid (HB1.out.trans hk2.below); have HA := hid (HAP.out w2 L B hl2 HB2.out); clear HO hl2 hk2 hLs)
    | (go_at_call 6; refine HA.out.mono ?_; rintro e w4 ⟨rfl, hl4, hb4⟩; have HL4 := hid (And.intro hl4 hb4); have HLA := hid (HAL.out w4 L B hl4 hb4); clear HA hl4 hb4)
    | (go_at_call 32; refine HLA.out.mono ?_; rintro e w6 ⟨Bx, rfl, hRR, hAW⟩; clear HLA))
  obtain ⟨Br, Bf, us, ra, rc, gr, cr, hRec⟩ := hRR.out
  obtain ⟨Bk, hBk⟩ : ∃ Bk, Bk = w4.heap.size := ⟨_, rfl⟩
  have hAW0 : AwI w W0.heap.size L B Bk (Dk.new 40).flush (Lg.fresh.add [97]) 0 w6 := by rw [hBk]; exact hAW.out
  rw [← hBk]
  have hsz6 : w.heap.size ≤ w6.heap.size := hAW0.below.size
  have HBK : Hid (w.heap.size + 1 ≤ Bk) := hid (by rw [hBk, ← hs0]; exact HL4.out.2.size)
  clear hRR hAW hBk
  refine (wpIn_wide (n := 12)).1 (range_far rfl (by decide) (gf := 49) (lb := #[.pointer (some ⟨Bx, 0, none⟩)]) rfl trivial (enters_of Tryd.func49 (by kernel_rfl) rfl)
    (all_hands (12 - 1) (by decide) Bx Br Bf 1 0 (fun _ t => t = 3) [[97]] us ra rc gr cr w6 hRec (Nat.zero_le _) (by omega) (by simp)) (fun h k => Kt.trans h k) (fun V o o' hq ho => Kt.putObj _ V _ o o' hq ho) (fun pre x V q o o' hy hq ho => ⟨hy.1.putObj q o o' hq ho, hy.2⟩) (fun _ => rfl)
    (fun pre V => AwI w W0.heap.size L B Bk (Dk.new 40).flush (Lg.fresh.add [97]) pre.length V) (fun _ _ _ => False) (fun pre A B' row hs hg' hrow => hs.turn hg' (fun r e => ⟨by have := (hrow r e).1; omega, (hrow r e).2⟩)) (fun _ _ _ _ _ h => h.elim) hAW0 ?a1 ?assign ?body ?done ?stop)
  case assign =>
    intro q x V K hK
    gi_wp2
    exact hK
  case stop => exact fun _ _ _ _ _ _ h => h.elim
  case body =>
    rintro q pre ⟨k, v, r⟩ V hI ⟨hN, hk, hr⟩
    dsimp only at hN hk hr
    have hp0 : pre.length = 0 := by
      have := (List.getElem?_eq_some_iff.1 hr).1
      simpa using this
    rw [hp0] at hk hr
    obtain rfl : r = [97] := by simpa using hr.symm
    obtain rfl : k = 1 := hk
    have hcv := hN.1.conv
    obtain ⟨S, hS⟩ : ∃ S, S = strOfNums [97] := ⟨_, rfl⟩
    have hSe : (S.toList == [97]) = true := by rw [hS]; decide +kernel
    rw [← hS] at hcv
    have ck := cell_of_row V Bk 0 _ _ _ hI.bk
    have fk := frozen_of_row V Bk 0 _ _ hI.bk
    simp only [List.getElem?_toArray, List.getElem?_cons_zero] at ck
    have HI := hid hI
    have HP0 := hid hp0
    clear hI hN hr hS hp0
    gi_wp2
    have hbe : w.heap.size + 1 ≤ Bk := HBK.out
    have hw64 : wrap64 ((pre.length : Int) + 1) = 1 := by rw [HP0.out]; decide +kernel
    have hcast : (((pre ++ [((1 : Nat), v, ([97] : List Int))]).length : Nat) : Int) = 1 := by simp [HP0.out]
    have h2 := box_set (v := .int .i64 1) HI.out.bk
    rw [hw64]
    refine ⟨(KeepsOthers.setCell V _ _).from _, ⟨?_, ?_⟩, ?_, ?_, ?_, ?_⟩
    · simp
    · intro k c t f hn hk
      refine Below.heap_setCell V ⟨Bk, 0, none⟩ _ k fun e => hn ?_
      have e' : k = Bk := e
      subst e'
      rw [HI.out.bk] at hk
      injection hk with e1
      injection e1 with _ e2 _
      exact e2.symm
    · exact (Below.heap_setCell V ⟨Bk, 0, none⟩ _ _ fun e => by have e' : w.heap.size = Bk := e; omega).trans HI.out.b0
    · rw [hcast]; exact h2
    · exact HI.out.log.box HI.out.bk nl_int _
    · exact HI.out.below.setCell (by show w.heap.size ≤ Bk; omega) _
  case done =>
    rintro D xs V hD hS hI hK
    have hx1 : xs.length = 1 := by
      have := congrArg List.length hS
      simpa [bytesOf] using this
    rw [hx1] at hI
    have hlt6 : w.heap.size < w6.heap.size := lt_of_heap hAW0.b0
    have hgen : ∀ W : World, Below V.heap.size V W → W.cell? ⟨Bk, 0, none⟩ = some (.int .i64 1) ∧ W.cell? ⟨w.heap.size, 0, none⟩ = some (.bool false) ∧ W.frozen? ⟨w.heap.size, 0, none⟩ = false ∧ LogIs W W0.heap.size L B 40 4 32 (Dk.new 40).flush (Lg.fresh.add [97]) := fun W hW => by
      have h1 : W.heap[Bk]? = some (.cells #[.int .i64 1] 3 (0, 0)) := (hW.block _ (lt_of_heap hI.bk)).trans hI.bk
      have h2 : W.heap[w.heap.size]? = some (.cells #[.bool false] 4 (0, 0)) := (hW.block _ (lt_of_heap hI.b0)).trans hI.b0
      exact ⟨by simpa using cell_of_row W Bk 0 _ _ _ h1, by simpa using cell_of_row W w.heap.size 0 _ _ _ h2, frozen_of_row W w.heap.size 0 _ _ h2, hI.log.below hW⟩
    have hfin : ∀ W : World, Below V.heap.size V W → (W.setCell ⟨w.heap.size, 0, none⟩ (.bool true)).heap[D]? = some (.deferred (some [])) ∧ ((W.setCell ⟨w.heap.size, 0, none⟩ (.bool true)).putObj D (.deferred none)).cell? ⟨w.heap.size, 0, none⟩ = some (.bool true) ∧ Below w.heap.size w ((W.setCell ⟨w.heap.size, 0, none⟩ (.bool true)).putObj D (.deferred none)) := fun W hW => by
      have h2 : W.heap[w.heap.size]? = some (.cells #[.bool false] 4 (0, 0)) := (hW.block _ (lt_of_heap hI.b0)).trans hI.b0
      have h3 : W.heap[D]? = some (.deferred (some [])) := (hW.block _ (lt_of_heap hK)).trans hK
      have h4 := box_set (v := .bool true) h2
      have h5 : (W.setCell ⟨w.heap.size, 0, none⟩ (.bool true)).heap[D]? = some (.deferred (some [])) := (Below.heap_setCell W ⟨w.heap.size, 0, none⟩ _ _ fun e => by have e' : D = w.heap.size := e; omega).trans h3
      have hrow : ∀ r, some D = some r → ∃ o : Obj, (W.setCell ⟨w.heap.size, 0, none⟩ (.bool true)).heap[r]? = some o ∧ o.isCells = false := fun r e => by cases e; exact ⟨_, h5, rfl⟩
      have h6 := cell_kept (o := 0) h4 (grownBy_putObj' _ D (.deferred none)) hrow
      have hb : Below w.heap.size w (W.setCell ⟨w.heap.size, 0, none⟩ (.bool true)) := (hI.below.trans (hW.mono hI.below.size)).setCell (Nat.le_refl _) _
      exact ⟨h5, by simpa using h6, hb.grown (grownBy_putObj' _ D (.deferred none)) hb.size (fun k e => by cases e; omega)⟩
    have HG := hid hgen
    have HFI := hid hfin
    obtain ⟨cb, cz, fz, hl⟩ := hgen V (Below.refl _ V)
    have HFS := hid (lfirst_any hl)
    have HNX := hid (lnext_any hl)
    rw [show (Lg.fresh.add [97]).first = 1 from rfl] at HFS HNX
    rw [show (Lg.fresh.add [97]).recs.length = 1 from rfl] at HNX
    have HSZ := hid (fun q => lsize_any (hl.below (below_drewN (Below.refl _ V) q)))
    clear hgen hfin hI hK hl hS
    go_wp2_with (first
      | (go_at_call 9; refine HFS.out.mono ?_; rintro e w7 ⟨rfl, hw⟩; have hw' := hw.symm; clear hw; subst hw')
      | (go_at_call 13; refine HNX.out.mono ?_; rintro e w7 ⟨rfl, q, hw⟩; obtain ⟨_, cz7, fz7, _⟩ := HG.out (V.drewN q) (below_drewN (Below.refl _ V) q); have HFQ := hid (HFI.out (V.drewN q) (below_drewN (Below.refl _ V) q)); have hw' := hw.symm; clear hw; subst hw')
      | (go_at_call 33; refine (HSZ.out q).mono ?_; rintro e w8 ⟨rfl, hw⟩; have hw' := hw.symm; clear hw; subst hw'))
    obtain ⟨hK', hb5, hend⟩ := HFQ.out
    refine ⟨by simp, .inl ⟨_, _, rfl, run_takeDeferred hK', ?_⟩⟩
    refine ⟨.bool true, ?_, rfl, hend⟩
    simp [results, Tryd.f14, go_sem, hb5]
theorem lawake_any (w : World) (ht : TabOk w) :
    Calls Tryd.prog 14 #[] w fun e w' => e = .returned (.bool true) ∧ Below w.heap.size w w' := callsIn_wide.1 (lawake_in w ht)
end Go.Proofs.YthhlbhnogcfnjaaDoor
