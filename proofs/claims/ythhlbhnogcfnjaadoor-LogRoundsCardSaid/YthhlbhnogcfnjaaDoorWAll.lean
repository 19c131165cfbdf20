/-
  Layer 4: the records of a Log, told one by one: wal's All.
-/
import Derived.Test.YthhlbhnogcfnjaaDoorWTold
import Derived.Test.YthhlbhnogcfnjaaDoorWRangeFar
namespace Go.Proofs.YthhlbhnogcfnjaaDoor
open Go.RowKit Go.Shelf

theorem run_store_func (P : Program) (w : World) (a : Addr) (f : Fn) (xs ys : Array Value) (m : Mode) : (store a (.func f xs ys) m).run P w = stored P w a (.func f xs ys) m := run_store P w a _ m rfl
attribute [local go_sem] Oper.semAt_some run_store_func

theorem round_in {m m' q : Nat} {P : Program} {l : Nat} {f : FuncId} {tmps : Array Value} {assign body : Code} {w : World} {R : Ending → World → Prop} (h : RoundIn Fence.wide m P l f tmps assign body w R) : RoundIn (Fence.wide.inRound q) m' P l f tmps assign body w R := ⟨h.1, fun c cs _ => h.2 c cs (room_wide _)⟩

theorem all_any {w : World} {base L B n at' sc : Nat} {d : Dk} {g : Lg} (h : LogIs w base L B n at' sc d g) {ra : Option Addr} {rc : Nat} {ta : Option Addr} {tc : Nat} (hf : w.heap[L]? = some (.cells #[.pointer (some ⟨B, 0, none⟩), .int .i64 at', .int .i64 sc, .int .u64 g.first, .slice ra g.recs.length rc, .int .u64 g.start, .int .u64 g.stop, .int .u64 g.flushed, .slice ta g.tail.length tc] 50 (0, 0))) :
    Calls Tryd.prog 32 #[.pointer (some ⟨L, 0, none⟩)] w fun e w' => ∃ Bx Br Bf, e = .returned (.func (.func 49) #[] #[.pointer (some ⟨Bx, 0, none⟩)]) ∧ w'.heap[Bx]? = some (.cells #[.func (.func 43) #[] #[.pointer (some ⟨Br, 0, none⟩), .pointer (some ⟨Bf, 0, none⟩)]] 55 (0, 0)) ∧ w'.heap[Br]? = some (.cells #[.slice ra g.recs.length rc] 48 (0, 0)) ∧ w'.heap[Bf]? = some (.cells #[.int .u64 g.first] 29 (0, 0)) ∧ w.heap.size ≤ Br ∧ w.heap.size ≤ Bf ∧ w.heap.size ≤ Bx ∧ Below w.heap.size w w' := by
  have HT := hid (told_any h hf)
  clear h hf
  go_enter Tryd.func32, Tryd.ntmps32
  go_wp2_with (go_at_call 24; refine HT.out.mono ?_; rintro e w1 ⟨Br, Bf, rfl, hbr, hbf, h1, h2, hb⟩)
  go_ret
  have hal : Below w1.heap.size w1 (w1.alloc (.cells #[.func (.func 43) #[] #[.pointer (some ⟨Br, 0, none⟩), .pointer (some ⟨Bf, 0, none⟩)]] 55)) := (Below.refl _ _).alloc (Nat.le_refl _) _
  exact ⟨w1.heap.size, Br, Bf, rfl, heap_new w1 _, (hal.block Br (lt_of_heap hbr)).trans hbr, (hal.block Bf (lt_of_heap hbf)).trans hbf, h1, h2, hb.size, hb.alloc hb.size _⟩
theorem Kt.turn {P : Nat → TypeId → Prop} {A W W' : World} {row : Option Nat} (h : Kt P A W) (hg : W.grownBy W' row) (hr : ∀ r, row = some r → ∃ o : Obj, W.heap[r]? = some o ∧ o.isCells = false) : Kt P A W' :=
  ⟨Nat.le_trans h.size hg.size, fun k c t f hp hk => (turn_cells hg hr k c t f ((h.keep k c t f hp hk).trans hk)).trans (h.keep k c t f hp hk)⟩
/-- A Log's records in memory, and the boxes that tell of them. -/
structure RecsAt (w : World) (P : Nat → TypeId → Prop) (Bx Br Bf first : Nat) (rs : List (List Int)) (us : List Value) (ra : Option Addr) (rc gr : Nat) (cr : Array Value) : Prop where
  bx : w.heap[Bx]? = some (.cells #[.func (.func 43) #[] #[.pointer (some ⟨Br, 0, none⟩), .pointer (some ⟨Bf, 0, none⟩)]] 55 (0, 0))
  br : w.heap[Br]? = some (.cells #[.slice ra us.length rc] 48 (0, 0))
  bf : w.heap[Bf]? = some (.cells #[.int .u64 first] 29 (0, 0))
  nf : ¬ P Bf 29
  row : 1 ≤ us.length → ra = some ⟨gr, 0, none⟩ ∧ ¬ P gr 32 ∧ w.heap[gr]? = some (.cells cr 32 (0, 0)) ∧ ∀ k, k < us.length → cr[k]? = us[k]?
  len : us.length = rs.length
  each : ∀ (k : Nat) (r : List Int) (u : Value), rs[k]? = some r → us[k]? = some u → NewBs 0 w u r
  np : ∀ k, ¬ P k 5 ∧ ¬ P k 80
def AllAt (N first : Nat) (rs : List (List Int)) (pre : List Rc) (x : Rc) (W : World) : Prop := NewBs N W x.2.1 x.2.2 ∧ x.1 = first + pre.length ∧ rs[pre.length]? = some x.2.2

set_option maxRecDepth 100000 in
set_option maxHeartbeats 4000000 in
theorem all1_in (m : Nat) (hm : 6 ≤ m) (l Bx Br Bf first N B0 : Nat) (P : Nat → TypeId → Prop) (rs : List (List Int)) (us : List Value) (ra : Option Addr) (rc gr : Nat) (cr : Array Value) (J Jx : List Rc → World → Prop) (W : World) (hAb : OwnFrom W.heap.size J) (hAx : OwnFrom W.heap.size Jx)
    (hY : ∀ pre x W1, J pre W1 → AllAt N first rs pre x W1 → YieldAt Fence.wide (m - 1) Tryd.prog l (Rc.vals x) W1 fun e W' => KeepsFrom B0 W1 W' ∧
      ((e = .returned (.bool true) ∧ J (pre ++ [x]) W' ∧ Kt P W1 W') ∨ (e = .returned (.bool false) ∧ Jx (pre ++ [x]) W')))
    (hR : RecsAt W P Bx Br Bf first rs us ra rc gr cr) (hN : N ≤ W.heap.size) (hB0 : B0 ≤ W.heap.size) (hf : first ≤ 5000000000000000000) (hl : rs.length ≤ 1000000) (h0 : J [] W) :
    CallsIn Fence.wide m Tryd.prog 49 #[.func (.yield l) #[] #[], .pointer (some ⟨Bx, 0, none⟩)] W fun e W' => (∃ v, e = .returned v) ∧
      ((∃ xs, bytesOf xs = rs ∧ J xs W') ∨ (∃ pre, True ∧ Jx pre W')) := by
  have hfn : ∀ k, Fence.wide.fn k := fun _ => trivial
  have hm1 : 1 ≤ m := by omega
  have hmx : Tryd.prog.follows .mixedOrders = true := by kernel_rfl
  obtain ⟨W1, hW1⟩ : ∃ W1, W.alloc (.cells #[.func (.yield l) #[] #[]] 80) = W1 := ⟨_, rfl⟩
  have hb1 : Below W.heap.size W W1 := by rw [← hW1]; exact (Below.refl _ W).alloc (Nat.le_refl _) _
  have hs1 : W1.heap.size = W.heap.size + 1 := by rw [← hW1]; simp
  have hy1 : W1.heap[W.heap.size]? = some (.cells #[.func (.yield l) #[] #[]] 80 (0, 0)) := by rw [← hW1]; exact heap_new W _
  have bx1 := (hb1.block Bx (lt_of_heap hR.bx)).trans hR.bx
  have cx := cell_of_row W1 Bx 0 _ _ _ bx1
  simp only [List.getElem?_toArray, List.getElem?_cons_zero] at cx
  have hJ1 : J [] W1 := by rw [← hW1]; exact hAb _ _ _ none h0 (World.grownBy_alloc _ _ none) (fun r hr => by cases hr)
  have hus : ∀ u ∈ us, u.oneCell' = true := fun u hu => by
    obtain ⟨k, hk, rfl⟩ := List.mem_iff_getElem.1 hu
    obtain ⟨r, hr⟩ : ∃ r, rs[k]? = some r := ⟨rs[k]'(by rw [← hR.len]; exact hk), by rw [List.getElem?_eq_getElem (by rw [← hR.len]; exact hk)]⟩
    obtain ⟨a, c, e, _⟩ := (hR.each k r us[k] hr (by simp [hk])).1.open
    rw [e]; rfl
  have HRR := hid hR
  refine callsIn_of_wp_marks Tryd.func49 rfl trivial ?_ rfl
  simp only [Tryd.ntmps49, List.size_toArray, List.length_cons, List.length_nil, Nat.reduceAdd, Nat.reduceSub, Array.replicate_succ, Array.replicate_zero, List.push_toArray, List.append_toArray, List.nil_append, List.cons_append]
  have HW1 := hid hW1
  have cx0 : (W.alloc (.cells #[.func (.yield l) #[] #[]] 80)).cell? ⟨Bx, 0, none⟩ = some (.func (.func 43) #[] #[.pointer (some ⟨Br, 0, none⟩), .pointer (some ⟨Bf, 0, none⟩)]) := by rw [hW1]; exact cx
  clear hW1 hR
  gi_wp2
  rw [HW1.out]
  refine range_hands rfl hm1 (gf := 43) (lb := #[.pointer (some ⟨Br, 0, none⟩), .pointer (some ⟨Bf, 0, none⟩)]) rfl trivial (enters_of Tryd.func43 (by kernel_rfl) rfl)
    (told_hands (m - 1) (by omega) Br Bf P first us ra rc gr cr W1 ((hb1.block Br (lt_of_heap HRR.out.br)).trans HRR.out.br) ((hb1.block Bf (lt_of_heap HRR.out.bf)).trans HRR.out.bf) HRR.out.nf (fun h1 => by
      obtain ⟨e1, e2, e3, e4⟩ := HRR.out.row h1
      exact ⟨e1, e2, (hb1.block gr (lt_of_heap e3)).trans e3, e4⟩) hus hf (by rw [HRR.out.len]; exact hl)) (fun h k => Kt.trans h k) (fun V q o o' hq ho => Kt.putObj P V q o o' hq ho) (fun _ _ _ _ _ _ hy _ _ => hy) (fun _ => rfl)
    (fun pre V => (∃ xs : List Rc, xs.length = pre.length ∧ bytesOf xs = rs.take pre.length ∧ J xs V) ∧ Kt P W1 V) (fun c _ V => c = .ret ∧ ∃ xs, Jx xs V) ?hI ?hIx ⟨⟨[], rfl, by simp, hJ1⟩, Kt.refl _ _⟩ ?a1 ?assign ?body ?done ?stop
  case assign =>
    intro q x V K hK
    gi_wp2
    exact hK
  case hI =>
    rintro pre A B' row ⟨⟨xs, h1, h2, h3⟩, hk⟩ hg' hrow
    exact ⟨⟨xs, h1, h2, hAb _ _ _ _ h3 hg' (fun r e => ⟨by have := (hrow r e).1; omega, (hrow r e).2⟩)⟩, hk.turn hg' (fun r e => (hrow r e).2)⟩
  case hIx =>
    rintro c pre A B' row ⟨hc, xs, h3⟩ hg' hrow
    exact ⟨hc, xs, hAx _ _ _ _ h3 hg' (fun r e => ⟨by have := (hrow r e).1; omega, (hrow r e).2⟩)⟩
  case done =>
    rintro D ys V hD hS ⟨⟨xs, h1, h2, h3⟩, hk⟩ hK
    have hyl : ys.length = rs.length := by
      have := congrArg List.length hS
      rw [List.length_map, HRR.out.len] at this
      exact this
    rw [hyl, List.take_length] at h2
    have HH2 := hid h2
    clear h2 h1 hS hyl
    gi_wp2
    refine ⟨by simp, .inl ⟨_, _, rfl, run_takeDeferred hK, ?_⟩⟩
    refine ⟨_, results_none rfl _ _ _, ⟨_, rfl⟩, .inl ⟨xs, HH2.out, ?_⟩⟩
    exact hAb _ _ _ _ h3 (grownBy_putObj' V D (.deferred none)) (fun r e => by cases e; exact ⟨by omega, _, hK, rfl⟩)
  case stop =>
    rintro D c pre V hD _ ⟨rfl, xs, h3⟩ hK
    gi_wp2
    refine ⟨by simp, .inl ⟨_, _, rfl, run_takeDeferred hK, ?_⟩⟩
    refine ⟨_, results_none rfl _ _ _, ⟨_, rfl⟩, .inr ⟨xs, trivial, ?_⟩⟩
    exact hAx _ _ _ _ h3 (grownBy_putObj' V D (.deferred none)) (fun r e => by cases e; exact ⟨by omega, _, hK, rfl⟩)
  case body =>
    rintro q pre ⟨k, u⟩ V ⟨⟨xs, hxl, hxb, hJ⟩, hkt⟩ ⟨hk, hu⟩
    dsimp only at hk hu
    have hd1 : 1 ≤ m - 1 - 1 := by omega
    have hult : pre.length < us.length := (List.getElem?_eq_some_iff.1 hu).1
    obtain ⟨r, hr⟩ : ∃ r, rs[pre.length]? = some r := ⟨rs[pre.length]'(by rw [← HRR.out.len]; exact hult), by rw [List.getElem?_eq_getElem (by rw [← HRR.out.len]; exact hult)]⟩
    have hnb : NewBs 0 V u r := ((HRR.out.each _ r u hr hu).below hb1).same fun b c hb => hkt.keep b _ _ _ (HRR.out.np b).1 hb
    have hyb := (hkt.keep W.heap.size _ _ _ (HRR.out.np _).2 hy1).trans hy1
    have cy := cell_of_row V W.heap.size 0 _ _ _ hyb
    simp only [List.getElem?_toArray, List.getElem?_cons_zero] at cy
    have hszV := hkt.size
    have hdrV : Below V.heap.size V V.drew := (Below.refl _ V).drew
    have hlr := hnb.1.2.1
    obtain ⟨au, cu, hue, _⟩ := hnb.1.open
    subst hue
    -- the copy, and what the outer round says to it
    have hcl : Calls Tryd.prog 22 #[.slice au r.length cu] V.drew fun e w5 => ∃ v5, e = .returned v5 ∧ Hid (YieldAt Fence.wide (m - 1) Tryd.prog l #[.int .u64 (k : Int), v5] w5 fun e W' => KeepsFrom B0 w5 W' ∧ ((e = .returned (.bool true) ∧ J (xs ++ [(k, v5, r)]) W' ∧ Kt P w5 W') ∨ (e = .returned (.bool false) ∧ Jx (xs ++ [(k, v5, r)]) W'))) ∧ Hid (Below V.heap.size V w5) ∧ w5.cell? ⟨W.heap.size, 0, none⟩ = some (.func (.yield l) #[] #[]) := by
      refine (bs_clone_own (hnb.below hdrV).1 hlr).mono ?_
      rintro e w5 ⟨v5, rfl, hown5, hb5⟩
      have hb5' : Below V.heap.size V w5 := hdrV.trans hb5
      have hn5 : NewBs V.heap.size w5 v5 r := newBs_own hown5 hnb.1.byte hlr
      refine ⟨v5, rfl, hY xs (k, v5, r) w5 (hAb _ _ _ none hJ ⟨hb5'.os, hb5'.tape, hb5'.output, hb5'.size, fun k hk _ => hb5'.block k hk⟩ (fun r hr => by cases hr)) ⟨hn5.mono (by omega), by rw [hk, hxl], by rw [hxl]; exact hr⟩, hb5', (hb5'.cell (p := ⟨W.heap.size, 0, none⟩) (lt_of_heap hyb)).trans cy⟩
    have HCL := hid hcl
    have HXB := hid (And.intro hxl (And.intro hxb hr))
    have HKT := hid hkt
    clear hcl hnb hyb hxl hxb hr hkt hu hk hult hlr
    gi_wp2
    gi_region_with_o (first
      | (gi_at_call 22; refine (CallsIn.inRound q (callsIn_wide.2 HCL.out)).mono ?_; rintro e w5 ⟨v5, rfl, hy5, hb5, cy5⟩; obtain ⟨fn, tmps, assign, body, hy, hR5⟩ := hy5.out; have HR5 := hid hR5; clear hR5 hy5)
      | (refine (round_in HR5.out).mono ?_; intro e W3 hR3; obtain ⟨bv, rfl, hc3⟩ : ∃ bv : Bool, e = .returned (.bool bv) ∧ Hid (KeepsFrom B0 w5 W3 ∧ ((bv = true ∧ J (xs ++ [(k, v5, r)]) W3 ∧ Kt P w5 W3) ∨ (bv = false ∧ Jx (xs ++ [(k, v5, r)]) W3))) := (by rcases hR3 with ⟨h0, ⟨rfl, h1, h2⟩ | ⟨rfl, h1⟩⟩; exact ⟨true, rfl, h0, .inl ⟨rfl, h1, h2⟩⟩; exact ⟨false, rfl, h0, .inr ⟨rfl, h1⟩⟩); clear hR3 hy HR5))
    all_goals
      have hkf : KeepsFrom (W.heap.size + 1) V W3 := ⟨Nat.le_trans hb5.out.size hc3.out.1.size, fun k' o hk' h0' ho' => hc3.out.1.same k' o (by omega) ((hb5.out.block k' (lt_of_heap h0')).trans h0') ho'⟩
      have HKF := hid hkf
      clear hkf
      cases bv with
      | true =>
        obtain ⟨hJ3, hk3⟩ : J (xs ++ [(k, v5, r)]) W3 ∧ Kt P w5 W3 := by
          rcases hc3.out.2 with ⟨_, h1, h2⟩ | ⟨h1, _⟩
          · exact ⟨h1, h2⟩
          · cases h1
        have hkt3 : Kt P V W3 := (Kt.fresh hb5.out).trans hk3
        have HFI := hid (And.intro hJ3 hkt3)
        clear hJ3 hk3 hkt3
        gi_wp2
        refine ⟨HKF.out, HFI.out.2, ⟨xs ++ [(k, v5, r)], ?_, ?_, HFI.out.1⟩, HKT.out.trans HFI.out.2⟩
        · simp [HXB.out.1]
        · have h1 : bytesOf (xs ++ [((k, v5, r) : Rc)]) = bytesOf xs ++ [r] := by simp [bytesOf]
          rw [h1, HXB.out.2.1, List.length_append, List.length_singleton, List.take_add_one, HXB.out.2.2]
          rfl
      | false =>
        have hx3 : Jx (xs ++ [(k, v5, r)]) W3 := by
          rcases hc3.out.2 with ⟨h1, _⟩ | ⟨_, h1⟩
          · cases h1
          · exact h1
        gi_wp2
        exact ⟨HKF.out, rfl, _, hx3⟩
/-- What wal's All promises. -/
theorem all_hands (m : Nat) (hm : 6 ≤ m) (Bx Br Bf first N : Nat) (P : Nat → TypeId → Prop) (rs : List (List Int)) (us : List Value) (ra : Option Addr) (rc gr : Nat) (cr : Array Value) (w : World) (hR : RecsAt w P Bx Br Bf first rs us ra rc gr cr) (hN : N ≤ w.heap.size) (hf : first ≤ 5000000000000000000) (hl : rs.length ≤ 1000000) :
    HandsFar Fence.wide m Tryd.prog 49 #[.pointer (some ⟨Bx, 0, none⟩)] Rc.vals (AllAt N first rs) (Kt P) (fun xs => bytesOf xs = rs) (fun _ => True) w := fun l J Jx W hW hs hJ hJx hY h0 =>
  all1_in m hm l Bx Br Bf first N (w.heap.size + 2) P rs us ra rc gr cr J Jx W hJ hJx hY
    ⟨(hW.block _ (lt_of_heap hR.bx)).trans hR.bx, (hW.block _ (lt_of_heap hR.br)).trans hR.br, (hW.block _ (lt_of_heap hR.bf)).trans hR.bf, hR.nf, fun h1 => by
      obtain ⟨e1, e2, e3, e4⟩ := hR.row h1
      exact ⟨e1, e2, (hW.block gr (lt_of_heap e3)).trans e3, e4⟩, hR.len, fun k r u h1 h2 => (hR.each k r u h1 h2).below hW, hR.np⟩ (Nat.le_trans hN hW.size) hs hf hl h0
end Go.Proofs.YthhlbhnogcfnjaaDoor
