/-
  ring's Area2.
-/
import Derived.Test.YtepnjknblppfcaaHRound
import Derived.Test.YtepnjknblppfcaaRSeg
namespace Go.Proofs.Ytepnjknblppfcaa
open Go.RowKit Go.Shelf Go.Sort

attribute [local go_sem] Oper.semAt_some

theorem Src.view {w : World} {v : Value} {ps : List Pp} (h : Src w v ps) : ∃ ao cap b off, v = .slice ao ps.length cap ∧ (1 ≤ ps.length → ao = some ⟨b, off, none⟩) ∧ CellsAt w b off ps ∧ b ≤ w.heap.size := by
  rcases h with ⟨rfl, rfl⟩ | ⟨b, off, cap, rfl, _, hc⟩
  · exact ⟨none, 0, w.heap.size, 0, rfl, fun h => by simp at h, fun i hi => by simp at hi, Nat.le_refl _⟩
  · by_cases h1 : 1 ≤ ps.length
    · refine ⟨_, cap, b, off, rfl, fun _ => rfl, fun i hi => hc i _ (at_lpt hi), ?_⟩
      exact Nat.le_of_lt (World.block_lt_of_cell? w _ (hc 0 _ (at_lpt (by omega))).1)
    · exact ⟨_, cap, w.heap.size, 0, rfl, fun h => absurd h h1, fun i hi => by omega, Nat.le_refl _⟩
theorem CellsAt.below {w w' : World} {b off : Nat} {ps : List Pp} (h : CellsAt w b off ps) (hb : Below w.heap.size w w') : CellsAt w' b off ps := fun i hi => by
  obtain ⟨z0, z1⟩ := h i hi
  have hl := World.block_lt_of_cell? w _ z0
  exact ⟨(hb.cell (p := ⟨b, off + i * 2, none⟩) hl).trans z0, (hb.cell (p := ⟨b, off + i * 2 + 1, none⟩) hl).trans z1⟩
theorem boxed_below {w w' : World} {B : Nat} {t : TypeId} {v : Value} (h : Boxed w B t v) (hb : Below w.heap.size w w') : Boxed w' B t v := (hb.block _ h.lt).trans h
theorem push3 (a : Array Obj) (x0 x1 x2 : Obj) : (((a.push x0).push x1).push x2)[a.size]? = some x0 ∧ (((a.push x0).push x1).push x2)[a.size + 1]? = some x1 ∧ (((a.push x0).push x1).push x2)[a.size + 2]? = some x2 := by
  refine ⟨?_, ?_, ?_⟩ <;> simp only [Array.getElem?_push, Array.size_push] <;> repeat (first | rw [if_pos (by omega)] | rw [if_neg (by omega)] | rw [if_pos trivial])
theorem block_turn {W W' : World} {row : Option Nat} (hg : W.grownBy W' row) (hr : ∀ r, row = some r → ∃ o : Obj, W.heap[r]? = some o ∧ o.isCells = false) {k : Nat} {c : Array Value} {t : TypeId} {f : Nat × Nat} (hk : W.heap[k]? = some (Obj.cells c t f)) : W'.heap[k]? = some (Obj.cells c t f) :=
  (hg.block k (lt_of_heap hk) (fun e => by
    obtain ⟨o, ho, hc⟩ := hr k e.symm
    rw [hk] at ho
    injection ho with e1
    subst e1
    cases hc)).trans hk

/-- What the segments of these numbers sum up to. -/
def crA (ps : List Pp) (k : Nat) : Int := crossI (ringQ ps k) (ringQ ps ((k + 1) % ps.length))
def arL (ps : List Pp) (ks : List Nat) : Int := ks.foldl (fun s k => s + crA ps k) 0
theorem arL_snoc (ps : List Pp) (ks : List Nat) (k : Nat) : arL ps (ks ++ [k]) = arL ps ks + crA ps k := by unfold arL; rw [List.foldl_append]; rfl
theorem arL_range (ps : List Pp) : ∀ k : Nat, arL ps (List.range k) = areaK ps k
  | 0 => rfl
  | k + 1 => by rw [List.range_succ, arL_snoc, arL_range ps k, areaK_succ]; rfl
theorem crA_bound (ps : List Pp) (k : Nat) : -8796093022208 ≤ crA ps k ∧ crA ps k ≤ 8796093022208 := crossI_bound (ringQ_in ps k) (ringQ_in ps ((k + 1) % ps.length))
theorem arL_bound (ps : List Pp) (ks : List Nat) : ∀ s : Int, -(8796093022208 * (ks.length : Int)) ≤ ks.foldl (fun s k => s + crA ps k) s - s ∧ ks.foldl (fun s k => s + crA ps k) s - s ≤ 8796093022208 * (ks.length : Int) := by
  induction ks with
  | nil => intro s; simp
  | cons k ks ih =>
    intro s
    have h := ih (s + crA ps k)
    have c := crA_bound ps k
    rw [List.foldl_cons, List.length_cons]
    omega
theorem area_cross (ps : List Pp) (k : Nat) : area (near 0) (near 0) (near (lpt ps k).1) (near (lpt ps k).2) (near (nxt ps k).1) (near (nxt ps k).2) = crA ps k := by
  have h0 : near 0 = 0 := by decide
  unfold area crA crossI ringQ clP nxt
  rw [h0, Int.sub_zero, Int.sub_zero, Int.sub_zero, Int.sub_zero]
  dsimp only
  rw [Int.mul_comm (near (lpt ps k).2)]

/-- Amid Area2. -/
structure ArI (w : World) (s : Int) (W : World) : Prop where
  org : Pt W w.heap.size 0 0
  sum : Boxed W (w.heap.size + 1) 2 (.int .i64 s)
  big : w.heap.size + 3 ≤ W.heap.size
  below : Below w.heap.size w W
theorem ArI.turn {w W W' : World} {s : Int} {row : Option Nat} (h : ArI w s W) (hg : W.grownBy W' row) (hr : ∀ r, row = some r → w.heap.size ≤ r ∧ ∃ o : Obj, W.heap[r]? = some o ∧ o.isCells = false) : ArI w s W' :=
  ⟨block_turn hg (fun r e => (hr r e).2) h.org, block_turn hg (fun r e => (hr r e).2) h.sum, Nat.le_trans h.big hg.size, h.below.grown hg h.below.size (fun k e => (hr k e).1)⟩
theorem ArI.fresh {w W W' : World} {s : Int} (h : ArI w s W) (hb : Below W.heap.size W W') : ArI w s W' :=
  ⟨(hb.block _ h.org.lt).trans h.org, boxed_below h.sum hb, Nat.le_trans h.big hb.size, h.below.trans (hb.mono h.below.size)⟩
theorem ArI.set {w W : World} {s : Int} (h : ArI w s W) (t : Int) : ArI w t (W.setCell ⟨w.heap.size + 1, 0, none⟩ (.int .i64 t)) :=
  ⟨(Below.heap_setCell W _ _ _ (by show w.heap.size ≠ w.heap.size + 1; omega)).trans h.org, h.sum.set _, by rw [World.size_setCell]; exact h.big, h.below.setCell (p := ⟨w.heap.size + 1, 0, none⟩) (by show w.heap.size ≤ w.heap.size + 1; omega) _⟩

set_option maxRecDepth 100000 in
set_option maxHeartbeats 3200000 in
theorem area_in (ao : Option Addr) (n cap b off : Nat) (ps : List Pp) (w : World) (hn : ps.length = n) (hao : 1 ≤ n → ao = some ⟨b, off, none⟩) (hat : CellsAt w b off ps) (hb : b ≤ w.heap.size) (hl : n ≤ 4096) :
    CallsIn Fence.wide 12 Try.prog 10 #[.slice ao n cap] w fun e w' => e = .returned (.int .i64 (areaL ps)) ∧ Below w.heap.size w w' := by
  have HN := hid hn
  have HAO := hid hao
  have HAT := hid hat
  have hmx : Try.prog.follows .mixedOrders = true := by kernel_rfl
  clear hao hat hn
  refine callsIn_of_wp_marks Try.func10 rfl trivial ?_ rfl
  simp only [Try.ntmps10, List.size_toArray, List.length_cons, List.length_nil, Nat.reduceAdd, Nat.reduceSub, Array.replicate_succ, Array.replicate_zero, List.push_toArray, List.append_toArray, List.nil_append, List.cons_append]
  have hw : ∀ k, Fence.wide.fn k := fun _ => trivial
  gi_wp2_with (gi_at_call 19; refine (callsIn_wide.2 (segmentsOf_any _ _ _ _)).mono ?_; rintro e w' ⟨rfl, rfl⟩)
  obtain ⟨W0, hW0⟩ : ∃ W0, ((w.alloc (.cells #[.int .i64 0, .int .i64 0] 24)).alloc (.cells #[.int .i64 0] 2)).alloc (.cells #[.slice ao n cap] 22) = W0 := ⟨_, rfl⟩
  have hsz : W0.heap.size = w.heap.size + 3 := by rw [← hW0]; simp
  have hF0 : Below w.heap.size w W0 := by rw [← hW0]; exact (((Below.refl _ w).alloc (Nat.le_refl _) _).alloc (by simp) _).alloc (by simp; omega) _
  have hpush := push3 w.heap (.cells #[.int .i64 0, .int .i64 0] 24) (.cells #[.int .i64 0] 2) (.cells #[.slice ao n cap] 22)
  have h0 : ArI w 0 W0 := ⟨by rw [← hW0]; exact hpush.1, by rw [← hW0]; exact hpush.2.1, by omega, hF0⟩
  have hbx : Boxed W0 (w.heap.size + 2) 22 (.slice ao n cap) := by rw [← hW0]; exact hpush.2.2
  rw [hW0]
  clear hW0 hpush
  refine wpIn_rangeFunc_ownH rfl (by decide) (gf := 29) (lb := #[.pointer (some ⟨w.heap.size + 1 + 1, 0, none⟩)]) rfl trivial (enters_of Try.func29 (by kernel_rfl) rfl)
    (segs_stops (12 - 1) (by decide) (w.heap.size + 2) b off n cap ao ps HN.out W0 hbx.cell HAO.out (HAT.out.below hF0) (by omega)) (fun h k => Kq.trans h k) (fun W l o o' h1 h2 _ _ => Kq.putObj W l o' (by have := lt_of_heap h2; omega) (by have := lt_of_heap h2; omega) (by omega) (by omega)) (Below.refl _ _) (fun _ => rfl)
    (fun pre W => ArI w (arL ps (pre.map (·.1))) W) (fun _ _ _ => False) ?hI ?hIx ?h0
    (fun x a' W => ∃ B1 B2, a' = { tmps := #[.slice ao n cap, undef, .int .i64 0, .pointer (some ⟨w.heap.size, 0, none⟩), .pointer (some ⟨w.heap.size + 1, 0, none⟩), .pointer (some ⟨B1, 0, none⟩), .pointer (some ⟨B2, 0, none⟩), .slice ao n cap, .func (.func 29) #[] #[.pointer (some ⟨w.heap.size + 1 + 1, 0, none⟩)], pv (lpt ps x.1).1 (lpt ps x.1).2, pv (nxt ps x.1).1 (nxt ps x.1).2, undef, undef, undef, undef, undef, undef, undef], defers := [] } ∧ Pt W B1 (lpt ps x.1).1 (lpt ps x.1).2 ∧ Pt W B2 (nxt ps x.1).1 (nxt ps x.1).2)
    ?hAx ?assign ?body ?done ?stop
  case hI =>
    rintro s A B' row hs hg' hrow
    exact hs.turn hg' (fun r e => ⟨by have := (hrow r e).1; omega, (hrow r e).2⟩)
  case hIx =>
    rintro c s A B' row h
    exact h.elim
  case h0 => exact h0
  case hAx =>
    rintro x a' _ A B' row ⟨B1, B2, rfl, h1, h2⟩ hg hrow
    exact ⟨B1, B2, rfl, block_turn hg (fun r e => (hrow r e).2) h1, block_turn hg (fun r e => (hrow r e).2) h2⟩
  case assign =>
    intro l pre x W K hI hK
    have hfr : Below W.heap.size W ((W.alloc (.cells #[.int .i64 (lpt ps x.1).1, .int .i64 (lpt ps x.1).2] 24)).alloc (.cells #[.int .i64 (nxt ps x.1).1, .int .i64 (nxt ps x.1).2] 24)) := ((Below.refl _ W).alloc (Nat.le_refl _) _).alloc (by simp) _
    have hbig := hI.big
    have h1 : Pt ((W.alloc (.cells #[.int .i64 (lpt ps x.1).1, .int .i64 (lpt ps x.1).2] 24)).alloc (.cells #[.int .i64 (nxt ps x.1).1, .int .i64 (nxt ps x.1).2] 24)) W.heap.size (lpt ps x.1).1 (lpt ps x.1).2 := (Pt.new W _ _).alloc _
    have h2 : Pt ((W.alloc (.cells #[.int .i64 (lpt ps x.1).1, .int .i64 (lpt ps x.1).2] 24)).alloc (.cells #[.int .i64 (nxt ps x.1).1, .int .i64 (nxt ps x.1).2] 24)) (W.heap.size + 1) (nxt ps x.1).1 (nxt ps x.1).2 := by
      have := Pt.new (W.alloc (.cells #[.int .i64 (lpt ps x.1).1, .int .i64 (lpt ps x.1).2] 24)) (nxt ps x.1).1 (nxt ps x.1).2
      rwa [World.size_alloc] at this
    have HK := hid (hK _ _ ((keeps_fresh hfr).from _) (Kq.fresh hfr (by omega) (by omega)) (hI.fresh hfr) ⟨W.heap.size, W.heap.size + 1, rfl, h1, h2⟩)
    clear hK hI hfr h1 h2
    gi_wp2
    exact HK.out
  case body =>
    rintro l pre x a' W _ _ hI ⟨B1, B2, rfl, hP1, hP2⟩ hlt
    have hlen : (pre.map (·.1)).length < n := by rw [List.length_map]; exact hlt
    have hbs := arL_bound ps (pre.map (·.1)) 0
    have hbd : -8796093022208 * 4096 ≤ arL ps (pre.map (·.1)) ∧ arL ps (pre.map (·.1)) ≤ 8796093022208 * 4096 := by unfold arL; omega
    have hbc := crA_bound ps x.1
    have HE := hid (show arL ps ((pre ++ [x]).map (·.1)) = arL ps (pre.map (·.1)) + crA ps x.1 by rw [List.map_append]; exact arL_snoc ps _ _)
    have HI := hid hI
    have co0 := cell_regrown hI.org.c0; have co1 := cell_regrown hI.org.c1
    have cs := cell_regrown hI.sum.cell
    have c10 := cell_regrown hP1.c0; have c11 := cell_regrown hP1.c1; have c20 := cell_regrown hP2.c0; have c21 := cell_regrown hP2.c1
    have ca := fun d os => area2_any 0 0 (lpt ps x.1).1 (lpt ps x.1).2 (nxt ps x.1).1 (nxt ps x.1).2 (grow (redrawn W d) os)
    rw [area_cross] at ca
    clear hI hP1 hP2 h0 hbx hbs hlen
    generalize arL ps (pre.map (·.1)) = S at *
    generalize crA ps x.1 = D at *
    generalize (lpt ps x.1).1 = X1 at *
    generalize (lpt ps x.1).2 = Y1 at *
    generalize (nxt ps x.1).1 = X2 at *
    generalize (nxt ps x.1).2 = Y2 at *
    have hwr : IntKind.i64.wrap (S + D) = S + D := by rw [IntKind.wrap_i64]; omega
    gi_wp2
    refine wpIn_region_tail_round 5 hmx (by kernel_rfl) (by kernel_rfl) ?_
    simp only [List.take]
    go_big_quiet_step (fail)
    go_big_quiet_step (fail)
    go_big_quiet_step (fail)
    go_big_quiet_step (fail)
    go_big_quiet_step (exact Calls.regrown_of (ca _ _))
    refine wpQuiet_nil ?_
    intro W1 hW'
    obtain ⟨⟨dq, osq⟩, hW⟩ := hW'
    have hb1 : Below W.heap.size W W1 := by rw [hW]; exact below_regrown _ _ _
    have HI1 := hid (HI.out.fresh hb1)
    have HKO := hid (keeps_fresh hb1)
    have HKQ := hid (show Kq (w.heap.size + 2) b W W1 from Kq.fresh hb1 (by have := HI.out.big; omega) (by have := HI.out.big; omega))
    have g0 := HI1.out.sum.cell
    have g1 := HI1.out.sum.frozen
    clear hW hb1 co0 co1 cs c10 c11 c20 c21 ca
    simp only [List.drop]
    go_wp2
    show KeepsFrom _ _ _ ∧ Kq _ _ _ _ ∧ ArI _ _ _
    rw [HE.out]
    refine ⟨(HKO.out.trans (KeepsOthers.setCell W1 _ _)).from _, HKQ.out.trans ⟨Below.heap_setCell W1 _ _ _ (by show w.heap.size + 2 ≠ w.heap.size + 1; omega), Below.heap_setCell W1 _ _ _ (by show b ≠ w.heap.size + 1; omega)⟩, HI1.out.set _⟩
  case done =>
    rintro D ys W hD hS hI hK
    rw [hS, arL_range, ← HN.out, areaK_all] at hI
    have cb := hI.sum.cell
    have HI := hid hI
    have HK := hid hK
    clear hI hK hS h0 hbx
    obtain ⟨R, hR⟩ : ∃ R, areaL ps = R := ⟨_, rfl⟩
    rw [hR] at cb HI
    have HRE := hid hR
    clear hR
    gi_wp2
    have hrow : ∀ r, some D = some r → w.heap.size ≤ r ∧ ∃ o : Obj, W.heap[r]? = some o ∧ o.isCells = false := fun r e => by cases e; exact ⟨by omega, _, HK.out, rfl⟩
    refine ⟨by simp, .inl ⟨_, _, rfl, run_takeDeferred HK.out, ?_⟩⟩
    have h2 := HI.out.turn (grownBy_putObj' _ D (.deferred none)) hrow
    exact ⟨.int .i64 R, by simp [results, Try.f10, go_sem], by rw [HRE.out], h2.below⟩
  case stop =>
    rintro D c pre W hD hSp h hK
    exact h.elim

theorem ringArea_any (v : Value) (ps : List Pp) (w : World) (hs : Src w v ps) (hl : ps.length ≤ 4096) :
    Calls Try.prog 10 #[v] w fun e w' => e = .returned (.int .i64 (areaL ps)) ∧ Below w.heap.size w w' := by
  obtain ⟨ao, cap, b, off, rfl, h1, h2, h3⟩ := hs.view
  exact callsIn_wide.1 (area_in ao ps.length cap b off ps w rfl h1 h2 h3 hl)
end Go.Proofs.Ytepnjknblppfcaa
