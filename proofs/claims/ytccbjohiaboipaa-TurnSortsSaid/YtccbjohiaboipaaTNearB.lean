/-
  turn's nearest, Next, Prev: the walks.
-/
import Derived.Test.YtccbjohiaboipaaTNear
namespace Go.Proofs.Ytccbjohiaboipaa
open Go.RowKit Go.Shelf Go.Sort

attribute [local go_sem] Oper.semAt_some

/-- The directions of a list, in memory: each place's two cells. -/
def Ats (W : World) (b off n : Nat) (ps : List Pp) : Prop := ∀ k, k < n → W.cell? ⟨b, off + k * 2, none⟩ = some (.int .i64 (ps.getD k (0, 0)).1) ∧ W.cell? ⟨b, off + k * 2 + 1, none⟩ = some (.int .i64 (ps.getD k (0, 0)).2)
theorem Ats.below {W W' : World} {b off n : Nat} {ps : List Pp} {B : Nat} (h : Ats W b off n ps) (hb : Below B W W') (hB : b < B) : Ats W' b off n ps := fun k hk => ⟨cell_below (h k hk).1 hb hB, cell_below (h k hk).2 hb hB⟩

set_option maxHeartbeats 1600000 in
theorem nextC_any (Bl Bi b off n cap i : Nat) (ps : List Pp) (dx dy ex ey : Int) (w : World) (hl : w.cell? ⟨Bl, 0, none⟩ = some (.slice (some ⟨b, off, none⟩) n cap)) (hi : w.cell? ⟨Bi, 0, none⟩ = some (.int .i64 (i : Nat))) (hin : i < n) (hat : Ats w b off n ps) (_hn : n ≤ 1000000) :
    Calls Try.prog 25 #[pv dx dy, pv ex ey, .pointer (some ⟨Bl, 0, none⟩), .pointer (some ⟨Bi, 0, none⟩)] w fun e w' => e = .returned (.bool (betwD (ps.getD i (0, 0)) (ex, ey) (dx, dy))) ∧ Below w.heap.size w w' := by
  obtain ⟨z0, z1⟩ := hat i hin
  generalize ps.getD i (0, 0) = PI at *
  obtain ⟨px, py⟩ := PI
  dsimp only at z0 z1
  obtain ⟨wA, hwA⟩ : ∃ wA, w.alloc (.cells #[.int .i64 dx, .int .i64 dy] 24) = wA := ⟨_, rfl⟩
  obtain ⟨wB, hwB⟩ : ∃ wB, wA.alloc (.cells #[.int .i64 ex, .int .i64 ey] 24) = wB := ⟨_, rfl⟩
  obtain ⟨hA, hB, hBL, hszB, hszA⟩ := dbox2 hwA hwB
  have HBL := hid hBL
  have ka0 := cell_regrown hA.c0; have ka1 := cell_regrown hA.c1; have kb0 := cell_regrown hB.c0; have kb1 := cell_regrown hB.c1
  have kl := cell_regrown (cell_below hl hBL (lt_of_cell hl)); have ki := cell_regrown (cell_below hi hBL (lt_of_cell hi))
  have k0 := cell_regrown (cell_below z0 hBL (lt_of_cell z0)); have k1 := cell_regrown (cell_below z1 hBL (lt_of_cell z1))
  have cb := fun d os => turnBetw_any px py ex ey dx dy (grow (redrawn wB d) os)
  have hinI : (i : Int) < (n : Int) := by omega
  generalize betwD (px, py) (ex, ey) (dx, dy) = R at *
  clear hA hB hBL hat hl hi z0 z1
  go_enter Try.func25, Try.ntmps25
  go_wp2
  refine wp_region_quiet_below (by kernel_rfl) (by kernel_rfl) ?_
  go_big_quiet_step (fail)
  go_big_quiet_step (fail)
  go_big_quiet_step (fail)
  go_big_quiet_step (fail)
  go_big_quiet_step (fail)
  go_big_quiet_step (fail)
  go_big_quiet_step (exact Calls.regrown_of (cb _ _))
  go_big_quiet_step (fail)
  refine wpQuiet_nil ?_
  intro W hW'
  obtain ⟨⟨dq, osq⟩, hW⟩ := hW'
  have hb : Below wB.heap.size wB W := by rw [hW]; exact below_regrown _ _ _
  have HW := hid (HBL.out.trans (hb.mono HBL.out.size))
  clear hW hb ka0 ka1 kb0 kb1 kl ki k0 k1 cb
  go_wp2
  go_ret
  exact ⟨rfl, HW.out⟩

set_option maxHeartbeats 1600000 in
theorem prevC_any (Bl Bi b off n cap i : Nat) (ps : List Pp) (dx dy ex ey : Int) (w : World) (hl : w.cell? ⟨Bl, 0, none⟩ = some (.slice (some ⟨b, off, none⟩) n cap)) (hi : w.cell? ⟨Bi, 0, none⟩ = some (.int .i64 (i : Nat))) (hin : i < n) (hat : Ats w b off n ps) (_hn : n ≤ 1000000) :
    Calls Try.prog 26 #[pv dx dy, pv ex ey, .pointer (some ⟨Bl, 0, none⟩), .pointer (some ⟨Bi, 0, none⟩)] w fun e w' => e = .returned (.bool (betwD (ex, ey) (ps.getD i (0, 0)) (dx, dy))) ∧ Below w.heap.size w w' := by
  obtain ⟨z0, z1⟩ := hat i hin
  generalize ps.getD i (0, 0) = PI at *
  obtain ⟨px, py⟩ := PI
  dsimp only at z0 z1
  obtain ⟨wA, hwA⟩ : ∃ wA, w.alloc (.cells #[.int .i64 dx, .int .i64 dy] 24) = wA := ⟨_, rfl⟩
  obtain ⟨wB, hwB⟩ : ∃ wB, wA.alloc (.cells #[.int .i64 ex, .int .i64 ey] 24) = wB := ⟨_, rfl⟩
  obtain ⟨hA, hB, hBL, hszB, hszA⟩ := dbox2 hwA hwB
  have HBL := hid hBL
  have ka0 := cell_regrown hA.c0; have ka1 := cell_regrown hA.c1; have kb0 := cell_regrown hB.c0; have kb1 := cell_regrown hB.c1
  have kl := cell_regrown (cell_below hl hBL (lt_of_cell hl)); have ki := cell_regrown (cell_below hi hBL (lt_of_cell hi))
  have k0 := cell_regrown (cell_below z0 hBL (lt_of_cell z0)); have k1 := cell_regrown (cell_below z1 hBL (lt_of_cell z1))
  have cb := fun d os => turnBetw_any ex ey px py dx dy (grow (redrawn wB d) os)
  have hinI : (i : Int) < (n : Int) := by omega
  generalize betwD (ex, ey) (px, py) (dx, dy) = R at *
  clear hA hB hBL hat hl hi z0 z1
  go_enter Try.func26, Try.ntmps26
  go_wp2
  refine wp_region_quiet_below (by kernel_rfl) (by kernel_rfl) ?_
  go_big_quiet_step (fail)
  go_big_quiet_step (fail)
  go_big_quiet_step (fail)
  go_big_quiet_step (fail)
  go_big_quiet_step (fail)
  go_big_quiet_step (fail)
  go_big_quiet_step (exact Calls.regrown_of (cb _ _))
  go_big_quiet_step (fail)
  refine wpQuiet_nil ?_
  intro W hW'
  obtain ⟨⟨dq, osq⟩, hW⟩ := hW'
  have hb : Below wB.heap.size wB W := by rw [hW]; exact below_regrown _ _ _
  have HW := hid (HBL.out.trans (hb.mono HBL.out.size))
  clear hW hb ka0 ka1 kb0 kb1 kl ki k0 k1 cb
  go_wp2
  go_ret
  exact ⟨rfl, HW.out⟩

/-- Amid nearest. -/
structure NrI (w : World) (sv fv : Value) (best : Nat) (W : World) : Prop where
  bl : Boxed W w.heap.size 22 sv
  bf : Boxed W (w.heap.size + 1) 54 fv
  bb : Boxed W (w.heap.size + 2) 3 (.int .i64 (best : Nat))
  below : Below w.heap.size w W
theorem NrI.turn {w W W' : World} {sv fv : Value} {best : Nat} {row : Option Nat} (h : NrI w sv fv best W) (hg : W.grownBy W' row) (hr : ∀ r, row = some r → w.heap.size ≤ r ∧ ∃ o : Obj, W.heap[r]? = some o ∧ o.isCells = false) : NrI w sv fv best W' := by
  have key : ∀ {B : Nat} {t : TypeId} {v : Value}, Boxed W B t v → Boxed W' B t v := fun {B t v} hb => hb.kept hg (fun e => by
    obtain ⟨_, o, ho, hc⟩ := hr B e.symm
    rw [show W.heap[B]? = _ from hb] at ho
    injection ho with ho
    subst ho
    cases hc)
  exact ⟨key h.bl, key h.bf, key h.bb, h.below.grown hg h.below.size (fun k e => (hr k e).1)⟩
theorem NrI.fresh {w W W' : World} {sv fv : Value} {best : Nat} (h : NrI w sv fv best W) (hb : Below W.heap.size W W') : NrI w sv fv best W' :=
  ⟨(hb.block _ h.bl.lt).trans h.bl, (hb.block _ h.bf.lt).trans h.bf, (hb.block _ h.bb.lt).trans h.bb, h.below.trans (hb.mono h.below.size)⟩
theorem NrI.set {w W : World} {sv fv : Value} {best : Nat} (h : NrI w sv fv best W) (k : Nat) : NrI w sv fv k (W.setCell ⟨w.heap.size + 2, 0, none⟩ (.int .i64 (k : Nat))) :=
  ⟨(Below.heap_setCell W _ _ _ (by show w.heap.size ≠ w.heap.size + 2; omega)).trans h.bl, (Below.heap_setCell W _ _ _ (by show w.heap.size + 1 ≠ w.heap.size + 2; omega)).trans h.bf, h.bb.set _, h.below.setCell (p := ⟨w.heap.size + 2, 0, none⟩) (by show w.heap.size ≤ w.heap.size + 2; omega) _⟩
theorem push_four (a : Array Obj) (x0 x1 x2 x3 : Obj) : ((((a.push x0).push x1).push x2).push x3)[a.size]? = some x0 ∧ ((((a.push x0).push x1).push x2).push x3)[a.size + 1]? = some x1 ∧ ((((a.push x0).push x1).push x2).push x3)[a.size + 2]? = some x2 ∧ ((((a.push x0).push x1).push x2).push x3)[a.size + 3]? = some x3 := by
  refine ⟨?_, ?_, ?_, ?_⟩ <;> simp only [Array.getElem?_push, Array.size_push] <;> repeat (first | rw [if_pos (by omega)] | rw [if_neg (by omega)] | rw [if_pos trivial])
theorem keeps_below {W W' : World} (h : Below W.heap.size W W') : KeepsOthers W W' := ⟨h.size, fun k _ hk _ => (h.block k (Array.getElem?_eq_some_iff.1 hk).1).trans hk⟩

set_option maxRecDepth 100000 in
set_option maxHeartbeats 3200000 in
theorem nearN_in (c1 c2 : Value) (nb : Nat → Nat → Bool) (b off n cap i : Nat) (ps : List Pp) (w : World) (hin : i < n) (hat : Ats w b off n ps) (hn : n ≤ 100000)
    (hcl : ∀ W, Below w.heap.size w W → ∀ best k, best < n → k < n → Calls Try.prog 25 #[pv (ps.getD k (0, 0)).1 (ps.getD k (0, 0)).2, pv (ps.getD best (0, 0)).1 (ps.getD best (0, 0)).2, c1, c2] W fun e w' => e = .returned (.bool (nb best k)) ∧ Below W.heap.size W w') :
    CallsIn Fence.wide 12 Try.prog 24 #[.slice (some ⟨b, off, none⟩) n cap, .int .i64 (i : Nat), (.func (.func 25) #[] #[c1, c2])] w fun e w' => e = .returned (.int .i64 (nrL nb i (List.range n) : Nat)) ∧ Below w.heap.size w w' := by
  have HAT := hid hat
  have HCL := hid hcl
  have hi0 : ¬ (i : Int) < 0 := by omega
  have hinI : (i : Int) < (n : Int) := by omega
  have hnb : 1 ≤ n := by omega
  have hbb : b < w.heap.size := lt_of_cell (hat i hin).1
  have hmx : Try.prog.follows .mixedOrders = true := by kernel_rfl
  clear hcl hat
  refine callsIn_of_wp_marks Try.func24 rfl trivial ?_ rfl
  simp only [Try.ntmps24, List.size_toArray, List.length_cons, List.length_nil, Nat.reduceAdd, Nat.reduceSub, Array.replicate_succ, Array.replicate_zero, List.push_toArray, List.append_toArray, List.nil_append, List.cons_append]
  have hw : ∀ k, Fence.wide.fn k := fun _ => trivial
  gi_wp2_with (gi_at_call 37; refine (callsIn_wide.2 (placesOf_any _ _ _ _)).mono ?_; rintro e w' ⟨rfl, rfl⟩)
  obtain ⟨W0, hW0⟩ : ∃ W0, (((w.alloc (.cells #[.slice (some ⟨b, off, none⟩) n cap] 22)).alloc (.cells #[(.func (.func 25) #[] #[c1, c2])] 54)).alloc (.cells #[.int .i64 (i : Nat)] 3)).alloc (.cells #[.slice (some ⟨b, off, none⟩) n cap] 22) = W0 := ⟨_, rfl⟩
  have hsz : W0.heap.size = w.heap.size + 4 := by rw [← hW0]; simp
  have hF0 : Below w.heap.size w W0 := by rw [← hW0]; exact ((((Below.refl _ w).alloc (Nat.le_refl _) _).alloc (by simp) _).alloc (by simp; omega) _).alloc (by simp; omega) _
  have hpush := push_four w.heap (.cells #[.slice (some ⟨b, off, none⟩) n cap] 22) (.cells #[(.func (.func 25) #[] #[c1, c2])] 54) (.cells #[.int .i64 (i : Nat)] 3) (.cells #[.slice (some ⟨b, off, none⟩) n cap] 22)
  have h0 : NrI w (.slice (some ⟨b, off, none⟩) n cap) (.func (.func 25) #[] #[c1, c2]) i W0 := ⟨by rw [← hW0]; exact hpush.1, by rw [← hW0]; exact hpush.2.1, by rw [← hW0]; exact hpush.2.2.1, hF0⟩
  have hbx : Boxed W0 (w.heap.size + 3) 22 (.slice (some ⟨b, off, none⟩) n cap) := by rw [← hW0]; exact hpush.2.2.2
  rw [hW0]
  clear hW0 hpush
  refine wpIn_rangeFunc_ownG rfl (by decide) (gf := 46) (lb := #[.pointer (some ⟨w.heap.size + 1 + 1 + 1, 0, none⟩)]) rfl trivial (enters_of Try.func46 (by kernel_rfl) rfl)
    (places_stops (12 - 1) (by decide) (w.heap.size + 3) n cap _ W0 hbx.cell (by omega)) (fun _ _ => trivial) (fun _ _ _ _ _ _ _ _ => trivial) (Below.refl _ _) (fun _ => rfl)
    (fun pre W => NrI w (.slice (some ⟨b, off, none⟩) n cap) (.func (.func 25) #[] #[c1, c2]) (nrL nb i (pre.map (·.1))) W)
    (fun _ _ _ => False) ?hI ?hIx ?h0
    (fun x => { tmps := #[.slice (some ⟨b, off, none⟩) n cap, .int .i64 (i : Nat), (.func (.func 25) #[] #[c1, c2]), .pointer (some ⟨w.heap.size, 0, none⟩), undef, .pointer (some ⟨w.heap.size + 1, 0, none⟩), .int .i64 0, .pointer (some ⟨w.heap.size + 1 + 1, 0, none⟩), .int .i64 (x.1 : Nat), .int .i64 (i : Nat), .bool false, .bool false, .int .i64 (i : Nat), .slice (some ⟨b, off, none⟩) n cap, .int .i64 (n : Nat), .bool false, .bool false, undef, .int .i64 (i : Nat), .slice (some ⟨b, off, none⟩) n cap, .func (.func 46) #[] #[.pointer (some ⟨w.heap.size + 1 + 1 + 1, 0, none⟩)], .int .i64 (x.1 : Nat), undef, undef, undef, undef, undef, undef, undef, undef, undef, undef, undef, undef], defers := [] }) ?assign ?body ?done ?stop
  case hI =>
    rintro s A B' row hs hg' hrow
    exact hs.turn hg' (fun r e => ⟨by have := (hrow r e).1; omega, (hrow r e).2⟩)
  case hIx =>
    rintro c s A B' row h
    exact h.elim
  case h0 => exact h0
  case assign =>
    intro l x W K hK
    gi_wp2
    exact hK
  case body =>
    rintro l pre x W hI hlt
    have hb0 : nrL nb i (pre.map (·.1)) < n := nrL_lt hin _ (fun k hk => by obtain ⟨y, _, rfl⟩ := List.mem_map.1 hk; exact y.2)
    have HE := hid (show nrL nb i ((pre ++ [x]).map (·.1)) = nrF nb (nrL nb i (pre.map (·.1))) x.1 by rw [List.map_append]; exact nrL_snoc nb i _ _)
    have HI := hid hI
    have cl := cell_regrown hI.bl.cell
    have cf := cell_regrown hI.bf.cell
    have cb := cell_regrown hI.bb.cell
    have hx : x.1 < n := x.2
    generalize x.1 = k at *
    generalize nrL nb i (pre.map (·.1)) = best at *
    have HAW := hid (HAT.out.below hI.below hbb)
    have HCW := hid (fun d os => HCL.out (grow (redrawn W d) os) (hI.below.trans ((below_regrown W d os).mono hI.below.size)) best k hb0 hx)
    obtain ⟨z0, z1⟩ := HAW.out k hx
    obtain ⟨y0, y1⟩ := HAW.out best hb0
    generalize ps.getD k (0, 0) = PK at *
    generalize ps.getD best (0, 0) = PB at *
    obtain ⟨kx, ky⟩ := PK
    obtain ⟨ex, ey⟩ := PB
    dsimp only at z0 z1 y0 y1 HCW
    have kz0 := cell_regrown z0; have kz1 := cell_regrown z1; have ky0 := cell_regrown y0; have ky1 := cell_regrown y1
    have cq := HCW.out
    have hkI : (k : Int) < (n : Int) := by omega
    have hbI : (best : Int) < (n : Int) := by omega
    have HB := hid (show nb best k = nb best k from rfl)
    generalize hR : nb best k = R at *
    have HR := hid hR
    clear hR hI HAW HCW z0 z1 y0 y1 h0 hbx HB
    gi_wp2
    refine wpIn_region_quiet_round hmx (by kernel_rfl) (by kernel_rfl) ?_
    go_big_quiet_step (fail)
    go_big_quiet_step (fail)
    go_big_quiet_step (fail)
    go_big_quiet_step (fail)
    go_big_quiet_step (fail)
    go_big_quiet_step (fail)
    go_big_quiet_step (fail)
    go_big_quiet_step (fail)
    go_big_quiet_step (fail)
    go_big_quiet_step (exact Calls.regrown_of (cq _ _))
    refine wpQuiet_nil ?_
    intro W1 hW'
    obtain ⟨⟨dq, osq⟩, hW⟩ := hW'
    have hb1 : Below W.heap.size W W1 := by rw [hW]; exact below_regrown _ _ _
    have HI1 := hid (HI.out.fresh hb1)
    have HKO := hid (keeps_below hb1)
    have g0 := HI1.out.bb.cell
    have g1 := HI1.out.bb.frozen
    clear hW hb1 cl cf cb kz0 kz1 ky0 ky1 cq
    cases R with
    | true =>
      gi_wp2
      refine ⟨(HKO.out.trans (KeepsOthers.setCell W1 _ _)).from _, trivial, ?_⟩
      show NrI w _ _ (nrL nb i ((pre ++ [x]).map (·.1))) _
      rw [HE.out, show nrF nb best k = k by unfold nrF; rw [HR.out]; rfl]
      exact HI1.out.set k
    | false =>
      gi_wp2
      refine ⟨HKO.out.from _, trivial, ?_⟩
      show NrI w _ _ (nrL nb i ((pre ++ [x]).map (·.1))) _
      rw [HE.out, show nrF nb best k = best by unfold nrF; rw [HR.out]; rfl]
      exact HI1.out
  case done =>
    rintro D ys W hD hS hI hK
    rw [hS] at hI
    have cb := hI.bb.cell
    have HI := hid hI
    have HK := hid hK
    clear hI hK hS h0 hbx
    obtain ⟨R, hR⟩ : ∃ R, nrL nb i (List.range n) = R := ⟨_, rfl⟩
    rw [hR] at cb HI
    have HRE := hid hR
    clear hR
    gi_wp2
    have hrow : ∀ r, some D = some r → w.heap.size ≤ r ∧ ∃ o : Obj, W.heap[r]? = some o ∧ o.isCells = false := fun r e => by cases e; exact ⟨by omega, _, HK.out, rfl⟩
    refine ⟨by simp, .inl ⟨_, _, rfl, run_takeDeferred HK.out, ?_⟩⟩
    have h2 := HI.out.turn (grownBy_putObj' _ D (.deferred none)) hrow
    exact ⟨.int .i64 (R : Nat), by simp [results, Try.f24, go_sem], by rw [HRE.out], h2.below⟩
  case stop =>
    rintro D c pre W hD hSp h hK
    exact h.elim

set_option maxRecDepth 100000 in
set_option maxHeartbeats 3200000 in
theorem nearP_in (c1 c2 : Value) (nb : Nat → Nat → Bool) (b off n cap i : Nat) (ps : List Pp) (w : World) (hin : i < n) (hat : Ats w b off n ps) (hn : n ≤ 100000)
    (hcl : ∀ W, Below w.heap.size w W → ∀ best k, best < n → k < n → Calls Try.prog 26 #[pv (ps.getD k (0, 0)).1 (ps.getD k (0, 0)).2, pv (ps.getD best (0, 0)).1 (ps.getD best (0, 0)).2, c1, c2] W fun e w' => e = .returned (.bool (nb best k)) ∧ Below W.heap.size W w') :
    CallsIn Fence.wide 12 Try.prog 24 #[.slice (some ⟨b, off, none⟩) n cap, .int .i64 (i : Nat), (.func (.func 26) #[] #[c1, c2])] w fun e w' => e = .returned (.int .i64 (nrL nb i (List.range n) : Nat)) ∧ Below w.heap.size w w' := by
  have HAT := hid hat
  have HCL := hid hcl
  have hi0 : ¬ (i : Int) < 0 := by omega
  have hinI : (i : Int) < (n : Int) := by omega
  have hnb : 1 ≤ n := by omega
  have hbb : b < w.heap.size := lt_of_cell (hat i hin).1
  have hmx : Try.prog.follows .mixedOrders = true := by kernel_rfl
  clear hcl hat
  refine callsIn_of_wp_marks Try.func24 rfl trivial ?_ rfl
  simp only [Try.ntmps24, List.size_toArray, List.length_cons, List.length_nil, Nat.reduceAdd, Nat.reduceSub, Array.replicate_succ, Array.replicate_zero, List.push_toArray, List.append_toArray, List.nil_append, List.cons_append]
  have hw : ∀ k, Fence.wide.fn k := fun _ => trivial
  gi_wp2_with (gi_at_call 37; refine (callsIn_wide.2 (placesOf_any _ _ _ _)).mono ?_; rintro e w' ⟨rfl, rfl⟩)
  obtain ⟨W0, hW0⟩ : ∃ W0, (((w.alloc (.cells #[.slice (some ⟨b, off, none⟩) n cap] 22)).alloc (.cells #[(.func (.func 26) #[] #[c1, c2])] 54)).alloc (.cells #[.int .i64 (i : Nat)] 3)).alloc (.cells #[.slice (some ⟨b, off, none⟩) n cap] 22) = W0 := ⟨_, rfl⟩
  have hsz : W0.heap.size = w.heap.size + 4 := by rw [← hW0]; simp
  have hF0 : Below w.heap.size w W0 := by rw [← hW0]; exact ((((Below.refl _ w).alloc (Nat.le_refl _) _).alloc (by simp) _).alloc (by simp; omega) _).alloc (by simp; omega) _
  have hpush := push_four w.heap (.cells #[.slice (some ⟨b, off, none⟩) n cap] 22) (.cells #[(.func (.func 26) #[] #[c1, c2])] 54) (.cells #[.int .i64 (i : Nat)] 3) (.cells #[.slice (some ⟨b, off, none⟩) n cap] 22)
  have h0 : NrI w (.slice (some ⟨b, off, none⟩) n cap) (.func (.func 26) #[] #[c1, c2]) i W0 := ⟨by rw [← hW0]; exact hpush.1, by rw [← hW0]; exact hpush.2.1, by rw [← hW0]; exact hpush.2.2.1, hF0⟩
  have hbx : Boxed W0 (w.heap.size + 3) 22 (.slice (some ⟨b, off, none⟩) n cap) := by rw [← hW0]; exact hpush.2.2.2
  rw [hW0]
  clear hW0 hpush
  refine wpIn_rangeFunc_ownG rfl (by decide) (gf := 46) (lb := #[.pointer (some ⟨w.heap.size + 1 + 1 + 1, 0, none⟩)]) rfl trivial (enters_of Try.func46 (by kernel_rfl) rfl)
    (places_stops (12 - 1) (by decide) (w.heap.size + 3) n cap _ W0 hbx.cell (by omega)) (fun _ _ => trivial) (fun _ _ _ _ _ _ _ _ => trivial) (Below.refl _ _) (fun _ => rfl)
    (fun pre W => NrI w (.slice (some ⟨b, off, none⟩) n cap) (.func (.func 26) #[] #[c1, c2]) (nrL nb i (pre.map (·.1))) W)
    (fun _ _ _ => False) ?hI ?hIx ?h0
    (fun x => { tmps := #[.slice (some ⟨b, off, none⟩) n cap, .int .i64 (i : Nat), (.func (.func 26) #[] #[c1, c2]), .pointer (some ⟨w.heap.size, 0, none⟩), undef, .pointer (some ⟨w.heap.size + 1, 0, none⟩), .int .i64 0, .pointer (some ⟨w.heap.size + 1 + 1, 0, none⟩), .int .i64 (x.1 : Nat), .int .i64 (i : Nat), .bool false, .bool false, .int .i64 (i : Nat), .slice (some ⟨b, off, none⟩) n cap, .int .i64 (n : Nat), .bool false, .bool false, undef, .int .i64 (i : Nat), .slice (some ⟨b, off, none⟩) n cap, .func (.func 46) #[] #[.pointer (some ⟨w.heap.size + 1 + 1 + 1, 0, none⟩)], .int .i64 (x.1 : Nat), undef, undef, undef, undef, undef, undef, undef, undef, undef, undef, undef, undef], defers := [] }) ?assign ?body ?done ?stop
  case hI =>
    rintro s A B' row hs hg' hrow
    exact hs.turn hg' (fun r e => ⟨by have := (hrow r e).1; omega, (hrow r e).2⟩)
  case hIx =>
    rintro c s A B' row h
    exact h.elim
  case h0 => exact h0
  case assign =>
    intro l x W K hK
    gi_wp2
    exact hK
  case body =>
    rintro l pre x W hI hlt
    have hb0 : nrL nb i (pre.map (·.1)) < n := nrL_lt hin _ (fun k hk => by obtain ⟨y, _, rfl⟩ := List.mem_map.1 hk; exact y.2)
    have HE := hid (show nrL nb i ((pre ++ [x]).map (·.1)) = nrF nb (nrL nb i (pre.map (·.1))) x.1 by rw [List.map_append]; exact nrL_snoc nb i _ _)
    have HI := hid hI
    have cl := cell_regrown hI.bl.cell
    have cf := cell_regrown hI.bf.cell
    have cb := cell_regrown hI.bb.cell
    have hx : x.1 < n := x.2
    generalize x.1 = k at *
    generalize nrL nb i (pre.map (·.1)) = best at *
    have HAW := hid (HAT.out.below hI.below hbb)
    have HCW := hid (fun d os => HCL.out (grow (redrawn W d) os) (hI.below.trans ((below_regrown W d os).mono hI.below.size)) best k hb0 hx)
    obtain ⟨z0, z1⟩ := HAW.out k hx
    obtain ⟨y0, y1⟩ := HAW.out best hb0
    generalize ps.getD k (0, 0) = PK at *
    generalize ps.getD best (0, 0) = PB at *
    obtain ⟨kx, ky⟩ := PK
    obtain ⟨ex, ey⟩ := PB
    dsimp only at z0 z1 y0 y1 HCW
    have kz0 := cell_regrown z0; have kz1 := cell_regrown z1; have ky0 := cell_regrown y0; have ky1 := cell_regrown y1
    have cq := HCW.out
    have hkI : (k : Int) < (n : Int) := by omega
    have hbI : (best : Int) < (n : Int) := by omega
    have HB := hid (show nb best k = nb best k from rfl)
    generalize hR : nb best k = R at *
    have HR := hid hR
    clear hR hI HAW HCW z0 z1 y0 y1 h0 hbx HB
    gi_wp2
    refine wpIn_region_quiet_round hmx (by kernel_rfl) (by kernel_rfl) ?_
    go_big_quiet_step (fail)
    go_big_quiet_step (fail)
    go_big_quiet_step (fail)
    go_big_quiet_step (fail)
    go_big_quiet_step (fail)
    go_big_quiet_step (fail)
    go_big_quiet_step (fail)
    go_big_quiet_step (fail)
    go_big_quiet_step (fail)
    go_big_quiet_step (exact Calls.regrown_of (cq _ _))
    refine wpQuiet_nil ?_
    intro W1 hW'
    obtain ⟨⟨dq, osq⟩, hW⟩ := hW'
    have hb1 : Below W.heap.size W W1 := by rw [hW]; exact below_regrown _ _ _
    have HI1 := hid (HI.out.fresh hb1)
    have HKO := hid (keeps_below hb1)
    have g0 := HI1.out.bb.cell
    have g1 := HI1.out.bb.frozen
    clear hW hb1 cl cf cb kz0 kz1 ky0 ky1 cq
    cases R with
    | true =>
      gi_wp2
      refine ⟨(HKO.out.trans (KeepsOthers.setCell W1 _ _)).from _, trivial, ?_⟩
      show NrI w _ _ (nrL nb i ((pre ++ [x]).map (·.1))) _
      rw [HE.out, show nrF nb best k = k by unfold nrF; rw [HR.out]; rfl]
      exact HI1.out.set k
    | false =>
      gi_wp2
      refine ⟨HKO.out.from _, trivial, ?_⟩
      show NrI w _ _ (nrL nb i ((pre ++ [x]).map (·.1))) _
      rw [HE.out, show nrF nb best k = best by unfold nrF; rw [HR.out]; rfl]
      exact HI1.out
  case done =>
    rintro D ys W hD hS hI hK
    rw [hS] at hI
    have cb := hI.bb.cell
    have HI := hid hI
    have HK := hid hK
    clear hI hK hS h0 hbx
    obtain ⟨R, hR⟩ : ∃ R, nrL nb i (List.range n) = R := ⟨_, rfl⟩
    rw [hR] at cb HI
    have HRE := hid hR
    clear hR
    gi_wp2
    have hrow : ∀ r, some D = some r → w.heap.size ≤ r ∧ ∃ o : Obj, W.heap[r]? = some o ∧ o.isCells = false := fun r e => by cases e; exact ⟨by omega, _, HK.out, rfl⟩
    refine ⟨by simp, .inl ⟨_, _, rfl, run_takeDeferred HK.out, ?_⟩⟩
    have h2 := HI.out.turn (grownBy_putObj' _ D (.deferred none)) hrow
    exact ⟨.int .i64 (R : Nat), by simp [results, Try.f24, go_sem], by rw [HRE.out], h2.below⟩
  case stop =>
    rintro D c pre W hD hSp h hK
    exact h.elim

theorem near_out (ao : Option Addr) (n cap : Nat) (i : Int) (fv : Value) (w : World) (hi : i < 0 ∨ (n : Int) ≤ i) (hfv : ∃ f c1 c2, fv = .func (.func f) #[] #[c1, c2]) :
    Calls Try.prog 24 #[.slice ao n cap, .int .i64 i, fv] w fun e w' => e = .returned (.int .i64 i) ∧ Below w.heap.size w w' := by
  obtain ⟨f, c1, c2, rfl⟩ := hfv
  have HB := hid (show Below w.heap.size w ((w.alloc (.cells #[.slice ao n cap] 22)).alloc (.cells #[.func (.func f) #[] #[c1, c2]] 54)) from ((Below.refl _ w).alloc (Nat.le_refl _) _).alloc (by simp) _)
  by_cases h0 : i < 0
  · clear hi
    go_enter Try.func24, Try.ntmps24
    go_wp2
    go_ret
    exact ⟨rfl, HB.out⟩
  · have h1 : (n : Int) ≤ i := by omega
    clear hi
    go_enter Try.func24, Try.ntmps24
    go_wp2
    go_ret
    exact ⟨rfl, HB.out⟩
end Go.Proofs.Ytccbjohiaboipaa
