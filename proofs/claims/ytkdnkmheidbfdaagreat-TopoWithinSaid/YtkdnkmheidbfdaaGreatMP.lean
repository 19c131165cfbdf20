/-
  ring's segments, told one by one.
-/
import Derived.RangeFuncNested
import Derived.RangeFuncBound
import Derived.RangeFuncCalls
import Derived.RangeFuncLeaves
import Derived.RangeFuncBox
import Derived.Shelf.Abstract
import Derived.Shelf.RegionOpen
import Derived.OwnWalkIn
import Derived.TacticsInMore
import Derived.LoopNIn
import Derived.LoopIn
import Derived.Test.YtkdnkmheidbfdaaGreatMD
import Derived.Test.YtkdnkmheidbfdaaGreatMO
import Derived.Test.YtkdnkmheidbfdaaGreatMN
import Derived.Test.YtkdnkmheidbfdaaGreatM7
namespace Go.Proofs.YtkdnkmheidbfdaaGreat
open Go.RowKit Go.Shelf

attribute [local go_sem] Oper.semAt_some

/-- What a round is handed: a segment, by its number. -/
abbrev Sg (n : Nat) : Type := { x : Nat // x < n }
def nxt (ps : List Pp) (i : Nat) : Pp := lpt ps ((i + 1) % ps.length)
abbrev sgV (ps : List Pp) (x : Nat) : Array Value := #[pv (lpt ps x).1 (lpt ps x).2, pv (nxt ps x).1 (nxt ps x).2]
def CellsAt (W : World) (b off : Nat) (ps : List Pp) : Prop := ∀ i, i < ps.length → W.cell? ⟨b, off + i * 2, none⟩ = some (.int .i64 (lpt ps i).1) ∧ W.cell? ⟨b, off + i * 2 + 1, none⟩ = some (.int .i64 (lpt ps i).2)
/-- What a round keeps: the box of the points, and their row. -/
structure Kq (Bx b : Nat) (W W' : World) : Prop where
  box : W'.heap[Bx]? = W.heap[Bx]?
  row : W'.heap[b]? = W.heap[b]?
theorem Kq.trans {Bx b : Nat} {A B C : World} (h : Kq Bx b A B) (k : Kq Bx b B C) : Kq Bx b A C := ⟨k.box.trans h.box, k.row.trans h.row⟩
theorem Kq.fresh {Bx b : Nat} {A B : World} (h : Below A.heap.size A B) (h1 : Bx < A.heap.size) (h2 : b < A.heap.size) : Kq Bx b A B := ⟨h.block _ h1, h.block _ h2⟩
theorem Kq.putObj {Bx b : Nat} (W : World) (l : Nat) (o' : Obj) (h1 : Bx < W.heap.size) (h2 : b < W.heap.size) (n1 : Bx ≠ l) (n2 : b ≠ l) : Kq Bx b W (W.putObj l o') :=
  ⟨(grownBy_putObj' W l o').block _ h1 (fun e => n1 (Option.some.inj e)), (grownBy_putObj' W l o').block _ h2 (fun e => n2 (Option.some.inj e))⟩
theorem cell_same {W W' : World} {b : Nat} (i : Nat) (h : W'.heap[b]? = W.heap[b]?) : W'.cell? ⟨b, i, none⟩ = W.cell? ⟨b, i, none⟩ := by
  unfold World.cell?
  simp [h]
theorem CellsAt.same {W W' : World} {b off : Nat} {ps : List Pp} (h : CellsAt W b off ps) (e : W'.heap[b]? = W.heap[b]?) : CellsAt W' b off ps := fun i hi =>
  ⟨(cell_same _ e).trans (h i hi).1, (cell_same _ e).trans (h i hi).2⟩
theorem grown_drewM (w : World) (q : Nat) : w.grownBy (w.drewN q) none := ⟨rfl, rfl, rfl, Nat.le_refl _, fun _ _ _ => rfl⟩

set_option maxRecDepth 100000 in
set_option maxHeartbeats 3200000 in
theorem segs_in (m : Nat) (hm : 2 ≤ m) (l Bx b off n cap : Nat) (ao : Option Addr) (ps : List Pp) (hn : ps.length = n) (J Jx : List (Sg n) → World → Prop) (W : World) (hAb : AbidesFrom W.heap.size J)
    (hY : ∀ pre x W1, J pre W1 → pre.length < n → YieldAt Fence.wide (m - 1) Tryz.prog l (sgV ps x.1) W1 fun e W' =>
      (e = .returned (.bool true) ∧ J (pre ++ [x]) W' ∧ Kq Bx b W1 W') ∨ (e = .returned (.bool false) ∧ Jx (pre ++ [x]) W'))
    (hbx : W.cell? ⟨Bx, 0, none⟩ = some (.slice ao n cap)) (hao : 1 ≤ n → ao = some ⟨b, off, none⟩) (hat : CellsAt W b off ps) (hl : n ≤ 1000000) (h0 : J [] W) :
    CallsIn Fence.wide m Tryz.prog 177 #[.func (.yield l) #[] #[], .pointer (some ⟨Bx, 0, none⟩)] W fun e W' => (∃ v, e = .returned v) ∧
      ((∃ xs, xs.map (·.1) = List.range n ∧ J xs W') ∨ (∃ pre, True ∧ Jx pre W')) := by
  have HN := hid hn
  have HAO := hid hao
  have HAT := hid hat
  have hmx : Tryz.prog.follows .mixedOrders = true := by kernel_rfl
  clear hn hao hat
  refine callsIn_of_wp Tryz.func177 rfl trivial ?_ rfl
  simp only [Tryz.ntmps177, List.size_toArray, List.length_cons, List.length_nil, Nat.reduceAdd, Nat.reduceSub, Array.replicate_succ, Array.replicate_zero, List.push_toArray, List.append_toArray, List.nil_append, List.cons_append]
  gi_wp2
  gi_loopw [3, 4, 7] (fun _ _ i wr => ∃ (k : Nat) (pre : List (Sg n)), k ≤ n ∧ i = .int .i64 k ∧ pre.map (·.1) = List.range k ∧ J pre wr ∧ wr.cell? ⟨Bx, 0, none⟩ = some (.slice ao n cap) ∧ CellsAt wr b off ps) (fun _ _ i _ => n - (intOf i).toNat)
  case atStart => exact ⟨0, [], Nat.zero_le _, rfl, rfl, h0, hbx, HAT.out⟩
  case round =>
    obtain ⟨k, pre, hk, rfl, hpre, hJs, hbr, hat⟩ := hrel
    by_cases hlt : k < n
    · obtain rfl := HAO.out (by omega)
      have hltI : (k : Int) < (n : Int) := by omega
      have hn0 : ¬ (n : Int) = 0 := by omega
      have hn0B : ((n : Int) == 0) = false := by simpa using hn0
      obtain ⟨j, hj⟩ : ∃ j : Nat, (k + 1) % n = j := ⟨_, rfl⟩
      have hjn : j < n := by rw [← hj]; exact Nat.mod_lt _ (by omega)
      have hjI : (j : Int) < (n : Int) := by omega
      have hwk : IntKind.i64.wrap ((k : Int) + 1) = (k : Int) + 1 := by rw [IntKind.wrap_i64]; omega
      have hmod : Int.tmod ((k : Int) + 1) (n : Int) = (j : Int) := by rw [tmod_next (by omega), hj]
      obtain ⟨z0, z1⟩ := hat k (by rw [HN.out]; omega)
      obtain ⟨x0, x1⟩ := hat j (by rw [HN.out]; omega)
      have hnx : nxt ps k = lpt ps j := by unfold nxt; rw [HN.out, hj]
      have hprel : pre.length = k := by
        have := congrArg List.length hpre
        rwa [List.length_map, List.length_range] at this
      obtain ⟨W1, hW1⟩ : ∃ W1, wr.alloc (.cells #[.int .i64 (lpt ps k).1, .int .i64 (lpt ps k).2] 23) = W1 := ⟨_, rfl⟩
      have hJ1 : J pre W1 := by rw [← hW1]; exact hAb _ _ _ none hJs (World.grownBy_alloc _ _ none) (fun r hr => by cases hr)
      obtain ⟨hPA, hB1, hszA⟩ := box1 hW1
      have HY := hid (fun q => hY pre ⟨k, hlt⟩ (W1.drewN q) (hAb _ _ _ none hJ1 (grown_drewM W1 q) (fun r hr => by cases hr)) (by omega))
      dsimp only [sgV] at HY
      rw [hnx] at HY
      have d0 := hPA.c0
      have d1 := hPA.c1
      have hlb : b < wr.heap.size := World.block_lt_of_cell? wr _ z0
      have hlx : Bx < wr.heap.size := World.block_lt_of_cell? wr _ hbr
      have y0 : W1.cell? ⟨b, off + j * 2, none⟩ = _ := (hB1.cell (p := ⟨b, off + j * 2, none⟩) hlb).trans x0
      have y1 : W1.cell? ⟨b, off + j * 2 + 1, none⟩ = _ := (hB1.cell (p := ⟨b, off + j * 2 + 1, none⟩) hlb).trans x1
      have y2 : W1.cell? ⟨Bx, 0, none⟩ = _ := (hB1.cell (p := ⟨Bx, 0, none⟩) hlx).trans hbr
      have HBX := hid y2
      have HAT1 := hid (show CellsAt W1 b off ps from hat.same (hB1.block b hlb))
      have HP := hid hpre
      clear hat hpre hprel hnx hj hJ1 hJs hB1 hbx x0 x1 hPA
      generalize (lpt ps k).1 = KX at *
      generalize (lpt ps k).2 = KY at *
      generalize (lpt ps j).1 = NX at *
      generalize (lpt ps j).2 = NY at *
      gi_wp2
      refine wpIn_region_tail 10 rfl hmx (by kernel_rfl) ?_
      simp only [List.take]
      gi_big_quiet_step (fail)
      gi_big_quiet_step (fail)
      gi_big_quiet_step (fail)
      gi_big_quiet_step (fail)
      gi_big_quiet_step (fail)
      gi_big_quiet_step (fail)
      gi_big_quiet_step (fail)
      gi_big_quiet_step (fail)
      gi_big_quiet_step (fail)
      gi_big_quiet_step (fail)
      refine wpQuietIn_nil ?_
      intro w' hw'
      obtain ⟨q, rfl⟩ := hw'
      obtain ⟨fn, tmps, assign, body, hy, hR⟩ := HY.out q
      have HR := hid hR
      clear hR HY
      simp only [List.drop]
      gi_wp2
      refine ⟨fun _ => by omega, HR.out.mono ?_⟩
      rintro e W3 (⟨rfl, hJ3, hk3⟩ | ⟨rfl, hJx3⟩)
      · clear hy
        gi_wp2
        go_roundw
        case rel =>
          refine ⟨k + 1, _, by omega, by go_num, ?_, hJ3, (cell_same 0 hk3.box).trans HBX.out, HAT1.out.same hk3.row⟩
          rw [List.map_append, HP.out, List.range_succ]
          rfl
        case measure => simp [intOf]; omega
      · clear hy
        gi_wp2
        refine bodyPost_ret (results_none rfl _ _ _) rfl ?_
        exact ⟨⟨_, rfl⟩, .inr ⟨_, trivial, hJx3⟩⟩
    · obtain rfl : k = n := by omega
      have HF := hid hpre
      clear hpre
      gi_wp2
      go_end0
      exact ⟨⟨_, rfl⟩, .inl ⟨pre, HF.out, hJs⟩⟩
theorem segs_stops (m : Nat) (hm : 2 ≤ m) (Bx b off n cap : Nat) (ao : Option Addr) (ps : List Pp) (hn : ps.length = n) (w : World) (hbx : w.cell? ⟨Bx, 0, none⟩ = some (.slice ao n cap)) (hao : 1 ≤ n → ao = some ⟨b, off, none⟩) (hat : CellsAt w b off ps) (hl : n ≤ 1000000) :
    SeqStopsK Fence.wide m Tryz.prog 177 #[.pointer (some ⟨Bx, 0, none⟩)] (fun x : Sg n => sgV ps x.1) (Kq Bx b) (fun xs => xs.map (·.1) = List.range n) (fun _ => True) n w := fun l J Jx W hW hJ _ hY h0 =>
  segs_in m hm l Bx b off n cap ao ps hn J Jx W hJ hY ((hW.cell (p := ⟨Bx, 0, none⟩) (World.block_lt_of_cell? w _ hbx)).trans hbx) hao (fun i hi => by
    obtain ⟨z0, z1⟩ := hat i hi
    have hb := World.block_lt_of_cell? w _ z0
    exact ⟨(hW.cell (p := ⟨b, off + i * 2, none⟩) hb).trans z0, (hW.cell (p := ⟨b, off + i * 2 + 1, none⟩) hb).trans z1⟩) hl h0

theorem segmentsOf_any (ao : Option Addr) (n cap : Nat) (w : World) :
    Calls Tryz.prog 150 #[.slice ao n cap] w fun e w' => e = .returned (.func (.func 177) #[] #[.pointer (some ⟨w.heap.size, 0, none⟩)]) ∧ w' = w.alloc (.cells #[.slice ao n cap] 27) := by
  go_enter Tryz.func150, Tryz.ntmps150
  go_wp2
  go_ret
  exact ⟨rfl, rfl⟩
end Go.Proofs.YtkdnkmheidbfdaaGreat

namespace Go.Proofs.YtkdnkmheidbfdaaGreat
open Go.RowKit Go.Shelf Go.Sort

attribute [local go_sem] Oper.semAt_some

theorem Src.view {w : World} {v : Value} {ps : List Pp} (h : Src w v ps) : ∃ ao cap b off, v = .slice ao ps.length cap ∧ (1 ≤ ps.length → ao = some ⟨b, off, none⟩) ∧ CellsAt w b off ps ∧ b ≤ w.heap.size := by
  rcases h with ⟨rfl, rfl⟩ | ⟨b, off, cap, rfl, _, hc⟩
  · exact ⟨none, 0, w.heap.size, 0, rfl, fun h => by simp at h, fun i hi => by simp at hi, Nat.le_refl _⟩
  · by_cases h1 : 1 ≤ ps.length
    · refine ⟨_, cap, b, off, rfl, fun _ => rfl, fun i hi => hc i _ (at_lpt hi), ?_⟩
      exact Nat.le_of_lt (World.block_lt_of_cell? w _ (hc 0 _ (at_lpt (by omega))).1)
    · exact ⟨_, cap, w.heap.size, 0, rfl, fun h => absurd h h1, fun i hi => by omega, Nat.le_refl _⟩
theorem CellsAt.below {w w' : World} {b off : Nat} {ps : List Pp} (h : CellsAt w b off ps) (hb : Below w.heap.size w w') : CellsAt w' b off ps := fun i hi => by
  obtain ⟨z0, z1⟩ := h i hi
  have hl := World.block_lt_of_cell? w _ z0
  exact ⟨(hb.cell (p := ⟨b, off + i * 2, none⟩) hl).trans z0, (hb.cell (p := ⟨b, off + i * 2 + 1, none⟩) hl).trans z1⟩
theorem boxed_below {w w' : World} {B : Nat} {t : TypeId} {v : Value} (h : Boxed w B t v) (hb : Below w.heap.size w w') : Boxed w' B t v := (hb.block _ h.lt).trans h
theorem push3 (a : Array Obj) (x0 x1 x2 : Obj) : (((a.push x0).push x1).push x2)[a.size]? = some x0 ∧ (((a.push x0).push x1).push x2)[a.size + 1]? = some x1 ∧ (((a.push x0).push x1).push x2)[a.size + 2]? = some x2 := by
  refine ⟨?_, ?_, ?_⟩ <;> simp only [Array.getElem?_push, Array.size_push] <;> repeat (first | rw [if_pos (by omega)] | rw [if_neg (by omega)] | rw [if_pos trivial])
theorem block_turn {W W' : World} {row : Option Nat} (hg : W.grownBy W' row) (hr : ∀ r, row = some r → ∃ o : Obj, W.heap[r]? = some o ∧ o.isCells = false) {k : Nat} {c : Array Value} {t : TypeId} {f : Nat × Nat} (hk : W.heap[k]? = some (Obj.cells c t f)) : W'.heap[k]? = some (Obj.cells c t f) :=
  (hg.block k (lt_of_heap hk) (fun e => by
    obtain ⟨o, ho, hc⟩ := hr k e.symm
    rw [hk] at ho
    injection ho with e1
    subst e1
    cases hc)).trans hk

/-- What the segments of these numbers sum up to. -/
def crA (ps : List Pp) (k : Nat) : Int := crossI (ringQ ps k) (ringQ ps ((k + 1) % ps.length))
def arL (ps : List Pp) (ks : List Nat) : Int := ks.foldl (fun s k => s + crA ps k) 0
theorem arL_snoc (ps : List Pp) (ks : List Nat) (k : Nat) : arL ps (ks ++ [k]) = arL ps ks + crA ps k := by unfold arL; rw [List.foldl_append]; rfl
theorem arL_range (ps : List Pp) : ∀ k : Nat, arL ps (List.range k) = areaK ps k
  | 0 => rfl
  | k + 1 => by rw [List.range_succ, arL_snoc, arL_range ps k, areaK_succ]; rfl
theorem crA_bound (ps : List Pp) (k : Nat) : -8796093022208 ≤ crA ps k ∧ crA ps k ≤ 8796093022208 := crossI_bound (ringQ_in ps k) (ringQ_in ps ((k + 1) % ps.length))
theorem arL_bound (ps : List Pp) (ks : List Nat) : ∀ s : Int, -(8796093022208 * (ks.length : Int)) ≤ ks.foldl (fun s k => s + crA ps k) s - s ∧ ks.foldl (fun s k => s + crA ps k) s - s ≤ 8796093022208 * (ks.length : Int) := by
  induction ks with
  | nil => intro s; simp
  | cons k ks ih =>
    intro s
    have h := ih (s + crA ps k)
    have c := crA_bound ps k
    rw [List.foldl_cons, List.length_cons]
    omega
theorem area_cross (ps : List Pp) (k : Nat) : area (near 0) (near 0) (near (lpt ps k).1) (near (lpt ps k).2) (near (nxt ps k).1) (near (nxt ps k).2) = crA ps k := by
  have h0 : near 0 = 0 := by decide
  unfold area crA crossI ringQ clP nxt
  rw [h0, Int.sub_zero, Int.sub_zero, Int.sub_zero, Int.sub_zero]
  dsimp only
  rw [Int.mul_comm (near (lpt ps k).2)]

/-- Amid Area2. -/
structure ArI (w : World) (s : Int) (W : World) : Prop where
  org : Pt W w.heap.size 0 0
  sum : Boxed W (w.heap.size + 1) 2 (.int .i64 s)
  big : w.heap.size + 3 ≤ W.heap.size
  below : Below w.heap.size w W
theorem ArI.turn {w W W' : World} {s : Int} {row : Option Nat} (h : ArI w s W) (hg : W.grownBy W' row) (hr : ∀ r, row = some r → w.heap.size ≤ r ∧ ∃ o : Obj, W.heap[r]? = some o ∧ o.isCells = false) : ArI w s W' :=
  ⟨block_turn hg (fun r e => (hr r e).2) h.org, block_turn hg (fun r e => (hr r e).2) h.sum, Nat.le_trans h.big hg.size, h.below.grown hg h.below.size (fun k e => (hr k e).1)⟩
theorem ArI.fresh {w W W' : World} {s : Int} (h : ArI w s W) (hb : Below W.heap.size W W') : ArI w s W' :=
  ⟨(hb.block _ h.org.lt).trans h.org, boxed_below h.sum hb, Nat.le_trans h.big hb.size, h.below.trans (hb.mono h.below.size)⟩
theorem ArI.set {w W : World} {s : Int} (h : ArI w s W) (t : Int) : ArI w t (W.setCell ⟨w.heap.size + 1, 0, none⟩ (.int .i64 t)) :=
  ⟨(Below.heap_setCell W _ _ _ (by show w.heap.size ≠ w.heap.size + 1; omega)).trans h.org, h.sum.set _, by rw [World.size_setCell]; exact h.big, h.below.setCell (p := ⟨w.heap.size + 1, 0, none⟩) (by show w.heap.size ≤ w.heap.size + 1; omega) _⟩

set_option maxRecDepth 100000 in
set_option maxHeartbeats 3200000 in
theorem area_in (ao : Option Addr) (n cap b off : Nat) (ps : List Pp) (w : World) (hn : ps.length = n) (hao : 1 ≤ n → ao = some ⟨b, off, none⟩) (hat : CellsAt w b off ps) (hb : b ≤ w.heap.size) (hl : n ≤ 4096) :
    CallsIn Fence.wide 12 Tryz.prog 120 #[.slice ao n cap] w fun e w' => e = .returned (.int .i64 (areaL ps)) ∧ Below w.heap.size w w' := by
  have HN := hid hn
  have HAO := hid hao
  have HAT := hid hat
  have hmx : Tryz.prog.follows .mixedOrders = true := by kernel_rfl
  clear hao hat hn
  refine callsIn_of_wp_marks Tryz.func120 rfl trivial ?_ rfl
  simp only [Tryz.ntmps120, List.size_toArray, List.length_cons, List.length_nil, Nat.reduceAdd, Nat.reduceSub, Array.replicate_succ, Array.replicate_zero, List.push_toArray, List.append_toArray, List.nil_append, List.cons_append]
  have hw : ∀ k, Fence.wide.fn k := fun _ => trivial
  gi_wp2_with (gi_at_call 150; refine (callsIn_wide.2 (segmentsOf_any _ _ _ _)).mono ?_; rintro e w' ⟨rfl, rfl⟩)
  obtain ⟨W0, hW0⟩ : ∃ W0, ((w.alloc (.cells #[.int .i64 0, .int .i64 0] 23)).alloc (.cells #[.int .i64 0] 2)).alloc (.cells #[.slice ao n cap] 27) = W0 := ⟨_, rfl⟩
  have hsz : W0.heap.size = w.heap.size + 3 := by rw [← hW0]; simp
  have hF0 : Below w.heap.size w W0 := by rw [← hW0]; exact (((Below.refl _ w).alloc (Nat.le_refl _) _).alloc (by simp) _).alloc (by simp; omega) _
  have hpush := push3 w.heap (.cells #[.int .i64 0, .int .i64 0] 23) (.cells #[.int .i64 0] 2) (.cells #[.slice ao n cap] 27)
  have h0 : ArI w 0 W0 := ⟨by rw [← hW0]; exact hpush.1, by rw [← hW0]; exact hpush.2.1, by omega, hF0⟩
  have hbx : Boxed W0 (w.heap.size + 2) 27 (.slice ao n cap) := by rw [← hW0]; exact hpush.2.2
  rw [hW0]
  clear hW0 hpush
  refine wpIn_rangeFunc_ownH rfl (by decide) (gf := 177) (lb := #[.pointer (some ⟨w.heap.size + 1 + 1, 0, none⟩)]) rfl trivial (enters_of Tryz.func177 (by kernel_rfl) rfl)
    (segs_stops (12 - 1) (by decide) (w.heap.size + 2) b off n cap ao ps HN.out W0 hbx.cell HAO.out (HAT.out.below hF0) (by omega)) (fun h k => Kq.trans h k) (fun W l o o' h1 h2 _ _ => Kq.putObj W l o' (by have := lt_of_heap h2; omega) (by have := lt_of_heap h2; omega) (by omega) (by omega)) (Below.refl _ _) (fun _ => rfl)
    (fun pre W => ArI w (arL ps (pre.map (·.1))) W) (fun _ _ _ => False) ?hI ?hIx ?h0
    (fun x a' W => ∃ B1 B2, a' = { tmps := #[.slice ao n cap, undef, .int .i64 0, .pointer (some ⟨w.heap.size, 0, none⟩), .pointer (some ⟨w.heap.size + 1, 0, none⟩), .pointer (some ⟨B1, 0, none⟩), .pointer (some ⟨B2, 0, none⟩), .slice ao n cap, .func (.func 177) #[] #[.pointer (some ⟨w.heap.size + 1 + 1, 0, none⟩)], pv (lpt ps x.1).1 (lpt ps x.1).2, pv (nxt ps x.1).1 (nxt ps x.1).2, undef, undef, undef, undef, undef, undef, undef], defers := [] } ∧ Pt W B1 (lpt ps x.1).1 (lpt ps x.1).2 ∧ Pt W B2 (nxt ps x.1).1 (nxt ps x.1).2)
    ?hAx ?assign ?body ?done ?stop
  case hI =>
    rintro s A B' row hs hg' hrow
    exact hs.turn hg' (fun r e => ⟨by have := (hrow r e).1; omega, (hrow r e).2⟩)
  case hIx =>
    rintro c s A B' row h
    exact h.elim
  case h0 => exact h0
  case hAx =>
    rintro x a' _ A B' row ⟨B1, B2, rfl, h1, h2⟩ hg hrow
    exact ⟨B1, B2, rfl, block_turn hg (fun r e => (hrow r e).2) h1, block_turn hg (fun r e => (hrow r e).2) h2⟩
  case assign =>
    intro l pre x W K hI hK
    have hfr : Below W.heap.size W ((W.alloc (.cells #[.int .i64 (lpt ps x.1).1, .int .i64 (lpt ps x.1).2] 23)).alloc (.cells #[.int .i64 (nxt ps x.1).1, .int .i64 (nxt ps x.1).2] 23)) := ((Below.refl _ W).alloc (Nat.le_refl _) _).alloc (by simp) _
    have hbig := hI.big
    have h1 : Pt ((W.alloc (.cells #[.int .i64 (lpt ps x.1).1, .int .i64 (lpt ps x.1).2] 23)).alloc (.cells #[.int .i64 (nxt ps x.1).1, .int .i64 (nxt ps x.1).2] 23)) W.heap.size (lpt ps x.1).1 (lpt ps x.1).2 := (Pt.new W _ _).alloc _
    have h2 : Pt ((W.alloc (.cells #[.int .i64 (lpt ps x.1).1, .int .i64 (lpt ps x.1).2] 23)).alloc (.cells #[.int .i64 (nxt ps x.1).1, .int .i64 (nxt ps x.1).2] 23)) (W.heap.size + 1) (nxt ps x.1).1 (nxt ps x.1).2 := by
      have := Pt.new (W.alloc (.cells #[.int .i64 (lpt ps x.1).1, .int .i64 (lpt ps x.1).2] 23)) (nxt ps x.1).1 (nxt ps x.1).2
      rwa [World.size_alloc] at this
    have HK := hid (hK _ _ ((keeps_fresh hfr).from _) (Kq.fresh hfr (by omega) (by omega)) (hI.fresh hfr) ⟨W.heap.size, W.heap.size + 1, rfl, h1, h2⟩)
    clear hK hI hfr h1 h2
    gi_wp2
    exact HK.out
  case body =>
    rintro l pre x a' W _ _ hI ⟨B1, B2, rfl, hP1, hP2⟩ hlt
    have hlen : (pre.map (·.1)).length < n := by rw [List.length_map]; exact hlt
    have hbs := arL_bound ps (pre.map (·.1)) 0
    have hbd : -8796093022208 * 4096 ≤ arL ps (pre.map (·.1)) ∧ arL ps (pre.map (·.1)) ≤ 8796093022208 * 4096 := by unfold arL; omega
    have hbc := crA_bound ps x.1
    have HE := hid (show arL ps ((pre ++ [x]).map (·.1)) = arL ps (pre.map (·.1)) + crA ps x.1 by rw [List.map_append]; exact arL_snoc ps _ _)
    have HI := hid hI
    have co0 := cell_regrown hI.org.c0; have co1 := cell_regrown hI.org.c1
    have cs := cell_regrown hI.sum.cell
    have c10 := cell_regrown hP1.c0; have c11 := cell_regrown hP1.c1; have c20 := cell_regrown hP2.c0; have c21 := cell_regrown hP2.c1
    have ca := fun d os => area2_any 0 0 (lpt ps x.1).1 (lpt ps x.1).2 (nxt ps x.1).1 (nxt ps x.1).2 (grow (redrawn W d) os)
    rw [area_cross] at ca
    clear hI hP1 hP2 h0 hbx hbs hlen
    generalize arL ps (pre.map (·.1)) = S at *
    generalize crA ps x.1 = D at *
    generalize (lpt ps x.1).1 = X1 at *
    generalize (lpt ps x.1).2 = Y1 at *
    generalize (nxt ps x.1).1 = X2 at *
    generalize (nxt ps x.1).2 = Y2 at *
    have hwr : IntKind.i64.wrap (S + D) = S + D := by rw [IntKind.wrap_i64]; omega
    gi_wp2
    refine wpIn_region_tail_round 5 hmx (by kernel_rfl) (by kernel_rfl) ?_
    simp only [List.take]
    go_big_quiet_step (fail)
    go_big_quiet_step (fail)
    go_big_quiet_step (fail)
    go_big_quiet_step (fail)
    go_big_quiet_step (exact Calls.regrown_of (ca _ _))
    refine wpQuiet_nil ?_
    intro W1 hW'
    obtain ⟨⟨dq, osq⟩, hW⟩ := hW'
    have hb1 : Below W.heap.size W W1 := by rw [hW]; exact below_regrown _ _ _
    have HI1 := hid (HI.out.fresh hb1)
    have HKO := hid (keeps_fresh hb1)
    have HKQ := hid (show Kq (w.heap.size + 2) b W W1 from Kq.fresh hb1 (by have := HI.out.big; omega) (by have := HI.out.big; omega))
    have g0 := HI1.out.sum.cell
    have g1 := HI1.out.sum.frozen
    clear hW hb1 co0 co1 cs c10 c11 c20 c21 ca
    simp only [List.drop]
    go_wp2
    show KeepsFrom _ _ _ ∧ Kq _ _ _ _ ∧ ArI _ _ _
    rw [HE.out]
    refine ⟨(HKO.out.trans (KeepsOthers.setCell W1 _ _)).from _, HKQ.out.trans ⟨Below.heap_setCell W1 _ _ _ (by show w.heap.size + 2 ≠ w.heap.size + 1; omega), Below.heap_setCell W1 _ _ _ (by show b ≠ w.heap.size + 1; omega)⟩, HI1.out.set _⟩
  case done =>
    rintro D ys W hD hS hI hK
    rw [hS, arL_range, ← HN.out, areaK_all] at hI
    have cb := hI.sum.cell
    have HI := hid hI
    have HK := hid hK
    clear hI hK hS h0 hbx
    obtain ⟨R, hR⟩ : ∃ R, areaL ps = R := ⟨_, rfl⟩
    rw [hR] at cb HI
    have HRE := hid hR
    clear hR
    gi_wp2
    have hrow : ∀ r, some D = some r → w.heap.size ≤ r ∧ ∃ o : Obj, W.heap[r]? = some o ∧ o.isCells = false := fun r e => by cases e; exact ⟨by omega, _, HK.out, rfl⟩
    refine ⟨by simp, .inl ⟨_, _, rfl, run_takeDeferred HK.out, ?_⟩⟩
    have h2 := HI.out.turn (grownBy_putObj' _ D (.deferred none)) hrow
    exact ⟨.int .i64 R, by simp [results, Tryz.f120, go_sem], by rw [HRE.out], h2.below⟩
  case stop =>
    rintro D c pre W hD hSp h hK
    exact h.elim

theorem ringArea_any (v : Value) (ps : List Pp) (w : World) (hs : Src w v ps) (hl : ps.length ≤ 4096) :
    Calls Tryz.prog 120 #[v] w fun e w' => e = .returned (.int .i64 (areaL ps)) ∧ Below w.heap.size w w' := by
  obtain ⟨ao, cap, b, off, rfl, h1, h2, h3⟩ := hs.view
  exact callsIn_wide.1 (area_in ao ps.length cap b off ps w rfl h1 h2 h3 hl)
end Go.Proofs.YtkdnkmheidbfdaaGreat

namespace Go.Proofs.YtkdnkmheidbfdaaGreat
open Go.RowKit Go.Sort

/-- A ring's border, before its part is known. -/
def bordF (wo : Option Addr) (wl wc : Nat) (po : Option Addr) (pc : Nat) (ps : List Pp) : Bd :=
  ⟨wo, wl, wc, po, ps.length, pc, (boxL ps).1, (boxL ps).2.1, (boxL ps).2.2.1, (boxL ps).2.2.2, areaL ps, 0, 0⟩
theorem nums_belowAll {w w' : World} {v : Value} {zs : List Int} (h : Nums w v zs) (hb : Below w.heap.size w w') : Nums w' v zs := by
  obtain ⟨a, c, rfl, hc⟩ := h
  refine ⟨a, c, rfl, fun h1 => ?_⟩
  obtain ⟨b, o, rfl, h2⟩ := hc h1
  exact ⟨b, o, rfl, fun k z hz => cell_below (h2 k z hz) hb (lt_of_cell (h2 k z hz))⟩

set_option maxRecDepth 100000 in
set_option maxHeartbeats 3200000 in
theorem borderOf_any {w : World} {b off n cap : Nat} {ao : Option Addr} {xs : List ER} {ls : List (List Pp)} (h : PlE w b off n ao xs ls) (no : Option Addr) (nl nc : Nat) {wo : Option Addr} {wl wc : Nat} {r : List Int} (hv : Nums w (.slice wo wl wc) r) (hrl : r.length ≤ 900) (hrb : ∀ k ∈ r, -1000000 ≤ k ∧ k ≤ 1000000) (hpl : (ringPtsF xs ls r).length ≤ 4096) :
    Calls Tryz.prog 89 #[plV (.slice no nl nc) (.slice ao n cap), .slice wo wl wc] w fun e w' => (∃ po pc, e = .returned (bdV (bordF wo wl wc po pc (ringPtsF xs ls r))) ∧ PtRow w' w.heap.size (.slice po (ringPtsF xs ls r).length pc) (ringPtsF xs ls r)) ∧ Below w.heap.size w w' := by
  obtain ⟨wA, hwA⟩ : ∃ wA, w.alloc (.cells #[.slice no nl nc, .slice ao n cap] 32) = wA := ⟨_, rfl⟩
  have hbA : Below w.heap.size w wA := by rw [← hwA]; exact (Below.refl _ w).alloc (Nat.le_refl _) _
  have sA : wA.heap.size = w.heap.size + 1 := by rw [← hwA]; simp
  have hhA : wA.heap[w.heap.size]? = some (.cells #[.slice no nl nc, .slice ao n cap] 32 (0, 0)) := by rw [← hwA]; exact World.alloc_heap_new w _
  obtain ⟨wB, hwB⟩ : ∃ wB, wA.alloc (bdO ⟨none, 0, 0, none, 0, 0, 0, 0, 0, 0, 0, 0, 0⟩) = wB := ⟨_, rfl⟩
  have hbB : Below wA.heap.size wA wB := by rw [← hwB]; exact (Below.refl _ wA).alloc (Nat.le_refl _) _
  have hhB : wB.heap[wA.heap.size]? = some (bdO ⟨none, 0, 0, none, 0, 0, 0, 0, 0, 0, 0, 0, 0⟩) := by rw [← hwB]; exact World.alloc_heap_new wA _
  have hb : Below w.heap.size w wB := hbA.trans (hbB.mono hbA.size)
  have hhP := (hbB.block _ (by omega)).trans hhA
  have c0 : wB.cell? ⟨w.heap.size, 0, none⟩ = some (.slice no nl nc) := by simp [World.cell?, hhP]
  have c1 : wB.cell? ⟨w.heap.size, 1, none⟩ = some (.slice ao n cap) := by simp [World.cell?, hhP]
  have hvB : Nums wB (.slice wo wl wc) r := nums_belowAll hv hb
  have HR := hid (ringPoints_any (cap := cap) (h.below hb) no nl nc hvB hrl hrb)
  obtain ⟨ps, hps⟩ : ∃ ps, ringPtsF xs ls r = ps := ⟨_, rfl⟩
  rw [hps] at HR hpl ⊢
  have HB := hid (And.intro hb (And.intro hhB hpl))
  have HSA := hid sA
  clear h hbA hbB hb hhA hhB hhP hvB hv hrb hps sA hpl
  go_enter Tryz.func89, Tryz.ntmps89
  go_wp2_with (first
    | (go_at_call 118; refine HR.out.mono ?_; rintro e w1 ⟨⟨u, rfl, hu⟩, hb1⟩; obtain ⟨po, pc, rfl⟩ := hu.form; have hz1 := (hb1.block _ (lt_of_heap HB.out.2.1)).trans HB.out.2.1; have HU := hid (And.intro hu (And.intro (HB.out.1.trans (hb1.mono HB.out.1.size)) hz1)); clear hu hb1 hz1 HR)
    | (go_at_call 119; generalize hV : World.alloc _ _ = V; have hbV : Below w1.heap.size w1 V := (by rw [← hV]; exact (Below.refl _ w1).alloc (Nat.le_refl _) _); have hhV : V.heap[w1.heap.size]? = some (bdO ⟨wo, wl, wc, po, ps.length, pc, 0, 0, 0, 0, 0, 0, 0⟩) := (by rw [← hV]; exact bd_new w1 ⟨wo, wl, wc, po, ps.length, pc, 0, 0, 0, 0, 0, 0, 0⟩); refine (box_any _ ps V (PtRow.below HU.out.1 hbV).toPts (by have := HB.out.2.2; omega)).mono ?_; rintro e w3 ⟨rfl, hb3⟩; have hh3 := (hb3.block _ (lt_of_heap hhV)).trans hhV; have hB3 : Below w1.heap.size w1 w3 := hbV.trans (hb3.mono hbV.size); obtain ⟨y0, y1, y2, y3, y4, y5, y6, y7, y8⟩ := bd_cells hh3; have g2 := bd_frozen hh3 2; have g3 := bd_frozen hh3 3; have g4 := bd_frozen hh3 4; have g5 := bd_frozen hh3 5; have H3 := hid (And.intro hh3 hB3); clear hV hbV hhV hb3 hh3 hB3)
    | (go_at_call 120; generalize hV : World.setCell _ _ _ = V; have hhV : V.heap[w1.heap.size]? = some (bdO ⟨wo, wl, wc, po, ps.length, pc, (boxL ps).1, (boxL ps).2.1, (boxL ps).2.2.1, (boxL ps).2.2.2, 0, 0, 0⟩) := (by rw [← hV]; exact bd_box H3.out.1 _ _ _ _); have hBV : Below w1.heap.size w1 V := (by rw [← hV]; exact (((H3.out.2.setCell (p := ⟨w1.heap.size, 2, none⟩) (Nat.le_refl _) _).setCell (p := ⟨w1.heap.size, 3, none⟩) (Nat.le_refl _) _).setCell (p := ⟨w1.heap.size, 4, none⟩) (Nat.le_refl _) _).setCell (p := ⟨w1.heap.size, 5, none⟩) (Nat.le_refl _) _); refine (ringArea_any _ ps V (PtRow.below HU.out.1 hBV).src HB.out.2.2).mono ?_; rintro e w4 ⟨rfl, hb4⟩; have hh4 := (hb4.block _ (lt_of_heap hhV)).trans hhV; have hB4 : Below w1.heap.size w1 w4 := hBV.trans (hb4.mono hBV.size); have hz4 := (hB4.block _ (lt_of_heap HU.out.2.2)).trans HU.out.2.2; clear y0 y1 y2 y3 y4 y5 y6 y7 y8 g2 g3 g4 g5; obtain ⟨y0, y1, y2, y3, y4, y5, y6, y7, y8⟩ := bd_cells hh4; have g6 := bd_frozen hh4 6; obtain ⟨z0, z1, z2, z3, z4, z5, z6, z7, z8⟩ := bd_cells hz4; have f0 := bd_frozen hz4 0; have f1 := bd_frozen hz4 1; have f2 := bd_frozen hz4 2; have f3 := bd_frozen hz4 3; have f4 := bd_frozen hz4 4; have f5 := bd_frozen hz4 5; have f6 := bd_frozen hz4 6; have f7 := bd_frozen hz4 7; have f8 := bd_frozen hz4 8; have hne1 : ¬ wA.heap.size = w1.heap.size := (by have := lt_of_heap HU.out.2.2; omega); have hne2 : ¬ w1.heap.size = wA.heap.size := (by have := lt_of_heap HU.out.2.2; omega); have H4 := hid (And.intro hh4 (And.intro hB4 hz4)); clear hV hhV hBV hb4 hh4 hB4 hz4))
  have hne : w1.heap.size ≠ wA.heap.size := hne2
  clear hne1 hne2
  have hz5 : (w4.setCell ⟨w1.heap.size, 6, none⟩ (.int .i64 (areaL ps))).heap[wA.heap.size]? = some (bdO ⟨none, 0, 0, none, 0, 0, 0, 0, 0, 0, 0, 0, 0⟩) := by
    rw [RowKit.Below.heap_setCell _ _ _ _ (Ne.symm hne)]
    exact H4.out.2.2
  have hb5 : Below w1.heap.size w1 (w4.setCell ⟨w1.heap.size, 6, none⟩ (.int .i64 (areaL ps))) := H4.out.2.1.setCell (p := ⟨w1.heap.size, 6, none⟩) (Nat.le_refl _) _
  generalize w4.setCell ⟨w1.heap.size, 6, none⟩ (.int .i64 (areaL ps)) = V5 at hz5 hb5 ⊢
  generalize hV6 : World.setCell (World.setCell (World.setCell (World.setCell (World.setCell (World.setCell (World.setCell (World.setCell (World.setCell V5 _ _) _ _) _ _) _ _) _ _) _ _) _ _) _ _) _ _ = V6
  have hz6 : V6.heap[wA.heap.size]? = some (bdO (bordF wo wl wc po pc ps)) := by
    rw [← hV6]
    exact bd_put hz5 (bordF wo wl wc po pc ps)
  have hk6 : ∀ k, k ≠ wA.heap.size → V6.heap[k]? = V5.heap[k]? := fun k hk => by
    rw [← hV6, RowKit.Below.heap_setCell _ _ _ _ hk, RowKit.Below.heap_setCell _ _ _ _ hk, RowKit.Below.heap_setCell _ _ _ _ hk, RowKit.Below.heap_setCell _ _ _ _ hk, RowKit.Below.heap_setCell _ _ _ _ hk, RowKit.Below.heap_setCell _ _ _ _ hk, RowKit.Below.heap_setCell _ _ _ _ hk, RowKit.Below.heap_setCell _ _ _ _ hk, RowKit.Below.heap_setCell _ _ _ _ hk]
  have hb6 : Below w.heap.size w V6 := by
    rw [← hV6]
    have q : Below w.heap.size w V5 := HU.out.2.1.trans (hb5.mono HU.out.2.1.size)
    have hge : w.heap.size ≤ wA.heap.size := by rw [HSA.out]; exact Nat.le_succ _
    exact ((((((((q.setCell (p := ⟨wA.heap.size, 0, none⟩) hge _).setCell (p := ⟨wA.heap.size, 1, none⟩) hge _).setCell (p := ⟨wA.heap.size, 2, none⟩) hge _).setCell (p := ⟨wA.heap.size, 3, none⟩) hge _).setCell (p := ⟨wA.heap.size, 4, none⟩) hge _).setCell (p := ⟨wA.heap.size, 5, none⟩) hge _).setCell (p := ⟨wA.heap.size, 6, none⟩) hge _).setCell (p := ⟨wA.heap.size, 7, none⟩) hge _).setCell (p := ⟨wA.heap.size, 8, none⟩) hge _
  clear hV6
  obtain ⟨r0, r1, r2, r3, r4, r5, r6, r7, r8⟩ := bd_cells hz6
  have hrow : PtRow V6 w.heap.size (.slice po ps.length pc) ps := by
    refine PtRow.base (base := wB.heap.size) (own_keep (PtRow.below HU.out.1 hb5) fun k c hk => hk6 k fun e => ?_) HB.out.1.size
    subst e
    rw [hz5] at hk
    injection hk with hk
    injection hk with _ e2 _
    exact absurd e2 (by decide)
  refine bodyPost_ret (v := bdV (bordF wo wl wc po pc ps)) (by simp [results, Tryz.results89, go_sem, r0, r1, r2, r3, r4, r5, r6, r7, r8]) rfl ?_
  exact ⟨⟨po, pc, rfl, hrow⟩, hb6⟩
end Go.Proofs.YtkdnkmheidbfdaaGreat
