/-
  ring's segments, told one by one.
-/
import Derived.RangeFuncNested
import Derived.RangeFuncBound
import Derived.RangeFuncCalls
import Derived.RangeFuncLeaves
import Derived.RangeFuncBox
import Derived.Shelf.Abstract
import Derived.Shelf.RegionOpen
import Derived.OwnWalkIn
import Derived.TacticsInMore
import Derived.LoopNIn
import Derived.LoopIn
import Derived.Test.YtepnjknblppfcaaHTailIn
import Derived.Test.YtepnjknblppfcaaRRefB
namespace Go.Proofs.Ytepnjknblppfcaa
open Go.RowKit Go.Shelf

attribute [local go_sem] Oper.semAt_some

/-- What a round is handed: a segment, by its number. -/
abbrev Sg (n : Nat) : Type := { x : Nat // x < n }
def nxt (ps : List Pp) (i : Nat) : Pp := lpt ps ((i + 1) % ps.length)
abbrev sgV (ps : List Pp) (x : Nat) : Array Value := #[pv (lpt ps x).1 (lpt ps x).2, pv (nxt ps x).1 (nxt ps x).2]
def CellsAt (W : World) (b off : Nat) (ps : List Pp) : Prop := ∀ i, i < ps.length → W.cell? ⟨b, off + i * 2, none⟩ = some (.int .i64 (lpt ps i).1) ∧ W.cell? ⟨b, off + i * 2 + 1, none⟩ = some (.int .i64 (lpt ps i).2)
/-- What a round keeps: the box of the points, and their row. -/
structure Kq (Bx b : Nat) (W W' : World) : Prop where
  box : W'.heap[Bx]? = W.heap[Bx]?
  row : W'.heap[b]? = W.heap[b]?
theorem Kq.trans {Bx b : Nat} {A B C : World} (h : Kq Bx b A B) (k : Kq Bx b B C) : Kq Bx b A C := ⟨k.box.trans h.box, k.row.trans h.row⟩
theorem Kq.fresh {Bx b : Nat} {A B : World} (h : Below A.heap.size A B) (h1 : Bx < A.heap.size) (h2 : b < A.heap.size) : Kq Bx b A B := ⟨h.block _ h1, h.block _ h2⟩
theorem Kq.putObj {Bx b : Nat} (W : World) (l : Nat) (o' : Obj) (h1 : Bx < W.heap.size) (h2 : b < W.heap.size) (n1 : Bx ≠ l) (n2 : b ≠ l) : Kq Bx b W (W.putObj l o') :=
  ⟨(grownBy_putObj' W l o').block _ h1 (fun e => n1 (Option.some.inj e)), (grownBy_putObj' W l o').block _ h2 (fun e => n2 (Option.some.inj e))⟩
theorem cell_same {W W' : World} {b : Nat} (i : Nat) (h : W'.heap[b]? = W.heap[b]?) : W'.cell? ⟨b, i, none⟩ = W.cell? ⟨b, i, none⟩ := by
  unfold World.cell?
  simp [h]
theorem CellsAt.same {W W' : World} {b off : Nat} {ps : List Pp} (h : CellsAt W b off ps) (e : W'.heap[b]? = W.heap[b]?) : CellsAt W' b off ps := fun i hi =>
  ⟨(cell_same _ e).trans (h i hi).1, (cell_same _ e).trans (h i hi).2⟩
theorem grown_drewM (w : World) (q : Nat) : w.grownBy (w.drewN q) none := ⟨rfl, rfl, rfl, Nat.le_refl _, fun _ _ _ => rfl⟩

set_option maxRecDepth 100000 in
set_option maxHeartbeats 3200000 in
theorem segs_in (m : Nat) (hm : 2 ≤ m) (l Bx b off n cap : Nat) (ao : Option Addr) (ps : List Pp) (hn : ps.length = n) (J Jx : List (Sg n) → World → Prop) (W : World) (hAb : AbidesFrom W.heap.size J)
    (hY : ∀ pre x W1, J pre W1 → pre.length < n → YieldAt Fence.wide (m - 1) Try.prog l (sgV ps x.1) W1 fun e W' =>
      (e = .returned (.bool true) ∧ J (pre ++ [x]) W' ∧ Kq Bx b W1 W') ∨ (e = .returned (.bool false) ∧ Jx (pre ++ [x]) W'))
    (hbx : W.cell? ⟨Bx, 0, none⟩ = some (.slice ao n cap)) (hao : 1 ≤ n → ao = some ⟨b, off, none⟩) (hat : CellsAt W b off ps) (hl : n ≤ 1000000) (h0 : J [] W) :
    CallsIn Fence.wide m Try.prog 29 #[.func (.yield l) #[] #[], .pointer (some ⟨Bx, 0, none⟩)] W fun e W' => (∃ v, e = .returned v) ∧
      ((∃ xs, xs.map (·.1) = List.range n ∧ J xs W') ∨ (∃ pre, True ∧ Jx pre W')) := by
  have HN := hid hn
  have HAO := hid hao
  have HAT := hid hat
  have hmx : Try.prog.follows .mixedOrders = true := by kernel_rfl
  clear hn hao hat
  refine callsIn_of_wp Try.func29 rfl trivial ?_ rfl
  simp only [Try.ntmps29, List.size_toArray, List.length_cons, List.length_nil, Nat.reduceAdd, Nat.reduceSub, Array.replicate_succ, Array.replicate_zero, List.push_toArray, List.append_toArray, List.nil_append, List.cons_append]
  gi_wp2
  gi_loopw [3, 4, 7] (fun _ _ i wr => ∃ (k : Nat) (pre : List (Sg n)), k ≤ n ∧ i = .int .i64 k ∧ pre.map (·.1) = List.range k ∧ J pre wr ∧ wr.cell? ⟨Bx, 0, none⟩ = some (.slice ao n cap) ∧ CellsAt wr b off ps) (fun _ _ i _ => n - (intOf i).toNat)
  case atStart => exact ⟨0, [], Nat.zero_le _, rfl, rfl, h0, hbx, HAT.out⟩
  case round =>
    obtain ⟨k, pre, hk, rfl, hpre, hJs, hbr, hat⟩ := hrel
    by_cases hlt : k < n
    · obtain rfl := HAO.out (by omega)
      have hltI : (k : Int) < (n : Int) := by omega
      have hn0 : ¬ (n : Int) = 0 := by omega
      have hn0B : ((n : Int) == 0) = false := by simpa using hn0
      obtain ⟨j, hj⟩ : ∃ j : Nat, (k + 1) % n = j := ⟨_, rfl⟩
      have hjn : j < n := by rw [← hj]; exact Nat.mod_lt _ (by omega)
      have hjI : (j : Int) < (n : Int) := by omega
      have hwk : IntKind.i64.wrap ((k : Int) + 1) = (k : Int) + 1 := by rw [IntKind.wrap_i64]; omega
      have hmod : Int.tmod ((k : Int) + 1) (n : Int) = (j : Int) := by rw [tmod_next (by omega), hj]
      obtain ⟨z0, z1⟩ := hat k (by rw [HN.out]; omega)
      obtain ⟨x0, x1⟩ := hat j (by rw [HN.out]; omega)
      have hnx : nxt ps k = lpt ps j := by unfold nxt; rw [HN.out, hj]
      have hprel : pre.length = k := by
        have := congrArg List.length hpre
        rwa [List.length_map, List.length_range] at this
      obtain ⟨W1, hW1⟩ : ∃ W1, wr.alloc (.cells #[.int .i64 (lpt ps k).1, .int .i64 (lpt ps k).2] 24) = W1 := ⟨_, rfl⟩
      have hJ1 : J pre W1 := by rw [← hW1]; exact hAb _ _ _ none hJs (World.grownBy_alloc _ _ none) (fun r hr => by cases hr)
      obtain ⟨hPA, hB1, hszA⟩ := box1 hW1
      have HY := hid (fun q => hY pre ⟨k, hlt⟩ (W1.drewN q) (hAb _ _ _ none hJ1 (grown_drewM W1 q) (fun r hr => by cases hr)) (by omega))
      dsimp only [sgV] at HY
      rw [hnx] at HY
      have d0 := hPA.c0
      have d1 := hPA.c1
      have hlb : b < wr.heap.size := World.block_lt_of_cell? wr _ z0
      have hlx : Bx < wr.heap.size := World.block_lt_of_cell? wr _ hbr
      have y0 : W1.cell? ⟨b, off + j * 2, none⟩ = _ := (hB1.cell (p := ⟨b, off + j * 2, none⟩) hlb).trans x0
      have y1 : W1.cell? ⟨b, off + j * 2 + 1, none⟩ = _ := (hB1.cell (p := ⟨b, off + j * 2 + 1, none⟩) hlb).trans x1
      have y2 : W1.cell? ⟨Bx, 0, none⟩ = _ := (hB1.cell (p := ⟨Bx, 0, none⟩) hlx).trans hbr
      have HBX := hid y2
      have HAT1 := hid (show CellsAt W1 b off ps from hat.same (hB1.block b hlb))
      have HP := hid hpre
      clear hat hpre hprel hnx hj hJ1 hJs hB1 hbx x0 x1 hPA
      generalize (lpt ps k).1 = KX at *
      generalize (lpt ps k).2 = KY at *
      generalize (lpt ps j).1 = NX at *
      generalize (lpt ps j).2 = NY at *
      gi_wp2
      refine wpIn_region_tail 10 rfl hmx (by kernel_rfl) ?_
      simp only [List.take]
      gi_big_quiet_step (fail)
      gi_big_quiet_step (fail)
      gi_big_quiet_step (fail)
      gi_big_quiet_step (fail)
      gi_big_quiet_step (fail)
      gi_big_quiet_step (fail)
      gi_big_quiet_step (fail)
      gi_big_quiet_step (fail)
      gi_big_quiet_step (fail)
      gi_big_quiet_step (fail)
      refine wpQuietIn_nil ?_
      intro w' hw'
      obtain ⟨q, rfl⟩ := hw'
      obtain ⟨fn, tmps, assign, body, hy, hR⟩ := HY.out q
      have HR := hid hR
      clear hR HY
      simp only [List.drop]
      gi_wp2
      refine ⟨fun _ => by omega, HR.out.mono ?_⟩
      rintro e W3 (⟨rfl, hJ3, hk3⟩ | ⟨rfl, hJx3⟩)
      · clear hy
        gi_wp2
        go_roundw
        case rel =>
          refine ⟨k + 1, _, by omega, by go_num, ?_, hJ3, (cell_same 0 hk3.box).trans HBX.out, HAT1.out.same hk3.row⟩
          rw [List.map_append, HP.out, List.range_succ]
          rfl
        case measure => simp [intOf]; omega
      · clear hy
        gi_wp2
        refine bodyPost_ret (results_none rfl _ _ _) rfl ?_
        exact ⟨⟨_, rfl⟩, .inr ⟨_, trivial, hJx3⟩⟩
    · obtain rfl : k = n := by omega
      have HF := hid hpre
      clear hpre
      gi_wp2
      go_end0
      exact ⟨⟨_, rfl⟩, .inl ⟨pre, HF.out, hJs⟩⟩
theorem segs_stops (m : Nat) (hm : 2 ≤ m) (Bx b off n cap : Nat) (ao : Option Addr) (ps : List Pp) (hn : ps.length = n) (w : World) (hbx : w.cell? ⟨Bx, 0, none⟩ = some (.slice ao n cap)) (hao : 1 ≤ n → ao = some ⟨b, off, none⟩) (hat : CellsAt w b off ps) (hl : n ≤ 1000000) :
    SeqStopsK Fence.wide m Try.prog 29 #[.pointer (some ⟨Bx, 0, none⟩)] (fun x : Sg n => sgV ps x.1) (Kq Bx b) (fun xs => xs.map (·.1) = List.range n) (fun _ => True) n w := fun l J Jx W hW hJ _ hY h0 =>
  segs_in m hm l Bx b off n cap ao ps hn J Jx W hJ hY ((hW.cell (p := ⟨Bx, 0, none⟩) (World.block_lt_of_cell? w _ hbx)).trans hbx) hao (fun i hi => by
    obtain ⟨z0, z1⟩ := hat i hi
    have hb := World.block_lt_of_cell? w _ z0
    exact ⟨(hW.cell (p := ⟨b, off + i * 2, none⟩) hb).trans z0, (hW.cell (p := ⟨b, off + i * 2 + 1, none⟩) hb).trans z1⟩) hl h0

theorem segmentsOf_any (ao : Option Addr) (n cap : Nat) (w : World) :
    Calls Try.prog 19 #[.slice ao n cap] w fun e w' => e = .returned (.func (.func 29) #[] #[.pointer (some ⟨w.heap.size, 0, none⟩)]) ∧ w' = w.alloc (.cells #[.slice ao n cap] 22) := by
  go_enter Try.func19, Try.ntmps19
  go_wp2
  go_ret
  exact ⟨rfl, rfl⟩
end Go.Proofs.Ytepnjknblppfcaa
