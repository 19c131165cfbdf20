/-
  PackParts: the iterator of pack.partsOf: for every loop body that keeps what lay ahead of the loop.
-/
import Derived.RangeFuncNested
import Derived.RangeFuncBound
import Derived.RangeFuncCalls
import Derived.RangeFuncLeaves
import Derived.Shelf.Abstract
import Derived.Shelf.RegionOpen
import Derived.WalkKit
import Derived.OwnWalkIn
import Derived.TacticsInMore
import Derived.LoopNIn
import Derived.LoopIn
import Derived.Maps.AppendAt
import Derived.Test.YtongdccpoefnlaaDoorPartsCut
namespace Go.Proofs.YtongdccpoefnlaaDoor
open Go.RowKit Go.Shelf

attribute [local go_sem] Oper.semAt_some

/-- What a round is handed: a slice of bytes as they lay ahead of the loop, and an error. -/
abbrev PartAt (w0 : World) : Type := { x : Value × List Int × Int // Has w0 x.1 x.2.1 }
abbrev PartAt.vals {w0 : World} (x : PartAt w0) : Array Value := #[x.1.1, .int .i64 x.1.2.2]
abbrev PartAt.said {w0 : World} (x : PartAt w0) : List Int × Int := (x.1.2.1, x.1.2.2)
def lenOf : Value → Nat
  | .slice _ n _ => n
  | _ => 0
theorem grown_drewN (w : World) (m : Nat) : w.grownBy (w.drewN m) none := ⟨rfl, rfl, rfl, Nat.le_refl _, fun _ _ _ => rfl⟩

set_option maxRecDepth 100000 in
set_option maxHeartbeats 2000000 in
theorem iter_in (n : Nat) (hn : 2 ≤ n) (l Bn : Nat) (w0 : World) (u : Value) (zs : List Int) (hH : Has w0 u zs) (J Jx : List (PartAt w0) → World → Prop) (W : World) (hAb : AbidesFrom W.heap.size J)
    (hY : ∀ pre x W1, J pre W1 → pre.length < (seqOf zs).length → YieldAt Fence.wide (n - 1) Tryd.prog l (PartAt.vals x) W1 fun e W' =>
      (e = .returned (.bool true) ∧ J (pre ++ [x]) W' ∧ Below w0.heap.size W1 W') ∨ (e = .returned (.bool false) ∧ Jx (pre ++ [x]) W'))
    (hBn : W.cell? ⟨Bn, 0, none⟩ = some u) (hB : Below w0.heap.size w0 W) (h0 : J [] W) :
    CallsIn Fence.wide n Tryd.prog 31 #[.func (.yield l) #[] #[], .pointer (some ⟨Bn, 0, none⟩)] W fun e W' => (∃ v, e = .returned v) ∧
      ((∃ ys, ys.map PartAt.said = seqOf zs ∧ J ys W') ∨ (∃ pre, pre.map PartAt.said <+: seqOf zs ∧ Jx pre W')) := by
  refine callsIn_of_wp Tryd.func31 rfl trivial ?_ rfl
  simp only [Tryd.ntmps31, List.size_toArray, List.length_cons, List.length_nil, Nat.reduceAdd, Nat.reduceSub, Array.replicate_succ, Array.replicate_zero, List.push_toArray, List.append_toArray, List.nil_append, List.cons_append]
  gi_wp2
  gi_loopw [3] (fun p wr => ∃ (pre : List (PartAt w0)) (zs' : List Int), Has w0 p zs' ∧ seqOf zs = pre.map PartAt.said ++ seqOf zs' ∧ J pre wr ∧ Below w0.heap.size w0 wr) (fun p _ => lenOf p)
  case atStart => exact ⟨[], zs, hH, rfl, h0, hB⟩
  case round =>
    obtain ⟨pre, zs', hH', hseq, hJs, hBr⟩ := hrel
    by_cases hz : zs' = []
    · subst hz
      obtain ⟨ao, cap, rfl, _⟩ := hH'.open
      gi_wp2
      go_end0
      exact ⟨⟨_, rfl⟩, .inl ⟨pre, by rw [hseq, seqOf_nil, List.append_nil], hJs⟩⟩
    · obtain ⟨ao, cap, rfl, hfo⟩ := hH'.open
      have hl1 : 1 ≤ zs'.length := by cases zs' with
        | nil => exact absurd rfl hz
        | cons a t => simp
      have hby := hH'.byte
      have hsq := seqOf_cons hby hz
      have hlt : pre.length < (seqOf zs).length := by rw [hseq, hsq]; simp
      have hmx := hH'.2.1
      have hg0 : (0 : Int) < (zs'.length : Int) := by omega
      have HC := hid (cutPart_any hH' hBr)
      have HQ := hid hseq
      have HSQ := hid hsq
      have hRl : cutE zs' = 0 → (cutR zs').length < zs'.length := cutR_lt hby
      have HRL := hid hRl
      clear hseq hsq hby hfo hRl
      obtain ⟨E, hE⟩ : ∃ E, E = cutE zs' := ⟨_, rfl⟩
      rw [← hE] at HC
      have HE := hid hE
      clear hE
      have hw : ∀ k, Fence.wide.fn k := fun _ => trivial
      have hn1 : 1 ≤ n := by omega
      gi_wp2_with (gi_at_call 32; refine (callsIn_wide.2 HC.out).mono ?_; rintro e w2 ⟨pv, rv, rfl, hp, hr, m, rfl⟩; have hJ2 : J pre (wr.drewN m) := hAb _ _ _ none hJs (grown_drewN _ _) (fun r hr => by cases hr); have hB2 : Below w0.heap.size w0 (wr.drewN m) := below_drewN hBr m; obtain ⟨fn, tmps, assign, body, hy, hR⟩ := hY pre ⟨(pv, cutP zs', E), hp⟩ (wr.drewN m) hJ2 hlt; dsimp only [PartAt.vals] at hy)
      refine hR.mono ?_
      rintro e W3 (⟨rfl, hJ3, hk3⟩ | ⟨rfl, hJx3⟩)
      · by_cases hE0 : E = 0
        · have hne : (E != 0) = false := by simp [hE0]
          have HE0 := hid hE0
          clear hE0 hy hR
          gi_wp2
          go_roundw
          case rel =>
            refine ⟨_, cutR zs', hr, ?_, hJ3, hB2.trans hk3⟩
            have h1 := HSQ.out
            rw [if_pos (HE.out ▸ HE0.out), ← HE.out] at h1
            rw [HQ.out, h1]
            simp [PartAt.said]
          case measure =>
            have h2 := HRL.out (HE.out ▸ HE0.out)
            obtain ⟨a2, c2, h3, _⟩ := hr.open
            rw [h3]
            exact h2
        · have hne : (E != 0) = true := by simpa using hE0
          have HE0 := hid hE0
          clear hE0 hy hR
          gi_wp2
          refine bodyPost_ret (results_none rfl _ _ _) rfl ?_
          refine ⟨⟨_, rfl⟩, .inl ⟨_, ?_, hJ3⟩⟩
          have h1 := HSQ.out
          rw [if_neg (HE.out ▸ HE0.out), ← HE.out] at h1
          rw [HQ.out, h1]
          simp [PartAt.said]
      · clear hy hR
        gi_wp2
        refine bodyPost_ret (results_none rfl _ _ _) rfl ?_
        refine ⟨⟨_, rfl⟩, .inr ⟨_, ?_, hJx3⟩⟩
        have h1 := HSQ.out
        rw [← HE.out] at h1
        rw [HQ.out, h1]
        exact ⟨if E = 0 then seqOf (cutR zs') else [], by simp [PartAt.said]⟩

/-- partsOf: its argument is boxed, the function value captures the box. -/
theorem partsOf_in (n : Nat) (ao : Option Addr) (len cap : Nat) (w : World) :
    CallsIn Fence.wide n Tryd.prog 29 #[.slice ao len cap] w fun e w' => e = .returned (.func (.func 31) #[] #[.pointer (some ⟨w.heap.size, 0, none⟩)]) ∧ w' = w.alloc (.cells #[.slice ao len cap] 22) := by
  refine callsIn_of_wp Tryd.func29 rfl trivial ?_ rfl
  simp only [Tryd.ntmps29, List.size_toArray, List.length_cons, List.length_nil, Nat.reduceAdd, Nat.reduceSub, Array.replicate_succ, Array.replicate_zero, List.push_toArray, List.append_toArray, List.nil_append, List.cons_append]
  gi_wp2
  go_ret
  exact ⟨rfl, rfl⟩

theorem iter_stops (n : Nat) (hn : 2 ≤ n) (Bn : Nat) (w0 w : World) (u : Value) (zs : List Int) (hH : Has w0 u zs) (hBn : Bn < w.heap.size) (hc : w.cell? ⟨Bn, 0, none⟩ = some u) (hB : Below w0.heap.size w0 w) :
    SeqStopsK Fence.wide n Tryd.prog 31 #[.pointer (some ⟨Bn, 0, none⟩)] (fun x : PartAt w0 => PartAt.vals x) (Below w0.heap.size) (fun ys => ys.map PartAt.said = seqOf zs) (fun pre => pre.map PartAt.said <+: seqOf zs) (seqOf zs).length w := fun l J Jx W hW hJ _ hY h0 =>
  iter_in n hn l Bn w0 u zs hH J Jx W hJ hY ((hW.cell (p := ⟨Bn, 0, none⟩) hBn).trans hc) (hB.trans (hW.mono hB.size)) h0
end Go.Proofs.YtongdccpoefnlaaDoor
