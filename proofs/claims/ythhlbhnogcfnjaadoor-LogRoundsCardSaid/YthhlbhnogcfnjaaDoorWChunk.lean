/-
  Bytes told by pieces of one length, the last as long as what is left: the iterator of slices.Chunk, for every loop body that leaves its boxes alone.
-/
import Derived.Test.YthhlbhnogcfnjaaDoorCComm
namespace Go.Proofs.YthhlbhnogcfnjaaDoor
open Go.RowKit Go.Shelf

attribute [local go_sem] Oper.semAt_some

/-- The pieces by their numbers. -/
abbrev Pl (q : Nat) : Type := { k : Nat // k < q }
abbrev Pl.size (c Ln : Nat) {q : Nat} (x : Pl q) : Nat := min c (Ln - x.1 * c)
abbrev Pl.vals {q : Nat} (b off c Ln : Nat) (x : Pl q) : Array Value := #[.slice (some ⟨b, off + x.1 * c, none⟩) (x.size c Ln) (x.size c Ln)]

set_option maxRecDepth 8000 in
set_option maxHeartbeats 1600000 in
theorem chunkl_in (m : Nat) (hm : 2 ≤ m) (l Bv Bn N : Nat) (P : Nat → Prop) (b off cap c q Ln : Nat) (ao : Option Addr) (J Jx : List (Pl q) → World → Prop) (W : World) (hAb : AbidesFrom W.heap.size J)
    (hY : ∀ pre x W1, J pre W1 → pre.length < q → YieldAt Fence.wide (m - 1) Tryd.prog l (Pl.vals b off c Ln x) W1 fun e W' =>
      (e = .returned (.bool true) ∧ J (pre ++ [x]) W' ∧ Kc N P W1 W') ∨ (e = .returned (.bool false) ∧ Jx (pre ++ [x]) W'))
    (hbv : W.heap[Bv]? = some (.cells #[.slice ao Ln cap] 32 (0, 0))) (hbn : W.heap[Bn]? = some (.cells #[.int .i64 c] 3 (0, 0))) (hNv : Bv < N ∧ ¬ P Bv) (hNn : Bn < N ∧ ¬ P Bn)
    (hao : 1 ≤ q → ao = some ⟨b, off, none⟩) (hL1 : Ln ≤ q * c) (hL2 : q * c < Ln + c) (hc1 : 1 ≤ c) (hc2 : c ≤ 1000000) (hcap : Ln ≤ cap) (hbd : Ln ≤ 1000000) (h0 : J [] W) :
    CallsIn Fence.wide m Tryd.prog 57 #[.func (.yield l) #[] #[], .pointer (some ⟨Bv, 0, none⟩), .pointer (some ⟨Bn, 0, none⟩)] W fun e W' => (∃ v, e = .returned v) ∧
      ((∃ xs, xs.map (·.1) = List.range q ∧ J xs W') ∨ (∃ pre, pre.map (·.1) = List.range pre.length ∧ Jx pre W')) := by
  have HA := hid hao
  have HV := hid hbv
  have HNN := hid hbn
  have HL := hid (And.intro hL1 hL2)
  have HP := hid (And.intro hNv hNn)
  clear hao hbv hbn hL1 hL2 hNv hNn
  refine callsIn_of_wp Tryd.func57 rfl trivial ?_ rfl
  simp only [Tryd.ntmps57, List.size_toArray, List.length_cons, List.length_nil, Nat.reduceAdd, Nat.reduceSub, Array.replicate_succ, Array.replicate_zero, List.push_toArray, List.append_toArray, List.nil_append, List.cons_append]
  gi_wp2
  gi_loopw [4, 5] (fun i _ wr => ∃ (k : Nat) (pre : List (Pl q)), k ≤ q ∧ i = .int .i64 ((k * c : Nat) : Int) ∧ pre.map (·.1) = List.range k ∧ J pre wr ∧ wr.heap[Bv]? = some (.cells #[.slice ao Ln cap] 32 (0, 0)) ∧ wr.heap[Bn]? = some (.cells #[.int .i64 c] 3 (0, 0))) (fun i _ _ => Ln - (intOf i).toNat)
  case atStart => exact ⟨0, [], Nat.zero_le _, by simp, by simp, h0, HV.out, HNN.out⟩
  case round =>
    obtain ⟨k, pre, hk, rfl, hpre, hJs, hv, hn⟩ := hrel
    have cv := cell_of_row wr Bv 0 _ _ _ hv
    have cn := cell_of_row wr Bn 0 _ _ _ hn
    simp only [List.getElem?_toArray, List.getElem?_cons_zero] at cv cn
    have HPR := hid hpre
    have HVN := hid (And.intro hv hn)
    obtain ⟨I, hI⟩ : ∃ I, I = k * c := ⟨_, rfl⟩
    have HI := hid hI
    rw [← hI]
    by_cases hlt : k < q
    · have hle : I < Ln := by
        have h1 := HL.out.2
        have : (k + 1) * c ≤ q * c := Nat.mul_le_mul_right _ hlt
        rw [Nat.succ_mul] at this
        omega
      obtain rfl := HA.out (by omega)
      have hprel : pre.length = k := by
        have := congrArg List.length hpre
        simpa using this
      have hdr : J pre wr.drew := hAb _ _ _ none hJs ⟨rfl, rfl, rfl, Nat.le_refl _, fun _ _ _ => rfl⟩ (fun r hr => by cases hr)
      obtain ⟨fn, tmps, assign, body, hy, hR⟩ := hY pre ⟨k, hlt⟩ _ hdr (by omega)
      dsimp only [Pl.vals, Pl.size] at hy
      rw [← hI] at hy
      have HR := hid hR
      clear hI hpre hv hn hR hdr hprel
      by_cases hfull : I + c ≤ Ln
      · have hmn : min (c : Int) ((Ln - I : Nat) : Int) = (c : Int) := by omega
        rw [show min c (Ln - I) = c by omega] at hy
        gi_wp2
        gi_region
        gi_wp2
        refine ⟨fun _ => by omega, HR.out.mono ?_⟩
        rintro e W3 (⟨rfl, hJ3, hk3⟩ | ⟨rfl, hJx3⟩)
        · clear hy
          have hv3 := (hk3.keep Bv _ _ _ HP.out.1.1 HP.out.1.2 HVN.out.1).trans HVN.out.1
          have hn3 := (hk3.keep Bn _ _ _ HP.out.2.1 HP.out.2.2 HVN.out.2).trans HVN.out.2
          have cn3 := cell_of_row W3 Bn 0 _ _ _ hn3
          simp only [List.getElem?_toArray, List.getElem?_cons_zero] at cn3
          have HV3 := hid (And.intro hv3 hn3)
          clear hv3 hn3
          gi_wp2
          go_roundw
          case rel =>
            refine ⟨k + 1, _, by omega, ?_, ?_, hJ3, HV3.out.1, HV3.out.2⟩
            · have : ((k + 1) * c : Nat) = I + c := by rw [HI.out, Nat.succ_mul]
              rw [this]
              go_num
            · rw [List.map_append, HPR.out, List.range_succ]
              rfl
          case measure => simp [intOf]; omega
        · clear hy
          gi_wp2
          refine bodyPost_ret (results_none rfl _ _ _) rfl ?_
          refine ⟨⟨_, rfl⟩, .inr ⟨_, ?_, hJx3⟩⟩
          have hl : pre.length = k := by
            have := congrArg List.length HPR.out
            simpa using this
          rw [List.map_append, HPR.out, List.length_append, hl]
          exact List.range_succ.symm
      · have hmn : min (c : Int) ((Ln - I : Nat) : Int) = ((Ln - I : Nat) : Int) := by omega
        have hnf : ¬ c ≤ Ln - I := by omega
        have hpt : ((I : Int) + ((Ln - I : Nat) : Int)).toNat - I = Ln - I := by omega
        rw [show min c (Ln - I) = Ln - I by omega] at hy
        gi_wp2
        gi_region
        gi_wp2
        refine ⟨fun _ => by omega, HR.out.mono ?_⟩
        rintro e W3 (⟨rfl, hJ3, hk3⟩ | ⟨rfl, hJx3⟩)
        · clear hy
          have hv3 := (hk3.keep Bv _ _ _ HP.out.1.1 HP.out.1.2 HVN.out.1).trans HVN.out.1
          have hn3 := (hk3.keep Bn _ _ _ HP.out.2.1 HP.out.2.2 HVN.out.2).trans HVN.out.2
          have cn3 := cell_of_row W3 Bn 0 _ _ _ hn3
          simp only [List.getElem?_toArray, List.getElem?_cons_zero] at cn3
          have HV3 := hid (And.intro hv3 hn3)
          clear hv3 hn3
          gi_wp2
          go_roundw
          case rel =>
            refine ⟨k + 1, _, by omega, ?_, ?_, hJ3, HV3.out.1, HV3.out.2⟩
            · have : ((k + 1) * c : Nat) = I + c := by rw [HI.out, Nat.succ_mul]
              rw [this]
              go_num
            · rw [List.map_append, HPR.out, List.range_succ]
              rfl
          case measure => simp [intOf]; omega
        · clear hy
          gi_wp2
          refine bodyPost_ret (results_none rfl _ _ _) rfl ?_
          refine ⟨⟨_, rfl⟩, .inr ⟨_, ?_, hJx3⟩⟩
          have hl : pre.length = k := by
            have := congrArg List.length HPR.out
            simpa using this
          rw [List.map_append, HPR.out, List.length_append, hl]
          exact List.range_succ.symm
    · obtain rfl : k = q := by omega
      have hIL : Ln ≤ I ∧ I ≤ 2000000 := by have := HL.out; rw [hI]; omega
      clear hI hpre hv hn
      gi_wp2
      go_end0
      exact ⟨⟨_, rfl⟩, .inl ⟨pre, HPR.out, hJs⟩⟩

/-- Chunk itself: two boxes, and the function value over them. -/
theorem chunklOf_in (m : Nat) (ao : Option Addr) (len cap c : Nat) (hc : 1 ≤ c) (w : World) :
    CallsIn Fence.wide m Tryd.prog 46 #[.slice ao len cap, .int .i64 c] w fun e w' => e = .returned (.func (.func 57) #[] #[.pointer (some ⟨w.heap.size, 0, none⟩), .pointer (some ⟨w.heap.size + 1, 0, none⟩)]) ∧
      w' = (w.alloc (.cells #[.slice ao len cap] 32)).alloc (.cells #[.int .i64 c] 3) := by
  refine callsIn_of_wp Tryd.func46 rfl trivial ?_ rfl
  simp only [Tryd.ntmps46, List.size_toArray, List.length_cons, List.length_nil, Nat.reduceAdd, Nat.reduceSub, Array.replicate_succ, Array.replicate_zero, List.push_toArray, List.append_toArray, List.nil_append, List.cons_append]
  gi_wp2
  go_ret
  exact ⟨rfl, rfl⟩

theorem chunkl_stops (m : Nat) (hm : 2 ≤ m) (Bv Bn N : Nat) (P : Nat → Prop) (b off cap c q Ln : Nat) (ao : Option Addr) (w : World)
    (hbv : w.heap[Bv]? = some (.cells #[.slice ao Ln cap] 32 (0, 0))) (hbn : w.heap[Bn]? = some (.cells #[.int .i64 c] 3 (0, 0))) (hNv : Bv < N ∧ ¬ P Bv) (hNn : Bn < N ∧ ¬ P Bn)
    (hao : 1 ≤ q → ao = some ⟨b, off, none⟩) (hL1 : Ln ≤ q * c) (hL2 : q * c < Ln + c) (hc1 : 1 ≤ c) (hc2 : c ≤ 1000000) (hcap : Ln ≤ cap) (hbd : Ln ≤ 1000000) :
    SeqStopsK Fence.wide m Tryd.prog 57 #[.pointer (some ⟨Bv, 0, none⟩), .pointer (some ⟨Bn, 0, none⟩)] (fun x : Pl q => Pl.vals b off c Ln x) (Kc N P) (fun xs => xs.map (·.1) = List.range q) (fun pre => pre.map (·.1) = List.range pre.length) q w := fun l J Jx W hW hJ _ hY h0 =>
  chunkl_in m hm l Bv Bn N P b off cap c q Ln ao J Jx W hJ hY ((hW.block Bv (lt_of_heap hbv)).trans hbv) ((hW.block Bn (lt_of_heap hbn)).trans hbn) hNv hNn hao hL1 hL2 hc1 hc2 hcap hbd h0
end Go.Proofs.YthhlbhnogcfnjaaDoor
