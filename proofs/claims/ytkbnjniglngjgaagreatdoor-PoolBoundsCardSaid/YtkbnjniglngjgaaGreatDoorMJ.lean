/-
  Bytes told by pieces of one length, the last as long as what is left: the iterator of slices.Chunk, for every loop body that leaves its boxes alone.
-/
import Derived.Test.YtkbnjniglngjgaaGreatDoorME
import Derived.Test.YtkbnjniglngjgaaGreatDoorMA
namespace Go.Proofs.YtkbnjniglngjgaaGreatDoor
open Go.RowKit Go.Shelf

attribute [local go_sem] Oper.semAt_some

/-- The pieces by their numbers. -/
abbrev Pl (q : Nat) : Type := { k : Nat // k < q }
abbrev Pl.size (c Ln : Nat) {q : Nat} (x : Pl q) : Nat := min c (Ln - x.1 * c)
abbrev Pl.vals {q : Nat} (b off c Ln : Nat) (x : Pl q) : Array Value := #[.slice (some ⟨b, off + x.1 * c, none⟩) (x.size c Ln) (x.size c Ln)]

set_option maxRecDepth 8000 in
set_option maxHeartbeats 1600000 in
theorem chunkl_in (m : Nat) (hm : 2 ≤ m) (l Bv Bn N : Nat) (P : Nat → Prop) (b off cap c q Ln : Nat) (ao : Option Addr) (J Jx : List (Pl q) → World → Prop) (W : World) (hAb : AbidesFrom W.heap.size J)
    (hY : ∀ pre x W1, J pre W1 → pre.length < q → YieldAt Fence.wide (m - 1) Tryz.prog l (Pl.vals b off c Ln x) W1 fun e W' =>
      (e = .returned (.bool true) ∧ J (pre ++ [x]) W' ∧ Kc N P W1 W') ∨ (e = .returned (.bool false) ∧ Jx (pre ++ [x]) W'))
    (hbv : W.heap[Bv]? = some (.cells #[.slice ao Ln cap] 38 (0, 0))) (hbn : W.heap[Bn]? = some (.cells #[.int .i64 c] 3 (0, 0))) (hNv : Bv < N ∧ ¬ P Bv) (hNn : Bn < N ∧ ¬ P Bn)
    (hao : 1 ≤ q → ao = some ⟨b, off, none⟩) (hL1 : Ln ≤ q * c) (hL2 : q * c < Ln + c) (hc1 : 1 ≤ c) (hc2 : c ≤ 1000000) (hcap : Ln ≤ cap) (hbd : Ln ≤ 1000000) (h0 : J [] W) :
    CallsIn Fence.wide m Tryz.prog 108 #[.func (.yield l) #[] #[], .pointer (some ⟨Bv, 0, none⟩), .pointer (some ⟨Bn, 0, none⟩)] W fun e W' => (∃ v, e = .returned v) ∧
      ((∃ xs, xs.map (·.1) = List.range q ∧ J xs W') ∨ (∃ pre, pre.map (·.1) = List.range pre.length ∧ Jx pre W')) := by
  have HA := hid hao
  have HV := hid hbv
  have HNN := hid hbn
  have HL := hid (And.intro hL1 hL2)
  have HP := hid (And.intro hNv hNn)
  clear hao hbv hbn hL1 hL2 hNv hNn
  refine callsIn_of_wp Tryz.func108 rfl trivial ?_ rfl
  simp only [Tryz.ntmps108, List.size_toArray, List.length_cons, List.length_nil, Nat.reduceAdd, Nat.reduceSub, Array.replicate_succ, Array.replicate_zero, List.push_toArray, List.append_toArray, List.nil_append, List.cons_append]
  gi_wp2
  gi_loopw [4, 5] (fun i _ wr => ∃ (k : Nat) (pre : List (Pl q)), k ≤ q ∧ i = .int .i64 ((k * c : Nat) : Int) ∧ pre.map (·.1) = List.range k ∧ J pre wr ∧ wr.heap[Bv]? = some (.cells #[.slice ao Ln cap] 38 (0, 0)) ∧ wr.heap[Bn]? = some (.cells #[.int .i64 c] 3 (0, 0))) (fun i _ _ => Ln - (intOf i).toNat)
  case atStart => exact ⟨0, [], Nat.zero_le _, by simp, by simp, h0, HV.out, HNN.out⟩
  case round =>
    obtain ⟨k, pre, hk, rfl, hpre, hJs, hv, hn⟩ := hrel
    have cv := cell_of_row wr Bv 0 _ _ _ hv
    have cn := cell_of_row wr Bn 0 _ _ _ hn
    simp only [List.getElem?_toArray, List.getElem?_cons_zero] at cv cn
    have HPR := hid hpre
    have HVN := hid (And.intro hv hn)
    obtain ⟨I, hI⟩ : ∃ I, I = k * c := ⟨_, rfl⟩
    have HI := hid hI
    rw [← hI]
    by_cases hlt : k < q
    · have hle : I < Ln := by
        have h1 := HL.out.2
        have : (k + 1) * c ≤ q * c := Nat.mul_le_mul_right _ hlt
        rw [Nat.succ_mul] at this
        omega
      obtain rfl := HA.out (by omega)
      have hprel : pre.length = k := by
        have := congrArg List.length hpre
        simpa using this
      have hdr : J pre wr.drew := hAb _ _ _ none hJs ⟨rfl, rfl, rfl, Nat.le_refl _, fun _ _ _ => rfl⟩ (fun r hr => by cases hr)
      obtain ⟨fn, tmps, assign, body, hy, hR⟩ := hY pre ⟨k, hlt⟩ _ hdr (by omega)
      dsimp only [Pl.vals, Pl.size] at hy
      rw [← hI] at hy
      have HR := hid hR
      clear hI hpre hv hn hR hdr hprel
      by_cases hfull : I + c ≤ Ln
      · have hmn : min (c : Int) ((Ln - I : Nat) : Int) = (c : Int) := by omega
        rw [show min c (Ln - I) = c by omega] at hy
        gi_wp2
        gi_region
        gi_wp2
        refine ⟨fun _ => by omega, HR.out.mono ?_⟩
        rintro e W3 (⟨rfl, hJ3, hk3⟩ | ⟨rfl, hJx3⟩)
        · clear hy
          have hv3 := (hk3.keep Bv _ _ _ HP.out.1.1 HP.out.1.2 HVN.out.1).trans HVN.out.1
          have hn3 := (hk3.keep Bn _ _ _ HP.out.2.1 HP.out.2.2 HVN.out.2).trans HVN.out.2
          have cn3 := cell_of_row W3 Bn 0 _ _ _ hn3
          simp only [List.getElem?_toArray, List.getElem?_cons_zero] at cn3
          have HV3 := hid (And.intro hv3 hn3)
          clear hv3 hn3
          gi_wp2
          go_roundw
          case rel =>
            refine ⟨k + 1, _, by omega, ?_, ?_, hJ3, HV3.out.1, HV3.out.2⟩
            · have : ((k + 1) * c : Nat) = I + c := by rw [HI.out, Nat.succ_mul]
              rw [this]
              go_num
            · rw [List.map_append, HPR.out, List.range_succ]
              rfl
          case measure => simp [intOf]; omega
        · clear hy
          gi_wp2
          refine bodyPost_ret (results_none rfl _ _ _) rfl ?_
          refine ⟨⟨_, rfl⟩, .inr ⟨_, ?_, hJx3⟩⟩
          have hl : pre.length = k := by
            have := congrArg List.length HPR.out
            simpa using this
          rw [List.map_append, HPR.out, List.length_append, hl]
          exact List.range_succ.symm
      · have hmn : min (c : Int) ((Ln - I : Nat) : Int) = ((Ln - I : Nat) : Int) := by omega
        have hnf : ¬ c ≤ Ln - I := by omega
        have hpt : ((I : Int) + ((Ln - I : Nat) : Int)).toNat - I = Ln - I := by omega
        rw [show min c (Ln - I) = Ln - I by omega] at hy
        gi_wp2
        gi_region
        gi_wp2
        refine ⟨fun _ => by omega, HR.out.mono ?_⟩
        rintro e W3 (⟨rfl, hJ3, hk3⟩ | ⟨rfl, hJx3⟩)
        · clear hy
          have hv3 := (hk3.keep Bv _ _ _ HP.out.1.1 HP.out.1.2 HVN.out.1).trans HVN.out.1
          have hn3 := (hk3.keep Bn _ _ _ HP.out.2.1 HP.out.2.2 HVN.out.2).trans HVN.out.2
          have cn3 := cell_of_row W3 Bn 0 _ _ _ hn3
          simp only [List.getElem?_toArray, List.getElem?_cons_zero] at cn3
          have HV3 := hid (And.intro hv3 hn3)
          clear hv3 hn3
          gi_wp2
          go_roundw
          case rel =>
            refine ⟨k + 1, _, by omega, ?_, ?_, hJ3, HV3.out.1, HV3.out.2⟩
            · have : ((k + 1) * c : Nat) = I + c := by rw [HI.out, Nat.succ_mul]
              rw [this]
              go_num
            · rw [List.map_append, HPR.out, List.range_succ]
              rfl
          case measure => simp [intOf]; omega
        · clear hy
          gi_wp2
          refine bodyPost_ret (results_none rfl _ _ _) rfl ?_
          refine ⟨⟨_, rfl⟩, .inr ⟨_, ?_, hJx3⟩⟩
          have hl : pre.length = k := by
            have := congrArg List.length HPR.out
            simpa using this
          rw [List.map_append, HPR.out, List.length_append, hl]
          exact List.range_succ.symm
    · obtain rfl : k = q := by omega
      have hIL : Ln ≤ I ∧ I ≤ 2000000 := by have := HL.out; rw [hI]; omega
      clear hI hpre hv hn
      gi_wp2
      go_end0
      exact ⟨⟨_, rfl⟩, .inl ⟨pre, HPR.out, hJs⟩⟩

/-- Chunk itself: two boxes, and the function value over them. -/
theorem chunklOf_in (m : Nat) (ao : Option Addr) (len cap c : Nat) (hc : 1 ≤ c) (w : World) :
    CallsIn Fence.wide m Tryz.prog 92 #[.slice ao len cap, .int .i64 c] w fun e w' => e = .returned (.func (.func 108) #[] #[.pointer (some ⟨w.heap.size, 0, none⟩), .pointer (some ⟨w.heap.size + 1, 0, none⟩)]) ∧
      w' = (w.alloc (.cells #[.slice ao len cap] 38)).alloc (.cells #[.int .i64 c] 3) := by
  refine callsIn_of_wp Tryz.func92 rfl trivial ?_ rfl
  simp only [Tryz.ntmps92, List.size_toArray, List.length_cons, List.length_nil, Nat.reduceAdd, Nat.reduceSub, Array.replicate_succ, Array.replicate_zero, List.push_toArray, List.append_toArray, List.nil_append, List.cons_append]
  gi_wp2
  go_ret
  exact ⟨rfl, rfl⟩

theorem chunkl_stops (m : Nat) (hm : 2 ≤ m) (Bv Bn N : Nat) (P : Nat → Prop) (b off cap c q Ln : Nat) (ao : Option Addr) (w : World)
    (hbv : w.heap[Bv]? = some (.cells #[.slice ao Ln cap] 38 (0, 0))) (hbn : w.heap[Bn]? = some (.cells #[.int .i64 c] 3 (0, 0))) (hNv : Bv < N ∧ ¬ P Bv) (hNn : Bn < N ∧ ¬ P Bn)
    (hao : 1 ≤ q → ao = some ⟨b, off, none⟩) (hL1 : Ln ≤ q * c) (hL2 : q * c < Ln + c) (hc1 : 1 ≤ c) (hc2 : c ≤ 1000000) (hcap : Ln ≤ cap) (hbd : Ln ≤ 1000000) :
    SeqStopsK Fence.wide m Tryz.prog 108 #[.pointer (some ⟨Bv, 0, none⟩), .pointer (some ⟨Bn, 0, none⟩)] (fun x : Pl q => Pl.vals b off c Ln x) (Kc N P) (fun xs => xs.map (·.1) = List.range q) (fun pre => pre.map (·.1) = List.range pre.length) q w := fun l J Jx W hW hJ _ hY h0 =>
  chunkl_in m hm l Bv Bn N P b off cap c q Ln ao J Jx W hJ hY ((hW.block Bv (lt_of_heap hbv)).trans hbv) ((hW.block Bn (lt_of_heap hbn)).trans hbn) hNv hNn hao hL1 hL2 hc1 hc2 hcap hbd h0
end Go.Proofs.YtkbnjniglngjgaaGreatDoor

namespace Go.Proofs.YtkbnjniglngjgaaGreatDoor
open Go.RowKit Go.Shelf

theorem made_bytes (n : Nat) : madeCells #[Value.int .u8 0] n = (List.replicate n (Value.int .u8 0)).toArray := by
  apply Array.ext
  · simp [madeCells]
  · intro i h1 h2
    simp [madeCells]
    have : i % 1 = 0 := by omega
    simp [this]
theorem make_bytes (n : Nat) (hn : n ≤ 140737488355328) (w : World) : (Instr.makeSlice 38 (.int .i64 (n : Int)) (.int .i64 (n : Int))).run Tryz.prog w = .ok (.slice (some ⟨w.heap.size, 0, none⟩) n n) (w.alloc (.cells (List.replicate n (Value.int .u8 0)).toArray 5)) := by
  obtain ⟨i0, hi, hz0, hz1, hz2⟩ := info_parts info5
  have := run_make (P := Tryz.prog) w 38 5 i0 _ Tryz.underlying38 hi hz0 .i64 .i64 n n (by omega) (by omega) (by rw [hz2]; omega) (by omega)
  rw [hz1] at this
  rw [this, ← made_bytes]
  simp [Value.cells]
theorem own_made (w : World) (n base : Nat) (hb : base ≤ w.heap.size) (hn : n ≤ 140737488355328) : (w.alloc (.cells (List.replicate n (Value.int .u8 0)).toArray 5)).ownsRow base 5 1 (.slice (some ⟨w.heap.size, 0, none⟩) n n) n ((zeros n).map (Value.int .u8)) := by
  refine ⟨by simp [zeros], .inr ⟨w.heap.size, n, _, rfl, hb, heap_new w _, Nat.le_refl _, by unfold maxLen; omega, by simp, by simp [zeros]⟩⟩
end Go.Proofs.YtkbnjniglngjgaaGreatDoor

namespace Go.Proofs.YtkbnjniglngjgaaGreatDoor
open Go.RowKit Go.PlainAid

theorem dec_len : ∀ (zs : List Int) (X : Int) (k : Nat), (dec X k zs).2.2 = 0 → (k : Int) + 1 ≤ (dec X k zs).2.1 ∧ (dec X k zs).2.1 ≤ k + zs.length
  | [], X, k, h => by simp [dec] at h
  | c :: l, X, k, h => by
    unfold dec at h ⊢
    split at h
    · simp at h
    · rename_i h1
      rw [if_neg h1]
      split at h
      · rename_i h2
        rw [if_pos h2]
        have := dec_len l _ _ h
        simp only [List.length_cons]
        omega
      · rename_i h2
        rw [if_neg h2]
        split at h
        · simp at h
        · rename_i h3
          rw [if_neg h3]
          simp only [List.length_cons]
          omega
theorem dec_ten : ∀ (zs : List Int) (X : Int) (k : Nat), k ≤ 9 → (dec X k zs).2.2 = 0 → (dec X k zs).2.1 ≤ 10
  | [], X, k, _, h => by simp [dec] at h
  | c :: l, X, k, hk, h => by
    unfold dec at h ⊢
    split at h
    · simp at h
    · rename_i h1
      rw [if_neg h1]
      split at h
      · rename_i h2
        rw [if_pos h2]
        exact dec_ten l _ _ (by omega) h
      · rename_i h2
        rw [if_neg h2]
        split at h
        · simp at h
        · rename_i h3
          rw [if_neg h3]
          show (k : Int) + 1 ≤ 10
          omega
theorem openB_by {s : List Int} (h : By s) : By (openB s) := fun b hx => by
  unfold openB at hx
  split at hx
  · exact h b (List.mem_of_mem_take hx)
  · simp at hx
theorem openB_size {s : List Int} (h : openE s = 0) : (openB s).length = s.length - 4 := by
  unfold openB
  rw [if_pos h, List.length_take]
  omega
/-- A sector as a piece: is it sound, its number, its bytes. -/
def pcOk (s : List Int) : Bool := decide (openE s = 0 ∧ (dec 0 0 ((openB s).drop 48)).2.2 = 0)
def pcNo (s : List Int) : Int := if pcOk s then (dec 0 0 ((openB s).drop 48)).1 else 0
def pcBy (s : List Int) : List Int := if pcOk s then (openB s).take 48 else []
theorem pcBy_by {s : List Int} (h : By s) : By (pcBy s) := by
  unfold pcBy
  split
  · exact (openB_by h).take 48
  · exact fun x hx => by simp at hx
theorem pcBy_len {s : List Int} (hs : s.length = 64) (h : pcOk s = true) : (pcBy s).length = 48 := by
  have h1 : openE s = 0 := by simp [pcOk] at h; exact h.1
  unfold pcBy
  rw [if_pos h, List.length_take, openB_size h1, hs]
  rfl
theorem pcNo_nonneg (s : List Int) : 0 ≤ pcNo s := by
  unfold pcNo
  split
  · exact dec_nonneg _ _ _ (by omega)
  · omega
/-- A sector as the head. -/
def hdOk (s : List Int) : Bool := decide (pcOk s = true ∧ pcNo s = 18446744073709551615 ∧ (dec 0 0 (pcBy s)).2.2 = 0 ∧ 1 ≤ (dec 0 0 (pcBy s)).1 ∧ (dec 0 0 (pcBy s)).1 ≤ 4611686018427387904 ∧
  (dec 0 0 ((pcBy s).drop (dec 0 0 (pcBy s)).2.1.toNat)).2.2 = 0 ∧ (dec 0 0 ((pcBy s).drop (dec 0 0 (pcBy s)).2.1.toNat)).1 ≤ 4611686018427387904)
def hdFirst (s : List Int) : Int := if hdOk s then (dec 0 0 (pcBy s)).1 else 0
def hdFrom (s : List Int) : Int := if hdOk s then (dec 0 0 ((pcBy s).drop (dec 0 0 (pcBy s)).2.1.toNat)).1 else 0
/-- The record whose frame bytes begin with. -/
def rcSize (b : List Int) : Int := (dec 0 0 (b.drop (dec 0 0 b).2.1.toNat)).1
def rcOk (b : List Int) (lsn : Int) : Bool := decide ((dec 0 0 b).2.2 = 0 ∧ (dec 0 0 b).1 = lsn ∧ (dec 0 0 (b.drop (dec 0 0 b).2.1.toNat)).2.2 = 0 ∧ rcSize b ≤ 2000 ∧ rcSize b + 16 ≤ b.length ∧ openE (b.take (rcSize b + 16).toNat) = 0)
def rcBy (b : List Int) (lsn : Int) : List Int := if rcOk b lsn then (openB (b.take (rcSize b + 16).toNat)).drop 12 else []
theorem rcSize_nonneg (b : List Int) : 0 ≤ rcSize b := dec_nonneg _ _ _ (by omega)
theorem rcBy_len {b : List Int} {lsn : Int} (h : rcOk b lsn = true) : ((rcBy b lsn).length : Int) = rcSize b ∧ (rcBy b lsn).length + 16 ≤ b.length ∧ (rcBy b lsn).length ≤ 2000 := by
  have h0 := rcSize_nonneg b
  have h1 := h
  simp only [rcOk, decide_eq_true_eq] at h1
  obtain ⟨_, _, _, h2, h3, h4⟩ := h1
  have : (rcBy b lsn).length = (rcSize b).toNat := by
    unfold rcBy
    rw [if_pos h, List.length_drop, openB_size h4, List.length_take]
    omega
  omega
/-- The records that bytes begin with, one by one. -/
def recsF : Nat → List Int → Int → List (List Int)
  | 0, _, _ => []
  | f + 1, b, lsn => if rcOk b lsn then rcBy b lsn :: recsF f (b.drop ((rcBy b lsn).length + 16)) (lsn + 1) else []
def recsP (b : List Int) (lsn : Int) : List (List Int) := recsF (b.length + 1) b lsn
theorem recsF_enough : ∀ (f g : Nat) (b : List Int) (lsn : Int), b.length < f → b.length < g → recsF f b lsn = recsF g b lsn
  | 0, _, _, _, h, _ => by omega
  | _, 0, _, _, _, h => by omega
  | f + 1, g + 1, b, lsn, hf, hg => by
    unfold recsF
    by_cases h : rcOk b lsn = true
    · have := (rcBy_len h).2.1
      rw [if_pos h, if_pos h, recsF_enough f g _ _ (by rw [List.length_drop]; omega) (by rw [List.length_drop]; omega)]
    · rw [if_neg h, if_neg h]
theorem recsP_yes {b : List Int} {lsn : Int} (h : rcOk b lsn = true) : recsP b lsn = rcBy b lsn :: recsP (b.drop ((rcBy b lsn).length + 16)) (lsn + 1) := by
  have := (rcBy_len h).2.1
  rw [recsP, recsF, if_pos h, recsP]
  congr 1
  exact recsF_enough _ _ _ _ (by rw [List.length_drop]; omega) (by rw [List.length_drop]; omega)
theorem recsP_no {b : List Int} {lsn : Int} (h : rcOk b lsn = false) : recsP b lsn = [] := by
  rw [recsP, recsF, if_neg (by rw [h]; decide)]
/-- Bytes of the stream that records take. -/
def bulkOf (rs : List (List Int)) : Nat := (rs.map fun r => r.length + 16).sum
theorem bulk_nil : bulkOf [] = 0 := rfl
theorem bulk_cons (r : List Int) (rs : List (List Int)) : bulkOf (r :: rs) = r.length + 16 + bulkOf rs := by simp [bulkOf]
theorem bulk_app (a b : List (List Int)) : bulkOf (a ++ b) = bulkOf a + bulkOf b := by simp [bulkOf]
theorem bulk_len (rs : List (List Int)) : rs.length * 16 ≤ bulkOf rs := by
  induction rs with
  | nil => simp [bulkOf]
  | cons r l ih => rw [bulk_cons, List.length_cons]; omega
theorem recsF_bulk : ∀ (f : Nat) (b : List Int) (lsn : Int), bulkOf (recsF f b lsn) ≤ b.length
  | 0, b, lsn => by simp [recsF, bulkOf]
  | f + 1, b, lsn => by
    unfold recsF
    by_cases h : rcOk b lsn = true
    · have h1 := (rcBy_len h).2.1
      have h2 := recsF_bulk f (b.drop ((rcBy b lsn).length + 16)) (lsn + 1)
      rw [if_pos h, bulk_cons]
      rw [List.length_drop] at h2
      omega
    · rw [if_neg h]; simp [bulkOf]
theorem recsP_bulk (b : List Int) (lsn : Int) : bulkOf (recsP b lsn) ≤ b.length := recsF_bulk _ b lsn
/-- The pieces that follow each other from number 'no' on. -/
def strmF (rd : Nat → List Int) : Nat → Nat → List Int
  | 0, _ => []
  | f + 1, no => if pcOk (rd no) = true ∧ pcNo (rd no) = no then pcBy (rd no) ++ strmF rd f (no + 1) else []
end Go.Proofs.YtkbnjniglngjgaaGreatDoor
