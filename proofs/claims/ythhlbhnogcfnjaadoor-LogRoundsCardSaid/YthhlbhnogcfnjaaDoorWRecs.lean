/-
  Layer 4: the records that bytes begin with, told one by one: wal.recordsIn.
-/
import Derived.Test.YthhlbhnogcfnjaaDoorWRecIn
import Derived.Test.YthhlbhnogcfnjaaDoorWStream
namespace Go.Proofs.YthhlbhnogcfnjaaDoor
open Go.RowKit Go.Shelf

attribute [local go_sem] Oper.semAt_some

/-- A record that is handed over: its LSN, its slice, its bytes. -/
abbrev Rc : Type := Nat × Value × List Int
abbrev Rc.vals (x : Rc) : Array Value := #[.int .u64 (x.1 : Int), x.2.1]
abbrev bytesOf (xs : List Rc) : List (List Int) := xs.map fun x => x.2.2
theorem cells_of {w : World} {b o : Nat} {v : Value} (h : w.cell? ⟨b, o, none⟩ = some v) : ∃ c t f, w.heap[b]? = some (Obj.cells c t f) := by
  have hb := lt_of_cell h
  have hw : w.heap[b]? = some w.heap[b] := by simp [hb]
  cases ho : w.heap[b] with
  | cells c t f => exact ⟨c, t, f, by rw [hw, ho]⟩
  | _ =>
    rw [ho] at hw
    simp [World.cell?, hw] at h
/-- What a round must keep: all cells below base, and all bytes. -/
structure Kq (base : Nat) (W W' : World) : Prop where
  size : W.heap.size ≤ W'.heap.size
  cells : ∀ (k : Nat) (c : Array Value) (t : TypeId) (f : Nat × Nat), k < base → W.heap[k]? = some (.cells c t f) → W'.heap[k]? = W.heap[k]?
  keep : ∀ (k : Nat) (c : Array Value), W.heap[k]? = some (.cells c 5 (0, 0)) → W'.heap[k]? = W.heap[k]?
theorem Kq.trans {base : Nat} {A B C : World} (h : Kq base A B) (k : Kq base B C) : Kq base A C := ⟨Nat.le_trans h.size k.size, fun i c t f hb hi => (k.cells i c t f hb ((h.cells i c t f hb hi).trans hi)).trans (h.cells i c t f hb hi), fun i c hi => (k.keep i c ((h.keep i c hi).trans hi)).trans (h.keep i c hi)⟩
theorem Kq.putObj (base : Nat) (W : World) (l : Nat) (o o' : Obj) (h : W.heap[l]? = some o) (ho : o.isCells = false) : Kq base W (W.putObj l o') := by
  have hg := grownBy_putObj' W l o'
  have ne : ∀ k c t f, W.heap[k]? = some (Obj.cells c t f) → W.heap[k]? = (W.putObj l o').heap[k]? := fun k c t f hk => (hg.block k (lt_of_heap hk) (fun e => by
    injection e with e
    subst e
    rw [h] at hk
    injection hk with e1
    subst e1
    cases ho)).symm
  exact ⟨hg.size, fun k c t f _ hk => (ne k c t f hk).symm, fun k c hk => (ne k c _ _ hk).symm⟩
theorem TabOk.cells {w w' : World} {base : Nat} (h : TabOk w) (hk : Kq base w w') (hg : 0 < base) : TabOk w' := fun i hi => by
  obtain ⟨c, t, f, hc⟩ := cells_of (h i hi)
  have := hk.cells _ c t f hg hc
  rw [← h i hi]
  simp only [World.cell?, this]
theorem NewBs.putObj {N : Nat} {W : World} {v : Value} {zs : List Int} (h : NewBs N W v zs) (l : Nat) (o o' : Obj) (hl : W.heap[l]? = some o) (ho : o.isCells = false) : NewBs N (W.putObj l o') v zs := h.same fun k c hk => (Kq.putObj 0 W l o o' hl ho).keep k c hk
def lenOf : Value → Nat
  | .slice _ n _ => n
  | _ => 0
/-- What is told of a record where it is handed over. -/
def RcAt (N : Nat) (zs : List Int) (lsn : Nat) (pre : List Rc) (x : Rc) (W : World) : Prop :=
  NewBs N W x.2.1 x.2.2 ∧ x.1 = lsn + pre.length ∧ x.2.2.length ≤ 2000 ∧ ∃ rest, recsP zs lsn = bytesOf pre ++ x.2.2 :: rest

theorem recordsIn_in (m : Nat) (ao : Option Addr) (n cap : Nat) (lsn : Int) (w : World) :
    CallsIn Fence.wide m Tryd.prog 37 #[.slice ao n cap, .int .u64 lsn] w fun e w' => e = .returned (.func (.func 52) #[] #[.pointer (some ⟨w.heap.size, 0, none⟩), .pointer (some ⟨w.heap.size + 1, 0, none⟩)]) ∧
      w' = (w.alloc (.cells #[.slice ao n cap] 32)).alloc (.cells #[.int .u64 lsn] 29) := by
  refine callsIn_of_wp Tryd.func37 rfl trivial ?_ rfl
  simp only [Tryd.ntmps37, List.size_toArray, List.length_cons, List.length_nil, Nat.reduceAdd, Nat.reduceSub, Array.replicate_succ, Array.replicate_zero, List.push_toArray, List.append_toArray, List.nil_append, List.cons_append]
  gi_wp2
  go_ret
  exact ⟨rfl, rfl⟩

set_option maxRecDepth 8000 in
set_option maxHeartbeats 1600000 in
theorem recs_in (m : Nat) (hm : 2 ≤ m) (l Bv Bn base N : Nat) (ao : Option Addr) (Ln cap lsn : Nat) (zs : List Int) (J Jx : List Rc → World → Prop) (W : World) (hAb : OwnFrom W.heap.size J)
    (hY : ∀ pre x W1, J pre W1 → RcAt N zs lsn pre x W1 → YieldAt Fence.wide (m - 1) Tryd.prog l (Rc.vals x) W1 fun e W' =>
      (e = .returned (.bool true) ∧ J (pre ++ [x]) W' ∧ Kq base W1 W') ∨ (e = .returned (.bool false) ∧ Jx (pre ++ [x]) W'))
    (hbv : W.heap[Bv]? = some (.cells #[.slice ao Ln cap] 32 (0, 0))) (hbn : W.heap[Bn]? = some (.cells #[.int .u64 lsn] 29 (0, 0)))
    (hbs : NewBs 0 W (.slice ao Ln cap) zs) (ht : TabOk W) (hg : 0 < base) (hN : N ≤ W.heap.size) (_hbase : base ≤ W.heap.size) (hl : lsn ≤ 5000000000000000000) (hz : zs.length ≤ 2000000) (h0 : J [] W) :
    CallsIn Fence.wide m Tryd.prog 52 #[.func (.yield l) #[] #[], .pointer (some ⟨Bv, 0, none⟩), .pointer (some ⟨Bn, 0, none⟩)] W fun e W' => (∃ v, e = .returned v) ∧
      ((∃ xs, bytesOf xs = recsP zs lsn ∧ J xs W') ∨ (∃ pre, True ∧ Jx pre W')) := by
  have cv := cell_of_row W Bv 0 _ _ _ hbv
  have cn := cell_of_row W Bn 0 _ _ _ hbn
  simp only [List.getElem?_toArray, List.getElem?_cons_zero] at cv cn
  have HBS := hid hbs
  have HT := hid ht
  have hmx : Tryd.prog.follows .mixedOrders = true := by kernel_rfl
  have hfn : ∀ k, Fence.wide.fn k := fun _ => trivial
  have hm1 : 1 ≤ m := by omega
  have hJd : ∀ pre W1, J pre W1 → J pre W1.drew := fun pre W1 hj => hAb _ _ _ none hj ⟨rfl, rfl, rfl, Nat.le_refl _, fun _ _ _ => rfl⟩ (fun r hr => by cases hr)
  have hJb : ∀ pre W1 W2, W.heap.size ≤ W1.heap.size → J pre W1 → Below W1.heap.size W1 W2 → J pre W2 := fun pre W1 W2 _ hj hb => hAb _ _ _ none hj ⟨hb.os, hb.tape, hb.output, hb.size, fun k hk _ => hb.block k hk⟩ (fun r hr => by cases hr)
  clear hbv hbn hbs ht
  refine callsIn_of_wp Tryd.func52 rfl trivial ?_ rfl
  simp only [Tryd.ntmps52, List.size_toArray, List.length_cons, List.length_nil, Nat.reduceAdd, Nat.reduceSub, Array.replicate_succ, Array.replicate_zero, List.push_toArray, List.append_toArray, List.nil_append, List.cons_append]
  gi_wp2
  gi_region
  gi_wp2
  gi_loopw [4, 5, 6, 7] (fun lf n _ _ wr => ∃ (pre : List Rc) (rest : List Int) (al : Option Addr) (cl : Nat), lf = .slice al rest.length cl ∧ n = .int .u64 ((lsn + pre.length : Nat) : Int) ∧ recsP zs lsn = bytesOf pre ++ recsP rest ((lsn + pre.length : Nat) : Int) ∧ rest.length + pre.length ≤ zs.length ∧ NewBs 0 wr (.slice al rest.length cl) rest ∧ TabOk wr ∧ J pre wr ∧ W.heap.size ≤ wr.heap.size) (fun lf _ _ _ _ => lenOf lf)
  case atStart =>
    have hl1 := HBS.out.1.len_le
    refine ⟨[], zs, ao, cap, by rw [hl1.1], by simp, by simp, by simp, ?_, HT.out.below (Below.refl _ W).drew (Nat.le_refl _), hJd _ _ h0, Nat.le_refl _⟩
    rw [← hl1.1]
    exact HBS.out.below (Below.refl _ W).drew
  case round =>
    obtain ⟨pre, rest, al, cl, rfl, rfl, hrec, hlen, hnb, htab, hJ, hsz⟩ := hrel
    have hrl := hnb.1.len_le
    obtain ⟨n, hn⟩ : ∃ n, n = lsn + pre.length := ⟨_, rfl⟩
    have hn1 : n ≤ 5000000000002000000 := by omega
    rw [← hn] at hrec ⊢
    have HN := hid hn
    have HRI := hid (recordIn_any hnb.1 htab n)
    have HREC := hid hrec
    have HNB := hid hnb
    have HTB := hid htab
    clear hn hrec htab
    by_cases hok : rcOk rest n = true
    · have hby := rcBy_len hok
      rw [hok] at HRI
      obtain ⟨r, hr⟩ : ∃ r, r = rcBy rest n := ⟨_, rfl⟩
      have hstep := recsP_yes hok
      rw [← hr] at HRI hby hstep
      obtain ⟨R, hR⟩ : ∃ R, R = r.length := ⟨_, rfl⟩
      rw [← hR] at hby hstep
      have hR1 : R ≤ 2000 ∧ R + 16 ≤ rest.length := by omega
      have HRL := hid hR
      have HST := hid hstep
      have HYY : Hid (∀ (v2 : Value) (w2 : World), NewBs wr.heap.size w2 v2 r → Below wr.heap.size wr w2 → YieldAt Fence.wide (m - 1) Tryd.prog l #[.int .u64 (n : Int), v2] w2 fun e W' => (e = .returned (.bool true) ∧ J (pre ++ [(n, v2, r)]) W' ∧ Kq base w2 W') ∨ (e = .returned (.bool false) ∧ Jx (pre ++ [(n, v2, r)]) W')) := fun v2 w2 hN2 hb2 =>
        hY pre (n, v2, r) w2 (hJb _ _ _ hsz hJ hb2) ⟨hN2.mono (by omega), HN.out, by rw [← HRL.out]; omega, _, by rw [HREC.out, HST.out]⟩
      obtain ⟨b, off, cl', hsh⟩ := hnb.1.shape (by omega)
      injection hsh with e1 _ e3
      subst e1 e3
      clear hok hr hR hstep hnb hJ hby
      gi_wp2_with (first
        | (gi_at_call 53; refine (callsIn_wide.2 HRI.out).mono ?_; rintro e w2 ⟨v2, rfl, hN2, hb2⟩; clear HRI; obtain ⟨fn, tmps, assign, body, hy, hR2⟩ := HYY.out v2 w2 hN2 hb2; have hs2 := hb2.size; have hlv := hN2.1.open; obtain ⟨a2, c2, hv2, _⟩ := hlv; rw [← HRL.out] at hv2; subst hv2; have HR2 := hid hR2; have HN2 := hid hN2; have HB2 := hid hb2; clear hR2 hN2 hb2 HYY))
      refine HR2.out.mono ?_
      rintro e W3 (⟨rfl, hJ3, hk3⟩ | ⟨rfl, hJx3⟩)
      · clear hy HR2
        have HL := hid (lengthOf_any a2 R c2 W3 (by omega))
        have hKn : NewBs 0 W3 (.slice (some ⟨b, off, none⟩) rest.length cl) rest := (HNB.out.below HB2.out).same fun k c hk => hk3.keep k c hk
        have htb3 : TabOk W3 := (HTB.out.below HB2.out (Nat.le_refl _)).cells hk3 hg
        have hsz3 := hk3.size
        have hkl : ((R + 16 : Nat) : Int) ≤ (rest.length : Int) := by omega
        have HX := hid (And.intro hKn (And.intro htb3 hJ3))
        clear hKn htb3 hJ3 hk3
        have hfin : ∀ (v' : Option Addr) (k c : Nat), k = rest.length - (R + 16) → NewBs 0 W3 (.slice v' k c) (rest.drop (R + 16)) → ∃ (pre_1 : List Rc) (rest_1 : List Int) (al : Option Addr) (cl_1 : Nat), Value.slice v' k c = .slice al rest_1.length cl_1 ∧ Value.int .u64 ((n : Int) + 1) = .int .u64 ((lsn + pre_1.length : Nat) : Int) ∧ recsP zs lsn = bytesOf pre_1 ++ recsP rest_1 ((lsn + pre_1.length : Nat) : Int) ∧ rest_1.length + pre_1.length ≤ zs.length ∧ NewBs 0 W3 (.slice al rest_1.length cl_1) rest_1 ∧ TabOk W3 ∧ J pre_1 W3 ∧ W.heap.size ≤ W3.heap.size := fun v' k c hk hb => by
          have hlp : (pre ++ [((n, Value.slice a2 R c2, r) : Rc)]).length = pre.length + 1 := by simp
          have hnn : ((lsn + (pre.length + 1) : Nat) : Int) = (n : Int) + 1 := by have := HN.out; omega
          refine ⟨pre ++ [(n, .slice a2 R c2, r)], rest.drop (R + 16), v', c, by rw [List.length_drop, hk], by rw [hlp, hnn], ?_, ?_, by rw [List.length_drop, ← hk]; exact hb, HX.out.2.1, HX.out.2.2, by omega⟩
          · rw [hlp, hnn, HREC.out, HST.out]
            simp [bytesOf]
          · rw [hlp, List.length_drop]
            omega
        have HFIN := hid hfin
        clear hfin
        by_cases hcl : cl = R + 16
        · have hre : rest.length = R + 16 := by omega
          gi_wp2_with (gi_at_call 23; refine (callsIn_wide.2 HL.out).mono ?_; rintro e w4 ⟨rfl, hw⟩; have hw' := hw.symm; clear hw; subst hw')
          go_roundw
          case rel =>
            refine HFIN.out _ _ _ (by omega) ?_
            rw [Nat.sub_self, List.drop_of_length_le (by omega)]
            exact ⟨⟨fun j => by simp, by simp, .inl ⟨_, _, rfl, rfl, fun e => by cases e⟩⟩, fun q e => HX.out.1.2 q (by simpa [Value.ownBlock] using e)⟩
          case measure => simp [lenOf]; omega
        · gi_wp2_with (gi_at_call 23; refine (callsIn_wide.2 HL.out).mono ?_; rintro e w4 ⟨rfl, hw⟩; have hw' := hw.symm; clear hw; subst hw')
          go_roundw
          case rel =>
            refine HFIN.out _ _ _ rfl ?_
            have := HX.out.1.cut (lo := R + 16) (hi := rest.length) (by omega) (Nat.le_refl _) (by omega)
            rwa [List.take_of_length_le (Nat.le_refl _)] at this
          case measure => simp [lenOf]; omega
      · clear hy HR2
        gi_wp2
        refine bodyPost_ret (results_none rfl _ _ _) rfl ?_
        exact ⟨⟨_, rfl⟩, .inr ⟨_, trivial, hJx3⟩⟩
    · have hok' : rcOk rest n = false := by simpa using hok
      rw [hok'] at HRI
      have hstep := recsP_no hok'
      have HST := hid hstep
      have HJ := hid hJ
      clear hok hok' hstep hJ
      gi_wp2_with (first
        | (gi_at_call 53; refine (callsIn_wide.2 HRI.out).mono ?_; rintro e w2 ⟨v2, rfl, hN2, hb2⟩; clear HRI; have HB2 := hid hb2; clear hN2 hb2))
      refine bodyPost_ret (results_none rfl _ _ _) rfl ?_
      refine ⟨⟨_, rfl⟩, .inl ⟨pre, ?_, hJb _ _ _ hsz HJ.out HB2.out⟩⟩
      rw [HREC.out, HST.out, List.append_nil]
/-- What wal.recordsIn promises. -/
theorem recs_hands (m : Nat) (hm : 2 ≤ m) (Bv Bn base N : Nat) (ao : Option Addr) (Ln cap lsn : Nat) (zs : List Int) (w : World)
    (hbv : w.heap[Bv]? = some (.cells #[.slice ao Ln cap] 32 (0, 0))) (hbn : w.heap[Bn]? = some (.cells #[.int .u64 lsn] 29 (0, 0)))
    (hbs : NewBs 0 w (.slice ao Ln cap) zs) (ht : TabOk w) (hg : 0 < base) (hN : N ≤ w.heap.size) (hbase : base ≤ w.heap.size) (hl : lsn ≤ 5000000000000000000) (hz : zs.length ≤ 2000000) :
    Hands Fence.wide m Tryd.prog 52 #[.pointer (some ⟨Bv, 0, none⟩), .pointer (some ⟨Bn, 0, none⟩)] Rc.vals (RcAt N zs lsn) (Kq base) (fun xs => bytesOf xs = recsP zs lsn) (fun _ => True) w := fun l J Jx W hW hJ _ hY h0 =>
  recs_in m hm l Bv Bn base N ao Ln cap lsn zs J Jx W hJ hY ((hW.block Bv (lt_of_heap hbv)).trans hbv) ((hW.block Bn (lt_of_heap hbn)).trans hbn) (hbs.below hW) (ht.below hW (Nat.le_refl _)) hg (Nat.le_trans hN hW.size) (Nat.le_trans hbase hW.size) hl hz h0
end Go.Proofs.YthhlbhnogcfnjaaDoor
