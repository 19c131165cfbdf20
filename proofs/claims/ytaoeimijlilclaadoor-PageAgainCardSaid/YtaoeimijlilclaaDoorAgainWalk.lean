/-
  PageAgain: the walk.
-/
import Derived.Test.YtaoeimijlilclaaDoorAgainMem
namespace Go.Proofs.YtaoeimijlilclaaDoor
open Go.RowKit

theorem i64_and7 (n : Int) : bits .and .i64 n 7 = n % 8 := by
  have h31 : (BitVec.ofInt 64 7).toNat = 2 ^ 3 - 1 := by decide
  have key : (BitVec.ofInt 64 n &&& BitVec.ofInt 64 7).toNat = (n % ((2 ^ 64 : Nat) : Int)).toNat % 2 ^ 3 := by
    rw [BitVec.toNat_and, BitVec.toNat_ofInt, h31, Nat.and_two_pow_sub_one_eq_mod]
  show IntKind.i64.wrap ((BitVec.ofInt 64 n &&& BitVec.ofInt 64 7).toNat : Nat) = n % 8
  rw [key, IntKind.wrap_i64]
  omega
/-- The slice v holds the pairs rs. -/
def Raws (w : World) (v : Value) (rs : List (Int × Int)) : Prop :=
  ∃ ao cap, v = .slice ao rs.length cap ∧ (1 ≤ rs.length → ∃ b off, ao = some ⟨b, off, none⟩ ∧ ∀ (k : Nat) (x : Int × Int), rs[k]? = some x → w.cell? ⟨b, off + k * 2, none⟩ = some (.int .i64 x.1) ∧ w.cell? ⟨b, off + k * 2 + 1, none⟩ = some (.int .i64 x.2))
theorem now0 : (nowV (List.replicate 8 0)).toArray = #[.int .i64 0, .int .i64 0, .int .i64 0, .int .i64 0, .int .i64 0, .int .i64 0, .int .i64 0, .int .i64 0] := rfl

set_option maxRecDepth 100000 in
set_option maxHeartbeats 6400000 in
theorem pageAgain_walk (w : World) (v : Value) (rs : List (Int × Int)) (h : Raws w v rs) (hrl : rs.length ≤ 140737488355328) (at_ : Int) (_ha0 : -9223372036854775808 ≤ at_) (_ha1 : at_ ≤ 9223372036854775807) (ht : TabOk w) :
    Calls Tryd.prog 3 #[v, .int .i64 at_] w fun e w' => e = .returned (.bool true) ∧ Below w.heap.size w w' := by
  have hg := ht.lt
  have HT := hid ht
  obtain ⟨ao, cap, rfl, hcell⟩ := h
  have HC := hid hcell
  obtain ⟨len, hlen⟩ : ∃ len, len = rs.length := ⟨_, rfl⟩
  rw [← hlen] at HC hrl ⊢
  have HLEN := hid hlen
  obtain ⟨e7, he7, he7b⟩ : ∃ k : Nat, bits .and .i64 at_ 7 = (k : Int) ∧ k ≤ 7 := ⟨(at_ % 8).toNat, by rw [i64_and7]; omega, by omega⟩
  obtain ⟨E, hE, hEb⟩ : ∃ m : Nat, (e7 : Int) + 1 = (m : Int) ∧ 1 ≤ m ∧ m ≤ 8 := ⟨e7 + 1, by omega, by omega, by omega⟩
  have HN8 := hid (need_any 8 w (by omega))
  rw [show (8 * max (8 : Int) 1 + 80) = 144 by decide] at HN8
  have HNW := hid (new_any 144 w (by omega))
  clear ht hcell hlen
  go_enter Tryd.func3, Tryd.ntmps3
  go_wp2_with (first
    | (go_at_call 8; refine HN8.out.mono ?_; rintro e w0 ⟨rfl, hw⟩; have hw' := hw.symm; clear hw HN8; subst hw')
    | (go_at_call 7; refine HNW.out.mono ?_; rintro e w1 ⟨B, rfl, hd1, hb1⟩; have HO := hid (opened_st (p0 := 0) (np := 8) hd1 rfl (HT.out.below hb1 (Nat.le_refl _)) hg (by omega) (new_st (by omega) (by omega)) (by decide) (by decide)); have HB1 := hid hb1; clear hd1 hb1 HNW)
    | (go_at_call 9; refine HO.out.mono ?_; rintro e w2 ⟨F, rfl, hFs, hd2, hf2, hk2⟩; have HD2 := hid hd2; have HF2 := hid hf2; have HB2 := hid (HB1.out.trans hk2.below); clear hd2 hf2 hk2 HO hFs))
  obtain ⟨wN, hwN⟩ : ∃ wN, w2.alloc (.cells #[.int .i64 0, .int .i64 0, .int .i64 0, .int .i64 0, .int .i64 0, .int .i64 0, .int .i64 0, .int .i64 0] 30) = wN := ⟨_, rfl⟩
  have hbN : Below w2.heap.size w2 wN := by rw [← hwN]; exact (Below.refl _ _).alloc (Nat.le_refl _) _
  have hnb : wN.heap[w2.heap.size]? = some (.cells (nowV (List.replicate 8 0)).toArray 30 (0, 0)) := by rw [← hwN, now0]; exact heap_new w2 _
  have HI0 : Hid (AgI w B F w2.heap.size (Dk.new 144) (fun _ => none) (.slice none 0 0) [] (List.replicate 8 0) wN) :=
    ⟨HD2.out.below hbN, rfl, rfl, rfl, HF2.out.below hbN, new_st (by omega) (by omega), PgRow.nil _ _, takes_nil 8, hnb, HB2.out.size, by simp, fun n hn => by rw [List.eq_of_mem_replicate hn]; omega,
      fun no hno => by
        have : (List.replicate 8 0).getD no 0 = 0 := by
          simp only [List.getD, List.getElem?_replicate]
          split <;> rfl
        rw [this]
        exact told_none no, HB2.out.trans (hbN.mono HB2.out.size)⟩
  rw [hwN]
  obtain ⟨NB, hNB⟩ : ∃ NB, w2.heap.size = NB := ⟨_, rfl⟩
  rw [hNB] at HI0 ⊢
  clear hwN hbN hnb hNB HD2 HF2
  go_loopw [7, 10, 11, 12, 13, 14] (fun f so i _ _ _ wr => ∃ (k F : Nat) (dk : Dk) (c : Nat → Option Pg) (ps : List Pg) (ns : List Nat), k ≤ 24 ∧ i = .int .i64 k ∧ f = .pointer (some ⟨F, 0, none⟩) ∧ AgI w B F NB dk c so ps ns wr ∧ ps.length < E ∧ dk.writes ≤ 200 * (k : Int)) (fun _ _ i _ _ _ _ => 24 - (intOf i).toNat)
  case atStart => exact ⟨0, F, Dk.new 144, fun _ => none, [], List.replicate 8 0, by omega, rfl, rfl, HI0.out, by simp; omega, by decide⟩
  case round =>
    obtain ⟨k, F', dk, c, ps, ns, hk, rfl, rfl, hI, hpl, hwr⟩ := hrel
    have HI := hid hI
    obtain ⟨av, cv, rfl, _, _⟩ := hI.row.form
    obtain ⟨L, hL⟩ : ∃ L, L = ps.length := ⟨_, rfl⟩
    rw [← hL] at HI hpl ⊢
    have HL := hid hL
    clear hI hL
    by_cases hlt : k < len ∧ k < 24
    · obtain ⟨b, off, rfl, hx⟩ := HC.out (by omega)
      have hkr : k < rs.length := by have := HLEN.out; omega
      obtain ⟨x0, x1⟩ := hx k rs[k] (by simp [hkr])
      obtain ⟨no, hno, hno8⟩ : ∃ m : Nat, bits .and .i64 (rs[k]).1 7 = (m : Int) ∧ m < 8 := ⟨((rs[k]).1 % 8).toNat, by rw [i64_and7]; omega, by omega⟩
      obtain ⟨m, hm, hmb⟩ : ∃ m : Nat, bits .and .i64 (rs[k]).2 65535 = (m : Int) ∧ m ≤ 65535 := ⟨((rs[k]).2 % 65536).toNat, by rw [i64_and65535]; omega, by omega⟩
      have hbb := lt_of_cell x0
      have y0 := (HI.out.below.cell (p := ⟨b, off + k * 2, none⟩) hbb).trans x0
      have y1 := (HI.out.below.cell (p := ⟨b, off + k * 2 + 1, none⟩) hbb).trans x1
      have hbr : b < wr.heap.size := Nat.lt_of_lt_of_le hbb HI.out.below.size
      generalize (rs[k]).1 = X0 at *
      generalize (rs[k]).2 = X1 at *
      have hkI : (k : Int) < (len : Int) := by omega
      have hk24 : (k : Int) < 24 := by omega
      clear x0 x1 hx
      have z0 : wr.drew.cell? ⟨b, off + k * 2, none⟩ = some (.int .i64 X0) := y0
      have z1 : wr.drew.cell? ⟨b, off + k * 2 + 1, none⟩ = some (.int .i64 X1) := y1
      go_wp2
      go_region_held (fun w' => w'.cell? ⟨b, off + k * 2, none⟩ = some (.int .i64 X0) ∧ w'.cell? ⟨b, off + k * 2 + 1, none⟩ = some (.int .i64 X1)) (first | exact ⟨z0, z1⟩ | exact ⟨(World.cell?_alloc_lt _ _ _ hbr).trans z0, (World.cell?_alloc_lt _ _ _ hbr).trans z1⟩) (fail)
      obtain ⟨wR, hwR⟩ : ∃ wR, (wr.alloc (.cells #[.int .i64 no, .int .i64 m] 33)).drew = wR := ⟨_, rfl⟩
      have hbR : Below wr.heap.size wr wR := by rw [← hwR]; exact ((Below.refl _ _).alloc (Nat.le_refl _) _).drew
      have hrR : wR.heap[wr.heap.size]? = some (.cells #[.int .i64 no, .int .i64 m] 33 (0, 0)) := by rw [← hwR]; exact heap_new wr _
      rw [hwR]
      have HIR := hid (HI.out.fresh hbR)
      have HRR := hid hrR
      have HPS := hid HIR.out.row.pgs
      rename_i hHeld
      obtain ⟨RB, hRB⟩ : ∃ RB, wr.heap.size = RB := ⟨_, rfl⟩
      rw [hRB] at HRR ⊢
      clear hHeld hwR hbR hrR y0 y1 z0 z1 hm hno HI hRB hbr hbb
      have HF : Hid (∀ j, j < L → ∃ q, ps[j]? = some q ∧ ∀ g : Pg → Bool, (ps.take (j + 1)).any g = ((ps.take j).any g || g q)) := fun j hj => by
        have hL := HL.out
        refine ⟨ps[j], by simp, fun g => ?_⟩
        rw [List.take_add_one, List.any_append]
        simp [show j < ps.length by omega]
      go_wp2
      go_loopw [13, 14] (fun o t wx => ∃ j : Nat, j ≤ L ∧ t = .int .i64 j ∧ o = .bool ((ps.take j).any fun p => p.no == no) ∧ Below wR.heap.size wR wx) (fun _ t _ => L - (intOf t).toNat)
      case atStart => exact ⟨0, by omega, rfl, rfl, Below.refl _ _⟩
      case round =>
        obtain ⟨j, hj, rfl, rfl, hbj⟩ := hrel
        have hrR := (hbj.block RB (lt_of_heap HRR.out)).trans HRR.out
        have r0 := cell_of_row wr RB 0 _ _ _ hrR
        have r1 := cell_of_row wr RB 1 _ _ _ hrR
        simp only [List.getElem?_toArray, List.getElem?_cons_succ, List.getElem?_cons_zero] at r0 r1
        by_cases hjl : j < L
        · obtain ⟨q, hq, hany⟩ := HF.out j hjl
          have hany := hany fun p => p.no == no
          obtain ⟨ao2, cap2, hv2, _, hp2⟩ := HPS.out.below hbj
          injection hv2 with e1 e2 e3
          obtain ⟨b2, off2, c2, f2, e4, hb2, hc2⟩ := hp2 (by omega)
          have e5 := e1.trans e4
          subst e5
          obtain ⟨s2, c0, _, _, _⟩ := hc2 j q hq
          have c0 : wr.cell? ⟨b2, off2 + j * 3, none⟩ = some (.int .i64 q.no) := c0
          have hjI : (j : Int) < (L : Int) := by omega
          generalize hO : ((ps.take j).any fun p => p.no == no) = O at *
          clear e1 e2 e3 e4 hp2 hc2 hb2 hq
          cases O with
          | true =>
            go_wp2
            go_quiet (fail)
            go_wp2
            rename_i nq
            exact ⟨⟨j + 1, by omega, by simp, by rw [hany]; rfl, below_drewN hbj nq⟩, by simp [intOf]; omega⟩
          | false =>
            go_wp2
            go_quiet (fail)
            go_wp2
            rename_i nq
            refine ⟨⟨j + 1, by omega, by simp, ?_, below_drewN hbj nq⟩, by simp [intOf]; omega⟩
            rw [hany, Bool.false_or]
            exact congrArg Value.bool (Bool.eq_iff_iff.2 (by simp; omega))
        · have hjL : j = L := by omega
          subst hjL
          have hO : ((ps.take j).any fun p => p.no == no) = ps.any fun p => p.no == no := by rw [List.take_of_length_le (by rw [HL.out]; exact Nat.le_refl _)]
          rw [hO]
          have hIj := HIR.out.fresh hbj
          clear hO hjl hj
          by_cases hold : (ps.any fun p => p.no == no) = true
          · rw [hold]
            go_wp2
            exact ⟨⟨k + 1, F', dk, c, ps, ns, by omega, by simp, rfl, hIj, by rw [← HL.out]; omega, by push_cast; omega⟩, by simp [intOf]; omega⟩
          · rw [show (ps.any fun p => p.no == no) = false by simpa using hold]
            have hnp : ∀ q ∈ ps, q.no ≠ no := fun q hq e => hold (List.any_eq_true.2 ⟨q, hq, by simp [e]⟩)
            have HOF := hid (of_any no m wr hmb)
            have HIJ := hid hIj
            have HNP := hid hnp
            clear hold hnp hIj
            have hno8I : (no : Int) < 8 := by omega
            go_wp2_with (first
              | (go_at_call 10; refine HOF.out.mono ?_; rintro e w3 ⟨aS, cS, rfl, hS, hb3⟩; obtain ⟨a', c', W', hrun, nb', key, hI'⟩ := (HIJ.out.fresh hb3).add (by have := HL.out; omega) hno8 hmb HNP.out (own_mono hS (Nat.zero_le _)); have hr3 := key _ _ _ _ ((hb3.block RB (lt_of_heap hrR)).trans hrR) (by decide); have r0' := cell_of_row W' RB 0 _ _ _ hr3; have r1' := cell_of_row W' RB 1 _ _ _ hr3; simp only [List.getElem?_toArray, List.getElem?_cons_succ, List.getElem?_cons_zero] at r0' r1'; have HR := hid hrun; have HI2 := hid hI'; rw [← HL.out] at HR HI2; have fz := frozen_of_row W' NB no _ _ nb'; have n0 : W'.cell? ⟨NB, no, none⟩ = some (.int .i64 (ns.getD no 0)) := (by rw [cell_of_row W' NB no _ _ _ nb']; have := HIJ.out.nl; simp [nowV, List.getD, show no < ns.length by omega]); have HW := hid (HI2.out.write HT.out (by omega)); clear hS hb3 HOF hrun hI' key nb' hr3)
              | (at_builtin; refine wpList_exec rfl (exec_append (.tmp 75) (.tmp 78) 31 rfl rfl rfl HR.out) ?_)
              | (go_at_call 11; refine HW.out.mono ?_; rintro e w4 ⟨rfl, d1, hI4, hd4⟩; have HC4 := hid hI4.crash; clear hI4)
              | (go_at_call 12; refine HC4.out.mono ?_; rintro e w5 ⟨⟨v5, rfl⟩, hI5⟩; have HO5 := hid (hI5.open HT.out (by omega)); clear hI5)
              | (go_at_call 9; refine HO5.out.mono ?_; rintro e w6 ⟨F6, rfl, hI6⟩; have HI6 := hid hI6; clear hI6))
            · exact ⟨⟨k + 1, F', dk, c, _, _, by omega, by simp, rfl, HI2.out, by rw [List.length_append, ← HL.out]; simp; omega, by push_cast; omega⟩, by simp [intOf]; omega⟩
            · exact ⟨⟨k + 1, F6, d1, _, [], _, by omega, by simp, rfl, HI6.out, by simp; omega, by push_cast; omega⟩, by simp [intOf]; omega⟩
    · have HW := hid (HI.out.write HT.out (by omega))
      have hx : (len : Int) ≤ k ∨ ((k : Int) < len ∧ (k : Int) = 24) := by omega
      clear hlt
      rcases hx with hx | ⟨hx1, hx2⟩
      all_goals
        go_wp2_with (go_at_call 11; refine HW.out.mono ?_; rintro e w4 ⟨rfl, d1, hI4, hd4⟩; have HI4 := hid hI4; clear hI4 HW)
        go_loopw [15] (fun t wx => ∃ no : Nat, no ≤ 8 ∧ t = .int .i64 no ∧ Below w4.heap.size w4 wx) (fun t _ => 8 - (intOf t).toNat)
        case atStart => exact ⟨0, by omega, rfl, Below.refl _ _⟩
        case round =>
          obtain ⟨no, hno, rfl, hbn⟩ := hrel
          by_cases hn8 : no < 8
          · have hI5 := HI4.out.fresh hbn
            obtain ⟨m, hm⟩ : ∃ m, ns[no]? = some m := ⟨ns[no]'(by rw [hI5.nl]; exact hn8), by simp⟩
            have n0 : wr.cell? ⟨NB, no, none⟩ = some (.int .i64 m) := by rw [cell_of_row wr NB no _ _ _ hI5.nb]; simp [nowV, hm]
            have HIS := hid (hI5.is HT.out hn8 hm)
            have hn8I : (no : Int) < 8 := by omega
            clear hI5
            go_wp2_with (go_at_call 13; refine HIS.out.mono ?_; rintro e w5 ⟨rfl, hb5⟩; clear HIS)
            exact ⟨⟨no + 1, by omega, by simp, hbn.trans (hb5.mono hbn.size)⟩, by simp [intOf]; omega⟩
          · have hn8I : (no : Int) = 8 := by omega
            have HI5 := hid (HI4.out.fresh hbn)
            have HAW := hid (pawake_any wr (HT.out.below HI5.out.below (Nat.le_refl _)))
            go_wp2_with (go_at_call 14; refine HAW.out.mono ?_; rintro e w5 ⟨rfl, hb5⟩; clear HAW)
            go_ret
            exact ⟨rfl, HI5.out.below.trans (hb5.mono HI5.out.below.size)⟩
end Go.Proofs.YtaoeimijlilclaaDoor
