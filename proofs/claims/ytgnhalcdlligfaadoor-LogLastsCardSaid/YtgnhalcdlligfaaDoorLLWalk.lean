/-
  LogLasts: the walk.
-/
import Derived.Test.YtgnhalcdlligfaaDoorLLMem
import Derived.Deep.RegionHeld3
namespace Go.Proofs.YtgnhalcdlligfaaDoor
open Go.RowKit Go.Shelf

theorem and127 (n : Int) : bits .and .i64 n 127 = (((n % 128).toNat : Nat) : Int) := by
  have h31 : (BitVec.ofInt 64 127).toNat = 2 ^ 7 - 1 := by decide
  have key : (BitVec.ofInt 64 n &&& BitVec.ofInt 64 127).toNat = (n % ((2 ^ 64 : Nat) : Int)).toNat % 2 ^ 7 := by
    rw [BitVec.toNat_and, BitVec.toNat_ofInt, h31, Nat.and_two_pow_sub_one_eq_mod]
  show IntKind.i64.wrap ((BitVec.ofInt 64 n &&& BitVec.ofInt 64 127).toNat : Nat) = _
  rw [key, IntKind.wrap_i64]
  omega
theorem and31 (n : Int) : bits .and .i64 n 31 = (((n % 32).toNat : Nat) : Int) := by
  have h31 : (BitVec.ofInt 64 31).toNat = 2 ^ 5 - 1 := by decide
  have key : (BitVec.ofInt 64 n &&& BitVec.ofInt 64 31).toNat = (n % ((2 ^ 64 : Nat) : Int)).toNat % 2 ^ 5 := by
    rw [BitVec.toNat_and, BitVec.toNat_ofInt, h31, Nat.and_two_pow_sub_one_eq_mod]
  show IntKind.i64.wrap ((BitVec.ofInt 64 n &&& BitVec.ofInt 64 31).toNat : Nat) = _
  rw [key, IntKind.wrap_i64]
  omega

theorem rec_arg {w w' : World} {g T j : Nat} (h : w'.ownsRow w.heap.size 5 1 (.slice (some ⟨g, 0, none⟩) T T) T (secV (recL j T))) (hT : T ≤ 127) : ArgBs w.heap.size w' (.slice (some ⟨g, 0, none⟩) T T) (recL j T) := by
  refine ⟨bs_of_own h (recL_by _ _) (by rw [recL_len]; omega), fun b e => ?_⟩
  obtain ⟨c, hc⟩ := own_heap h e
  exact ⟨own_base h b e, lt_of_heap hc⟩

theorem next_arg (w2 : World) : ArgBs w2.heap.size (w2.alloc (.cells #[.int .u8 110, .int .u8 101, .int .u8 120, .int .u8 116] 5 (4, 5))) (.slice (some ⟨w2.heap.size, 0, none⟩) 4 4) [110, 101, 120, 116] := by
  have hA := heap_new w2 (.cells #[.int .u8 110, .int .u8 101, .int .u8 120, .int .u8 116] 5 (4, 5))
  refine ⟨⟨range_of (by simp), by simp, .inr ⟨w2.heap.size, 0, 4, rfl, by simp, fun j hj => ?_⟩⟩, fun b e => ?_⟩
  · rw [Nat.zero_add, cell_of_row _ _ _ _ _ _ hA]
    match j, hj with
    | 0, _ => rfl
    | 1, _ => rfl
    | 2, _ => rfl
    | 3, _ => rfl
    | j + 4, hj => simp at hj; omega
  · simp only [Value.ownBlock, Option.some.injEq] at e
    subst e
    exact ⟨Nat.le_refl _, lt_of_heap hA⟩
theorem LlO.below' {w W W' : World} {L B : Nat} {zs : List Int} {m : Nat} (h : LlO w L B zs m W) (hb : Below W.heap.size W W') : LlO w L B zs m W' := by
  obtain ⟨d, hl, hd⟩ := h.log
  exact ⟨⟨d, hl.below hb, hd⟩, h.below.trans (hb.mono h.below.size)⟩
theorem LlO.tell {w W : World} {L B : Nat} {zs : List Int} {m : Nat} (h : LlO w L B zs m W) :
    Calls Tryd.prog 14 #[.pointer (some ⟨L, 0, none⟩)] W fun e w' => ∃ ao cap, e = .returned (.tuple #[.slice ao m cap, .bool true]) ∧ StrRow w' W.heap.size (.slice ao m cap) (lrecs zs m) ∧ LlO w L B zs m w' := by
  obtain ⟨d, hl, hd⟩ := h.log
  refine (tells_any hl).mono ?_
  rintro e w' ⟨ao, cap, rfl, hS, hl', hb'⟩
  have hlen : (lgM zs m).recs.length = m := lrecs_len zs m
  rw [hlen] at hS ⊢
  exact ⟨ao, cap, rfl, hS, ⟨d, hl', hd⟩, h.below.trans (hb'.mono h.below.size)⟩
theorem StrRow.at {W : World} {base : Nat} {ao : Option Addr} {cap m : Nat} {zs : List Int} (h : StrRow W base (.slice ao m cap) (lrecs zs m)) {i : Nat} (hi : i < m) : ∃ g, ao = some ⟨g, 0, none⟩ ∧ W.cell? ⟨g, i, none⟩ = some (.string (strOfNums (lrec zs i))) := by
  rcases h.2 with ⟨e, h0⟩ | ⟨g, cap', cur, e, _⟩
  · injection e with _ e2 _
    omega
  · injection e with e1 _ _
    subst e1
    refine ⟨g, rfl, ?_⟩
    have h' : W.ownsRow base 9 1 (.slice (some ⟨g, 0, none⟩) m cap) m ((lrecs zs m).map fun r => Value.string (strOfNums r)) := by
      have := h
      unfold StrRow at this
      rwa [lrecs_len] at this
    have h2 := h'.cellAt i (by omega)
    rw [List.getElem?_map, lrecs_at hi] at h2
    exact h2

set_option maxRecDepth 100000 in
set_option maxHeartbeats 8000000 in
theorem logLasts_few (w : World) (ao : Option Addr) (cap M k : Nat) (zs : List Int) (HC : Hid (1 ≤ M → ∃ b off, ao = some ⟨b, off, none⟩ ∧ ∀ j, j < M → w.cell? ⟨b, off + j, none⟩ = some (.int .i64 (zs.getD j 0)))) (fl : Int) (hk : bits .and .i64 fl 31 = (k : Int)) (hk31 : k ≤ 31) (hM : (M : Int) ≤ 20) (HT : Hid (TabOk w)) :
    Calls Tryd.prog 3 #[.slice ao M cap, .int .i64 fl] w fun e w' => e = .returned (.bool true) ∧ Below w.heap.size w w' := by
  have HNW := hid (new_any 100 w (by omega))
  have hg := HT.out.lt
  have hsame := conv_same
  go_enter Tryd.func3, Tryd.ntmps3
  go_wp2_with (first
    | (go_at_call 7; refine HNW.out.mono ?_; rintro e w1 ⟨B, rfl, hd1, hb1⟩; have HO := hid (lopen_new (at' := 0) (sc := 100) hd1 (by omega) (HT.out.below hb1 (Nat.le_refl _)) hg); have HB1 := hid hb1; clear HNW hd1 hb1)
    | (go_at_call 8; refine HO.out.mono ?_; rintro e w2 ⟨L, rfl, hl2, hk2, hLs⟩; have HI := hid (LlI.start (zs := zs) (k := k) hl2 (HB1.out.trans hk2.below)); clear HO hl2 hk2 hLs HB1))
  go_loopw [11, 12, 13] (fun t _ _ wr => ∃ j : Nat, j ≤ M ∧ t = .int .i64 j ∧ LlI w L B zs k j wr) (fun t _ _ _ => M - (intOf t).toNat)
  case atStart => exact ⟨0, by omega, rfl, HI.out⟩
  case round =>
    obtain ⟨j, hj, rfl, hI⟩ := hrel
    clear HI
    by_cases hlt : j < M
    · have hjI : (j : Int) < (M : Int) := by omega
      have hjN : (j : Int) < (M : Int) := by omega
      obtain ⟨b, off, rfl, hcx⟩ := HC.out (by omega)
      have z0 := hcx j (by omega)
      have hbb : b < w.heap.size := World.block_lt_of_cell? w _ z0
      have y0 := (hI.below.cell (p := ⟨b, off + j, none⟩) hbb).trans z0
      obtain ⟨T, hT⟩ : ∃ T, ((zs.getD j 0) % 128).toNat = T := ⟨_, rfl⟩
      have hT127 : T ≤ 127 := by omega
      have ha := and127 (zs.getD j 0)
      rw [hT] at ha
      have HLR := hid (show lrec zs j = recL j T by unfold lrec; rw [hT])
      clear hT z0 hcx HC
      generalize zs.getD j 0 = Z at y0 ha
      have HRC := hid (rec_any j T wr (by omega) (by omega))
      have HI := hid hI
      clear hI
      by_cases hjk : j = k
      · have hjkB : ((j : Int) == (k : Int)) = true := by simp [hjk]
        have HJK := hid hjk
        clear hjk
        go_wp2_with (first
          | (go_at_call 10; refine HRC.out.mono ?_; rintro e w3 ⟨g3, rfl, hown, hb3⟩; have HAP := hid (HI.out.app (by omega) HT.out hb3 (by rw [HLR.out]; exact rec_arg hown hT127)); clear HRC hown hb3)
          | (go_at_call 9; refine HAP.out.mono ?_; rintro e w4 ⟨rfl, h4a, h4b⟩; have HFL := hid ((h4b HJK.out).flush (by have := HJK.out; omega) HT.out); clear HAP h4a h4b)
          | (go_at_call 11; refine HFL.out.mono ?_; rintro e w5 ⟨rfl, hI5, hfd⟩; have HI5 := hid hI5; have HFD := hid hfd; clear HFL hI5 hfd)
          | (go_at_call 12; refine HFD.out.mono ?_; rintro e w6 ⟨rfl, hw⟩; have hw' := hw.symm; clear hw HFD; subst hw'))
        go_roundw
        case rel => exact ⟨j + 1, by omega, by go_num, by have := HI5.out; rw [HJK.out]; exact this⟩
        case measure => simp [intOf]; omega
      · have hjkB : ((j : Int) == (k : Int)) = false := by simp; omega
        have HJK := hid hjk
        clear hjk
        go_wp2_with (first
          | (go_at_call 10; refine HRC.out.mono ?_; rintro e w3 ⟨g3, rfl, hown, hb3⟩; have HAP := hid (HI.out.app (by omega) HT.out hb3 (by rw [HLR.out]; exact rec_arg hown hT127)); clear HRC hown hb3)
          | (go_at_call 9; refine HAP.out.mono ?_; rintro e w4 ⟨rfl, h4a, h4b⟩; have HI4 := hid (h4a HJK.out); clear HAP h4a h4b))
        go_roundw
        case rel => exact ⟨j + 1, by omega, by go_num, HI4.out⟩
        case measure => simp [intOf]; omega
    · have hjI : ¬ (j : Int) < (M : Int) := by omega
      have HCR := hid hI.crash
      clear hI
      by_cases hkM : k < M
      · have hkI : (k : Int) < (M : Int) := by omega
        rw [if_pos (show k < j by omega)] at HCR
        obtain ⟨m, hm⟩ : ∃ m, k + 1 = m := ⟨_, rfl⟩
        rw [hm] at HCR
        have hkm : (k : Int) + 1 = (m : Int) := by omega
        have hmM : ¬ (M : Int) < (m : Int) := by omega
        have hmN : ¬ M < m := by omega
        have HM := hid hm
        clear hm
        go_wp2_with (first
          | (go_at_call 13; refine HCR.out.mono ?_; rintro e w7 ⟨⟨v7, rfl⟩, hC7⟩; have HOP := hid (hC7.open (by have := HM.out; omega) HT.out); clear HCR hC7)
          | (go_at_call 8; refine HOP.out.mono ?_; rintro e w8 ⟨L8, rfl, hO8⟩; have HTL := hid hO8.tell; clear HOP hO8)
          | (go_at_call 14; refine HTL.out.mono ?_; rintro e w9 ⟨ao9, cap9, rfl, hS9, hO9⟩; have HS9 := hid hS9; have HO9 := hid hO9; clear HTL hS9 hO9))
        go_loopw [4, 17] (fun _ t wr => ∃ i : Nat, i ≤ m ∧ t = .int .i64 i ∧ Below w9.heap.size w9 wr) (fun _ t _ => m - (intOf t).toNat)
        case atStart => exact ⟨0, by omega, rfl, Below.refl _ _⟩
        case round =>
          obtain ⟨i, hi, rfl, hbr⟩ := hrel
          by_cases hlt2 : i < m
          · have hiI : (i : Int) < (m : Int) := by omega
            have hiN : (i : Int) < (M : Int) := by omega
            obtain ⟨g9, rfl, hx9⟩ := HS9.out.at hlt2
            obtain ⟨b, off, rfl, hcx⟩ := HC.out (by omega)
            have z0 := hcx i (by omega)
            have hbb : b < w.heap.size := World.block_lt_of_cell? w _ z0
            have hb0 : Below w.heap.size w wr := HO9.out.below.trans (hbr.mono HO9.out.below.size)
            have y0 := (hb0.cell (p := ⟨b, off + i, none⟩) hbb).trans z0
            have x0 := (hbr.cell (p := ⟨g9, i, none⟩) (World.block_lt_of_cell? w9 _ hx9)).trans hx9
            obtain ⟨T, hT⟩ : ∃ T, ((zs.getD i 0) % 128).toNat = T := ⟨_, rfl⟩
            have hT127 : T ≤ 127 := by omega
            have ha := and127 (zs.getD i 0)
            rw [hT] at ha
            have hlr : lrec zs i = recL i T := by unfold lrec; rw [hT]
            rw [hlr] at x0
            obtain ⟨S, hS⟩ : ∃ S, strOfNums (recL i T) = S := ⟨_, rfl⟩
            rw [hS] at x0
            have HSS := hid hS
            have HBR := hid hbr
            clear hT z0 hcx hx9 hlr hS hbr
            generalize zs.getD i 0 = Z at y0 ha
            have HG := hid (show ∀ W : World, Below wr.heap.size wr W → W.cell? ⟨g9, i, none⟩ = some (.string S) ∧ W.cell? ⟨b, off + i, none⟩ = some (.int .i64 Z) from fun W hW => ⟨(hW.cell (p := ⟨g9, i, none⟩) (World.block_lt_of_cell? wr _ x0)).trans x0, (hW.cell (p := ⟨b, off + i, none⟩) (World.block_lt_of_cell? wr _ y0)).trans y0⟩)
            have HRC := hid (rec_any i T wr.drew (by omega) (by omega))
            go_wp2
            go_region_held (fun w' => w'.cell? ⟨g9, i, none⟩ = some (.string S) ∧ w'.cell? ⟨b, off + i, none⟩ = some (.int .i64 Z)) (first | exact ⟨x0, y0⟩ | exact HCK.out) (first | (go_at_call 10; refine HRC.out.mono ?_; rintro e w10 ⟨g10, rfl, hown, hb10⟩; have HB10 := hid (show Below wr.heap.size wr w10 from (Below.refl _ wr).drew.trans hb10); have HCK := hid (HG.out w10 HB10.out); have hcv : (convert 33 9 (.slice (some ⟨g10, 0, none⟩) T T)).run Tryd.prog w10 = .ok (.string S) w10 := (by rw [← HSS.out]; exact (bs_of_own hown (recL_by _ _) (by rw [recL_len]; omega)).conv); clear hown hb10 HRC))
            go_wp2
            go_roundw
            case rel => exact ⟨i + 1, by omega, by go_num, HBR.out.trans (HB10.out.mono HBR.out.size)⟩
            case measure => simp [intOf]; omega
          · have hiI : ¬ (i : Int) < (m : Int) := by omega
            have HO10 := hid (HO9.out.below' hbr)
            have HAP := hid (HO10.out.next (by have := HM.out; omega) HT.out ((Below.refl _ _).alloc (Nat.le_refl _) _) (next_arg wr) (by simp))
            clear hbr HS9 HO9 HC
            go_wp2_with (first
              | (go_at_call 9; refine HAP.out.mono ?_; rintro e w11 ⟨rfl, hb11⟩; have HAW := hid (lawake_any w11 (HT.out.below hb11 (Nat.le_refl _))); have HB11 := hid hb11; clear HAP hb11)
              | (go_at_call 15; refine HAW.out.mono ?_; rintro e w12 ⟨rfl, hb12⟩; have HB12 := hid (HB11.out.trans (hb12.mono HB11.out.size)); clear HAW hb12))
            go_ret
            exact ⟨rfl, HB12.out⟩
      · have hkI : ¬ (k : Int) < (M : Int) := by omega
        rw [if_neg (show ¬ k < j by omega)] at HCR
        go_wp2_with (first
          | (go_at_call 13; refine HCR.out.mono ?_; rintro e w7 ⟨⟨v7, rfl⟩, hC7⟩; have HOP := hid (hC7.open (by omega) HT.out); clear HCR hC7)
          | (go_at_call 8; refine HOP.out.mono ?_; rintro e w8 ⟨L8, rfl, hO8⟩; have HTL := hid hO8.tell; clear HOP hO8)
          | (go_at_call 14; refine HTL.out.mono ?_; rintro e w9 ⟨ao9, cap9, rfl, hS9, hO9⟩; have HS9 := hid hS9; have HO9 := hid hO9; clear HTL hS9 hO9))
        go_loopw [4, 17] (fun _ t wr => ∃ i : Nat, i ≤ 0 ∧ t = .int .i64 i ∧ Below w9.heap.size w9 wr) (fun _ t _ => 0 - (intOf t).toNat)
        case atStart => exact ⟨0, by omega, rfl, Below.refl _ _⟩
        case round =>
          obtain ⟨i, hi, rfl, hbr⟩ := hrel
          rcases Nat.lt_or_ge i 0 with hlt2 | hlt2
          · omega
          · have hiI : ¬ (i : Int) < 0 := by omega
            have HO10 := hid (HO9.out.below' hbr)
            have HAP := hid (HO10.out.next (by omega) HT.out ((Below.refl _ _).alloc (Nat.le_refl _) _) (next_arg wr) (by simp))
            clear hbr HS9 HO9 HC
            go_wp2_with (first
              | (go_at_call 9; refine HAP.out.mono ?_; rintro e w11 ⟨rfl, hb11⟩; have HAW := hid (lawake_any w11 (HT.out.below hb11 (Nat.le_refl _))); have HB11 := hid hb11; clear HAP hb11)
              | (go_at_call 15; refine HAW.out.mono ?_; rintro e w12 ⟨rfl, hb12⟩; have HB12 := hid (HB11.out.trans (hb12.mono HB11.out.size)); clear HAW hb12))
            go_ret
            exact ⟨rfl, HB12.out⟩
end Go.Proofs.YtgnhalcdlligfaaDoor
