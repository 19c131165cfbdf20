/-
  PackMany: the walk.
-/
import Derived.Test.YtongdccpoefnlaaDoorManyPlain
namespace Go.Proofs.YtongdccpoefnlaaDoor
open Go.RowKit

/-- The slice v holds the numbers ys. -/
def Ints (w : World) (v : Value) (ys : List Int) : Prop :=
  (∀ y ∈ ys, -9223372036854775808 ≤ y ∧ y ≤ 9223372036854775807) ∧
  ∃ ao cap, v = .slice ao ys.length cap ∧ (1 ≤ ys.length → ∃ b off, ao = some ⟨b, off, none⟩ ∧ ∀ j, j < ys.length → w.cell? ⟨b, off + j, none⟩ = some (.int .i64 (ys.getD j 0)))
theorem infoInt : (Tryd.prog.info? 3).map (fun i => (i.zero, i.size, i.bytes)) = some (some (.int .i64 0), 1, 8) := by kernel_rfl

theorem tmod_bounds (c : Int) (L : Nat) : -(L : Int) ≤ c.tmod ((L : Int) + 1) ∧ c.tmod ((L : Int) + 1) ≤ L := by
  have h1 := Int.tmod_lt_of_pos c (show (0 : Int) < (L : Int) + 1 by omega)
  have h2 : -((L : Int) + 1) < c.tmod ((L : Int) + 1) := by
    have h3 := Int.tmod_lt_of_pos (-c) (show (0 : Int) < (L : Int) + 1 by omega)
    rw [Int.neg_tmod] at h3
    omega
  omega

set_option maxRecDepth 8000 in
set_option maxHeartbeats 1600000 in
theorem packMany_walk (w : World) (v : Value) (ys : List Int) (h : Ints w v ys) (_ : ys.length ≤ reachBytes) (cut : Int) (_hc0 : -9223372036854775808 ≤ cut) (_hc1 : cut ≤ 9223372036854775807) (ht : TabOk w) :
    Calls Tryd.prog 4 #[v, .int .i64 cut] w fun e w' => e = .returned (.bool true) ∧ Below w.heap.size w w' := by
  have HT := hid ht
  obtain ⟨hr, ao, cap, rfl, hcell⟩ := h
  have HR := hid hr
  clear ht hr
  obtain ⟨len, hlen⟩ : ∃ n, n = ys.length := ⟨_, rfl⟩
  rw [← hlen] at hcell ⊢
  have HL := hid hlen
  clear hlen
  by_cases h40 : 40 < len
  · have HW := hid (awake_any w HT.out)
    clear hcell
    go_enter Tryd.func4, Tryd.ntmps4
    go_wp2_with (go_at_call 10; refine HW.out.mono ?_; rintro e w3 ⟨rfl, hb3⟩)
    go_ret
    exact ⟨rfl, hb3⟩
  · obtain ⟨i0, hi, hz0, hz1, hz2⟩ := info_parts infoInt
    have hd40 : decide ((40 : Int) < (len : Int)) = false := by simp; omega
    go_enter Tryd.func4, Tryd.ntmps4
    go_wp2
    go_loopw [5, 6, 7] (fun vb ve i wr => ∃ k : Nat, k ≤ len ∧ i = .int .i64 k ∧ wr.ownsRow w.heap.size 5 1 vb (encL (ys.take k)).length ((encL (ys.take k)).map (Value.int .u8)) ∧
        wr.ownsRow w.heap.size 3 1 ve k ((endsL ys k).map (Value.int .i64)) ∧ Below w.heap.size w wr) (fun _ _ i _ => len - (intOf i).toNat)
    case atStart => exact ⟨0, Nat.zero_le _, rfl, World.ownsRow_nil _ _ _ _, World.ownsRow_nil _ _ _ _, Below.refl _ _⟩
    case round =>
      obtain ⟨k, hk, rfl, hob, hoe, hbr⟩ := hrel
      have hel := encL_take_len ys k
      by_cases hlt : k < len
      · obtain ⟨b, off, rfl, hcl⟩ := hcell (by omega)
        obtain ⟨y, hy⟩ : ∃ y, y = ys.getD k 0 := ⟨_, rfl⟩
        have hyr : -9223372036854775808 ≤ y ∧ y ≤ 9223372036854775807 := by
          have hkl : k < ys.length := by have := HL.out; omega
          refine HR.out y ?_
          rw [hy, List.getD_eq_getElem?_getD, List.getElem?_eq_getElem hkl]
          exact List.getElem_mem hkl
        have hce : wr.cell? ⟨b, off + k, none⟩ = some (.int .i64 y) := by
          rw [hbr.cell (p := ⟨b, off + k, none⟩) (lt_of_cell (hcl k hlt)), hy]
          exact hcl k hlt
        have HS := hid (encL_succ (show k < ys.length by have := HL.out; omega) hy)
        have huv := uv_len (zig y)
        have HB := hid hob
        have HE := hid hoe
        have HY := hid hy
        clear hcell hcl hob hoe hy
        have hbs := hbr.size
        go_wp2_with (first | (go_at_call 11; refine (int_str y wr hyr.1 hyr.2).mono ?_; rintro e w2 ⟨v2, rfl, hh2, hb2⟩; have hB2 := hbr.trans (hb2.mono hbs)) | (at_builtin; refine wpList_append_has rfl (.tmp 24) (.tmp 29) rfl w.heap.size u5 _ _ rfl (own_below HB.out hb2) v2 (uv (zig y)) rfl hh2 (by omega) hB2.size ?_; intro v3 w3 hown3 hgrow3; have hB3 := hB2.grown hgrow3 hB2.size (own_base HB.out); have hE3 := hid ((own_below HE.out hb2).kept hgrow3 (own_ne HE.out HB.out (by decide))); obtain ⟨g3, c3, rfl, hg3, hc3, hm3⟩ := own_form hown3 (by omega); have H3 := hid hown3; clear hown3) | (at_builtin; refine wpList_append_own _ rfl (.tmp 31) (.tmp 34) 28 rfl w.heap.size 3 i0 (.int .i64 0) 1 8 Tryd.underlying28 hi hz0 hz1 hz2 rfl (by decide) u6 k _ rfl (hE3.out.alloc _) ⟨w3.heap.size, 0, none⟩ 1 1 [.int .i64 ((encL (ys.take k)).length + (uv (zig y)).length)] rfl rfl (cell_one_new _ _ _) (by intro u hu; simp at hu; subst hu; rfl) (by unfold maxLen; omega) (by omega) (by have := hB3.size; simp; omega) ?_; intro v4 w4 hown4 hgrow4 _; have hB4 := (hB3.alloc hB3.size _).grown hgrow4 (by have := hB3.size; simp; omega) (own_base hE3.out); have H4 := hid hown4; have HB4 := hid ((H3.out.alloc _).kept hgrow4 (own_ne H3.out hE3.out (by decide))); clear hown4))
        go_roundw
        case rel =>
          refine ⟨k + 1, by omega, by go_num, ?_, ?_, hB4⟩
          · rw [HS.out]; simpa using HB4.out
          · rw [endsL_succ, HS.out]; simpa using H4.out
        case measure => simp [intOf]; omega
      · obtain rfl : k = len := by omega
        have hE : encL (ys.take k) = encL ys := by rw [List.take_of_length_le (by rw [HL.out]; exact Nat.le_refl _)]
        rw [hE] at hob hel
        clear hE
        have HH := hid (has_of_own hob (encL_byte HR.out) (by omega))
        obtain ⟨aob, cb, rfl, hcb, hfb⟩ := own_any hob
        obtain ⟨aoe, ce, rfl, hce, hfe⟩ := own_any hoe
        have HE := hid hoe
        have HB := hid hob
        clear hob hoe
        obtain ⟨L, hL⟩ : ∃ L, L = (encL ys).length := ⟨_, rfl⟩
        rw [← hL] at hel hcb hfb HH ⊢
        have HLL := hid hL
        clear hL HB
        obtain ⟨t, ht⟩ : ∃ t, cut.tmod ((L : Int) + 1) = t := ⟨_, rfl⟩
        have htb : -(L : Int) ≤ t ∧ t ≤ L := ht ▸ tmod_bounds cut L
        obtain ⟨kk, hkk⟩ : ∃ kk : Nat, (t + (L : Int) + 1) % ((L : Int) + 1) = (kk : Int) := ⟨((t + (L : Int) + 1) % ((L : Int) + 1)).toNat, by have := Int.emod_nonneg (t + (L : Int) + 1) (show ((L : Int) + 1) ≠ 0 by omega); omega⟩
        have hkL : kk ≤ L := by have := Int.emod_lt_of_pos (t + (L : Int) + 1) (show (0 : Int) < (L : Int) + 1 by omega); omega
        go_wp2
        rw [hkk]
        clear hkk ht htb
        go_loop [9, 10] (fun a i => ∃ j : Nat, j ≤ k ∧ i = .int .i64 j ∧ a = .int .i64 (encL (ys.take j)).length ∧ (encL (ys.take j)).length ≤ kk) (fun _ i => k - (intOf i).toNat)
        case atStart => exact ⟨0, Nat.zero_le _, rfl, rfl, Nat.zero_le _⟩
        case round =>
          obtain ⟨j, hj, rfl, rfl, hAk⟩ := hrel
          by_cases hjl : j < k
          · obtain ⟨b, off, rfl, hcl⟩ := hcell (by omega)
            obtain ⟨ge, rfl⟩ := hfe (by omega)
            have hjy : j < ys.length := by have := HL.out; omega
            obtain ⟨y, hy⟩ : ∃ y, y = ys.getD j 0 := ⟨_, rfl⟩
            have hyr : -9223372036854775808 ≤ y ∧ y ≤ 9223372036854775807 := by
              refine HR.out y ?_
              rw [hy, List.getD_eq_getElem?_getD, List.getElem?_eq_getElem hjy]
              exact List.getElem_mem hjy
            have hly : wr.cell? ⟨b, off + j, none⟩ = some (.int .i64 y) := by
              rw [hbr.cell (p := ⟨b, off + j, none⟩) (lt_of_cell (hcl j hjl)), hy]
              exact hcl j hjl
            have hsp := encL_split hjy hy
            have hend : wr.cell? ⟨ge, j, none⟩ = some (.int .i64 ((encL (ys.take j)).length + (uv (zig y)).length)) := by
              have := own_cell HE.out j (by rw [endsL_len]; exact hjl)
              rw [endsL_at hjl, encL_succ hjy hy] at this
              simpa using this
            have huv := uv_len (zig y)
            have hAL : (encL (ys.take j)).length + (uv (zig y)).length ≤ L := by rw [HLL.out, hsp]; simp
            obtain ⟨gb, rfl⟩ := hfb (by omega)
            have hcut := HH.out.cutAt (lo := (encL (ys.take j)).length) (hi := kk) hAk (by rw [← HLL.out]; exact hkL)
            have HCU := hid hcut
            have HSP := hid hsp
            have HY := hid hy
            clear hcut hsp hy hcell hcl
            obtain ⟨A, hA⟩ : ∃ A, A = (encL (ys.take j)).length := ⟨_, rfl⟩
            obtain ⟨U, hU⟩ : ∃ U, U = (uv (zig y)).length := ⟨_, rfl⟩
            rw [← hA] at hAk hend hAL HCU ⊢
            rw [← hU] at hend hAL huv
            have HA := hid hA
            have HU := hid hU
            clear hA hU
            have hcu : Has wr (.slice (some ⟨gb, A, none⟩) (kk - A) (cb - A)) ((List.take kk (encL ys)).drop A) := by
              have := HCU.out
              rw [if_neg (by omega)] at this
              simpa [Addr.add_lit] using this
            clear HCU
            by_cases hfull : A + U ≤ kk
            · rw [HA.out, cut_full HSP.out (by rw [← HA.out, ← HU.out]; exact hfull), ← HA.out] at hcu
              have HC := hid (intOf_back hcu hyr.1 hyr.2)
              rw [← HU.out] at HC
              have HN := hid (encL_succ hjy HY.out)
              clear hcu hjy
              go_wp2_with (go_at_call 12; refine HC.out.mono ?_; rintro e w2 ⟨rfl, hw2⟩; have hw2' := hw2.symm; clear hw2; subst hw2')
              go_round
              case rel =>
                refine ⟨j + 1, by omega, by go_num, ?_, ?_⟩
                · rw [HN.out]; simp; rw [← HA.out, ← HU.out]
                · rw [HN.out]; simp; rw [← HA.out, ← HU.out]; exact hfull
              case measure => simp [intOf]; omega
            · rw [HA.out, cut_short HSP.out (by rw [← HA.out]; exact hAk) (by rw [← HA.out, ← HU.out]; omega), ← HA.out] at hcu
              have HC := hid (intOf_short hcu (by rw [← HU.out]; omega))
              have HW := hid (awake_any wr (HT.out.below hbr (Nat.le_refl _)))
              clear hcu hjy
              go_wp2_with (first | (go_at_call 12; refine HC.out.mono ?_; rintro e w2 ⟨rfl, hw2⟩; have hw2' := hw2.symm; clear hw2; subst hw2') | (go_at_call 10; refine HW.out.mono ?_; rintro e w3 ⟨rfl, hb3⟩))
              go_ret
              exact ⟨rfl, hbr.trans (hb3.mono hbr.size)⟩
          · have hA : (encL (ys.take j)).length = L := by rw [HLL.out, List.take_of_length_le (by have := HL.out; omega)]
            rw [hA] at hAk ⊢
            have HW := hid (awake_any wr (HT.out.below hbr (Nat.le_refl _)))
            clear hA hcell
            go_wp2_with (go_at_call 10; refine HW.out.mono ?_; rintro e w3 ⟨rfl, hb3⟩)
            go_ret
            exact ⟨rfl, hbr.trans (hb3.mono hbr.size)⟩
end Go.Proofs.YtongdccpoefnlaaDoor
