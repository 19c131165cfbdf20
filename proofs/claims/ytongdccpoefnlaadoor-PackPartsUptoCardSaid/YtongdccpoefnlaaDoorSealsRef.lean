/-
  PackSeals: what the document's own answers CRC, Seal, Open give, and pack.Seal, bytes.Clone, pack.Open.
-/
import Derived.Test.YtongdccpoefnlaaDoorSealsPlain
import Derived.Test.YtongdccpoefnlaaDoorRefUvar
import Derived.Test.YtongdccpoefnlaaDoorBack
import Derived.Test.YtongdccpoefnlaaDoorSumsWalk
import Derived.WalkSpells
namespace Go.Proofs.YtongdccpoefnlaaDoor
open Go.RowKit Go.PlainAid

theorem and1_u32 {c : Nat} (h : c < 2 ^ 32) : bits .and .u32 (c : Int) 1 = ((c % 2 : Nat) : Int) := by
  have := u32_and_nat c 1 (by omega) (by omega)
  rw [nat_mask1] at this
  exact this
theorem poly_u32 {c : Nat} (h : c < 2 ^ 32) : bits .xor .u32 ((c : Int) / 2) 3988292384 = (((c / 2) ^^^ 3988292384 : Nat) : Int) := by
  have := u32_xor_nat (c / 2) 3988292384 (by omega) (by omega)
  rw [show (c : Int) / 2 = ((c / 2 : Nat) : Int) by omega]
  exact this

set_option maxRecDepth 8000 in
set_option maxHeartbeats 800000 in
theorem refCRC_any {s : ByteArray} {zs : List Int} (h : Str s zs) (w : World) :
    Calls Tryd.prog 25 #[.string s] w fun e w' => e = .returned (.int .u32 (crcL zs)) ∧ w' = w := by
  have hm : s.size ≤ 281474976710656 := by have := h.size; have := h.2.2; omega
  have HZ : Hid (zs.length = s.size) := by have := h.size; show _ = _; omega
  have HAT := hid h.at
  have HR := hid (range_of h.2.1)
  have ns := nats_lt h.2.1
  have nb := nats_back h.2.1
  clear h
  obtain ⟨l, hl⟩ : ∃ l, l = nats zs := ⟨_, rfl⟩
  rw [← hl] at ns nb
  have HN := hid ns
  have HB := hid nb
  have HLL : Hid (l.length = s.size) := by show _ = _; rw [hl]; simp [nats, HZ.out]
  clear ns nb hl
  go_enter Tryd.func25, Tryd.ntmps25
  go_wp2
  go_loop [3, 4] (fun c i => ∃ k : Nat, k ≤ s.size ∧ i = .int .i64 k ∧ c = .int .u32 (sumN 4294967295 (l.take k) : Nat)) (fun _ i => s.size - (intOf i).toNat)
  case atStart => exact ⟨0, Nat.zero_le _, rfl, rfl⟩
  case round =>
    obtain ⟨k, hk, rfl, rfl⟩ := hrel
    have hS := sumN_lt (l.take k) 4294967295 (by decide) (fun c hc => HN.out c (List.mem_of_mem_take hc))
    obtain ⟨S, hSS⟩ : ∃ S, S = sumN 4294967295 (l.take k) := ⟨_, rfl⟩
    rw [← hSS] at hS ⊢
    have HS := hid hSS
    clear hSS
    by_cases hlt : k < s.size
    · have hkl : k < l.length := by rw [HLL.out]; exact hlt
      obtain ⟨c, hcc⟩ : ∃ c, c = l.getD k 0 := ⟨_, rfl⟩
      have hc : c < 256 := HN.out c (by rw [hcc]; simp [hkl])
      have hg : ((s[k]'hlt).toNat : Int) = (c : Int) := by
        rw [HAT.out k hlt, ← HB.out, hcc]
        simp [hkl]
      obtain ⟨T, hT⟩ : ∃ T, S ^^^ c = T := ⟨_, rfl⟩
      have hTl : T < 2 ^ 32 := hT ▸ Nat.xor_lt_two_pow hS (by omega)
      have hx : bits .xor .u32 (S : Int) (c : Int) = (T : Int) := by rw [u32_xor_nat S c (by omega) (by omega), hT]
      have HSt : Hid (sumN 4294967295 (l.take (k + 1)) = bitsN 8 T) := by
        show _ = _
        have e : l.take (k + 1) = l.take k ++ [c] := by rw [List.take_succ_eq_append_getElem hkl, hcc]; simp [hkl]
        rw [e, sumN_append, ← HS.out, bits8, ← hT]
        rfl
      clear hT hcc hkl
      go_wp2
      go_loop [3, 5] (fun c i => ∃ j : Nat, j ≤ 8 ∧ i = .int .i64 j ∧ c = .int .u32 (bitsN j T : Nat)) (fun _ i => 8 - (intOf i).toNat)
      case atStart => exact ⟨0, Nat.zero_le _, rfl, rfl⟩
      case round =>
        obtain ⟨j, hj, rfl, rfl⟩ := hrel
        have hU := bitsN_lt j hTl
        obtain ⟨U, hUU⟩ : ∃ U, U = bitsN j T := ⟨_, rfl⟩
        rw [← hUU] at hU ⊢
        have HU := hid hUU
        clear hUU
        by_cases hj8 : j < 8
        · have ha := and1_u32 hU
          obtain ⟨V, hV⟩ : ∃ V, (U / 2) ^^^ 3988292384 = V := ⟨_, rfl⟩
          have hp := poly_u32 hU
          rw [hV] at hp
          rcases (show U % 2 = 0 ∨ U % 2 = 1 by omega) with h2 | h2
          · rw [h2] at ha
            have HN1 : Hid (((bitsN (j + 1) T : Nat) : Int) = (U : Int) / 2) := by
              show ((bitN (bitsN j T) : Nat) : Int) = _
              rw [← HU.out]; unfold bitN; rw [if_neg (by omega), Nat.xor_zero]; omega
            clear h2 hV hp
            go_wp2
            go_round
            case rel => exact ⟨j + 1, by omega, by go_num, by rw [HN1.out]⟩
            case measure => simp [intOf]; omega
          · rw [h2] at ha
            have HN1 : Hid (((bitsN (j + 1) T : Nat) : Int) = (V : Int)) := by
              show ((bitN (bitsN j T) : Nat) : Int) = _
              rw [← HU.out]; unfold bitN; rw [if_pos h2, hV]
            clear h2 hV
            go_wp2
            go_round
            case rel => exact ⟨j + 1, by omega, by go_num, by rw [HN1.out]⟩
            case measure => simp [intOf]; omega
        · obtain rfl : j = 8 := by omega
          go_wp2
          go_round
          case rel => exact ⟨k + 1, by omega, by go_num, by rw [HSt.out, ← HU.out]⟩
          case measure => simp [intOf]; omega
    · have hv : crcL zs = bits .xor .u32 IntKind.u32.max (S : Int) := by
        have h1 := crcL_nat l HN.out
        rw [HB.out] at h1
        rw [h1]
        unfold crcN
        rw [← u32_xor_nat 4294967295 _ (by omega) (by have := sumN_lt l 4294967295 (by decide) HN.out; omega), HS.out, List.take_of_length_le (by rw [HLL.out]; omega)]
        rfl
      have HV := hid hv
      clear hv
      go_wp2
      go_ret
      exact ⟨by rw [HV.out]; rfl, rfl⟩

/-- Four bytes, just laid. -/
theorem has_four (w : World) (a b c d : Int) (h : ∀ x ∈ [a, b, c, d], 0 ≤ x ∧ x ≤ 255) : Has (w.alloc (.cells #[.int .u8 a, .int .u8 b, .int .u8 c, .int .u8 d] 5)) (.slice (some ⟨w.heap.size, 0, none⟩) 4 4) [a, b, c, d] := has_new w [a, b, c, d] h (by simp)
theorem be4_low {C : Int} (h0 : 0 ≤ C) (h1 : C ≤ 4294967295) : [C / 16777216, C / 65536 % 256, C / 256 % 256, C % 256] = be4 C := by
  have : C / 16777216 % 256 = C / 16777216 := by omega
  simp [be4, this]

theorem seal_any {w : World} {v : Value} {zs : List Int} (h : Has w v zs) (ht : TabOk w) (hl : zs.length + 4 ≤ 140737488355328) :
    Calls Tryd.prog 23 #[v] w fun e w' => ∃ v', e = .returned v' ∧ w'.ownsRow w.heap.size 5 1 v' (sealL zs).length ((sealL zs).map (Value.int .u8)) ∧ Below w.heap.size w w' := by
  obtain ⟨i0, hi, hz0, hz1, hz2⟩ := info_parts info5
  obtain ⟨ao, cap, rfl, _⟩ := h.open
  have H := hid h
  have HC := hid (crc_has h ht)
  have hb := crcL_bounds h.byte
  have hbl := be4_low hb.1 hb.2
  have HS : Hid (sealL zs = zs ++ be4 (crcL zs)) := rfl
  clear h ht
  generalize crcL zs = C at *
  have HBL := hid hbl
  have hby : ∀ x ∈ [C / 16777216, C / 65536 % 256, C / 256 % 256, C % 256], 0 ≤ x ∧ x ≤ 255 := hbl ▸ be4_byte C
  have HBY := hid hby
  clear hbl hby
  obtain ⟨n, hn⟩ : ∃ n, n = zs.length := ⟨_, rfl⟩
  rw [← hn] at H HC hl ⊢
  have HN := hid hn
  clear hn
  go_enter Tryd.func23, Tryd.ntmps23
  go_wp2_with (first | (go_at_call 9; refine HC.out.mono ?_; rintro e wz ⟨rfl, hwz⟩; have hwz' := hwz.symm; clear hwz; subst hwz') | (at_make; refine wpList_make_own _ rfl _ _ 22 rfl w.heap.size 5 i0 (.int .u8 0) 1 Tryd.underlying22 hi hz0 hz1 _ _ _ (n + 4) rfl rfl (by omega) (by rw [hz2]; omega) (by unfold maxLen; omega) (Nat.le_refl _) ?_; intro w1 hown1 hgrow1; have hB1 : Below w.heap.size w w1 := (Below.refl _ _).grown hgrow1 (Nat.le_refl _) (by intro k hk; cases hk)) | (at_builtin; refine wpList_append_has rfl (.tmp 11) (.tmp 12) rfl w.heap.size _ _ _ rfl hown1 (.slice ao n cap) zs rfl (H.out.below hB1) (by have := HN.out; omega) hB1.size ?_; intro v2 w2 hown2 hgrow2; have hB2 := hB1.grown hgrow2 hB1.size (own_base hown1)) | (at_builtin; refine wpList_append_has rfl (.tmp 14) (.tmp 26) rfl w.heap.size v2 _ _ rfl (hown2.alloc _) (.slice (some ⟨w2.heap.size, 0, none⟩) 4 4) _ rfl (has_four w2 _ _ _ _ HBY.out) (by have := HN.out; simp; omega) (by have := hB2.size; simp; omega) ?_; intro v3 w3 hown3 hgrow3; have hB3 := (hB2.alloc hB2.size _).grown hgrow3 (by have := hB2.size; simp; omega) (own_base hown2)))
  go_ret
  refine ⟨_, rfl, ?_, hB3⟩
  rw [HS.out]
  rw [HBL.out] at hown3
  simpa using hown3

theorem refSeal_any {s : ByteArray} {zs : List Int} (h : Str s zs) (w : World) :
    Calls Tryd.prog 24 #[.string s] w fun e w' => e = .returned (.string (strOfNums (sealL zs))) ∧ Below w.heap.size w w' := by
  have HC := hid (refCRC_any h w)
  have hb := crcL_bounds h.2.1
  have hbl := be4_low hb.1 hb.2
  have hz := h.2.2
  have hsz := h.size
  have HSS : Hid (strOfNums (sealL zs) = s ++ strOfNums (be4 (crcL zs))) := by show _ = _; rw [h.1, strOfNums_append]; rfl
  clear h
  generalize crcL zs = C at *
  have hby : ∀ x ∈ [C / 16777216, C / 65536 % 256, C / 256 % 256, C % 256], 0 ≤ x ∧ x ≤ 255 := hbl ▸ be4_byte C
  have hconv : ∀ wx : World, (convert 22 9 (.slice (some ⟨wx.heap.size, 0, none⟩) 4 4)).run Tryd.prog (wx.alloc (.cells #[.int .u8 (C / 16777216), .int .u8 (C / 65536 % 256), .int .u8 (C / 256 % 256), .int .u8 (C % 256)] 5)) = .ok (.string (strOfNums (be4 C))) (wx.alloc (.cells #[.int .u8 (C / 16777216), .int .u8 (C / 65536 % 256), .int .u8 (C / 256 % 256), .int .u8 (C % 256)] 5)) := fun wx => by
    have := (has_four wx _ _ _ _ hby).conv
    rw [hbl] at this
    exact this
  have h4 : (strOfNums (be4 C)).size = 4 := by rw [strOfNums_size]; rfl
  have hs1 : s.size ≤ 281474976710656 := by omega
  generalize strOfNums (be4 C) = t at *
  have HBL := hid hbl
  clear hbl hby hsz hz
  go_enter Tryd.func24, Tryd.ntmps24
  go_wp2_with (go_at_call 25; refine HC.out.mono ?_; rintro e wz ⟨rfl, hwz⟩; have hwz' := hwz.symm; clear hwz; subst hwz')
  go_ret
  exact ⟨by rw [HSS.out]; rfl, (Below.refl _ _).alloc (Nat.le_refl _) _⟩

theorem clone_any {w : World} {v : Value} {zs : List Int} (h : Has w v zs) (hl : zs.length ≤ 140737488355328) :
    Calls Tryd.prog 30 #[v] w fun e w' => ∃ v', e = .returned v' ∧ Has w' v' zs ∧ Below w.heap.size w w' := by
  obtain ⟨ao, cap, rfl, _⟩ := h.open
  have H := hid h
  have hnil : ∀ (wx : World) (a : Option Addr) (n c : Nat), (binOp .eql 22 (.slice a n c) (.slice none 0 0)).run Tryd.prog wx = .ok (.bool a.isNone) wx := fun wx a n c => Lib.run_eql_slice_nil wx _ _ a n c 0 0 Tryd.underlying22
  cases ao with
  | none =>
    obtain rfl : zs = [] := by
      rcases h.2.2 with ⟨a, c, hv, h0, _⟩ | ⟨b, off, c, hv, _⟩
      · exact h0
      · injection hv with e1; cases e1
    have hcap : cap = 0 := by
      rcases h.2.2 with ⟨a, c, hv, _, hn⟩ | ⟨b, off, c, hv, _⟩
      · injection hv with e1 e2 e3
        rw [e3]; exact hn e1.symm
      · injection hv with e1; cases e1
    subst hcap
    clear h
    go_enter Tryd.func30, Tryd.ntmps30
    go_wp2
    go_ret
    exact ⟨_, rfl, H.out, Below.refl _ _⟩
  | some ad =>
    have hby := h.byte
    clear h
    have HBY := hid hby
    clear hby
    go_enter Tryd.func30, Tryd.ntmps30
    go_wp2_with (at_builtin; refine wpList_append_has rfl (.tmp 5) (.tmp 6) rfl w.heap.size (.slice (some ⟨w.heap.size, 0, none⟩) 0 0) _ _ rfl (own_empty w _ (Nat.le_refl _)) (.slice (some ad) zs.length cap) zs rfl (H.out.below ((Below.refl _ _).alloc (Nat.le_refl _) _)) (by omega) (by simp) ?_; intro v2 w2 hown2 hgrow2; have hB2 : Below w.heap.size w w2 := ((Below.refl _ _).alloc (Nat.le_refl _) _).grown hgrow2 (by simp) (own_base (own_empty w w.heap.size (Nat.le_refl _))))
    go_ret
    exact ⟨_, rfl, has_of_own (n := zs.length) (base := w.heap.size) (by simpa using hown2) HBY.out hl, hB2⟩
end Go.Proofs.YtongdccpoefnlaaDoor
