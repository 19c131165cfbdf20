/-
  PackSeals: what pack.Open and the document's own Open give.
-/
import Derived.Test.YtongdccpoefnlaaDoorSealsRef
import Derived.Deep.QuietTactic
import Derived.BigQuiet
import Derived.Lib.Strings
namespace Go.Proofs.YtongdccpoefnlaaDoor
open Go.RowKit Go.PlainAid

theorem num4_or {a b c d : Int} (ha : 0 ≤ a ∧ a ≤ 255) (hb : 0 ≤ b ∧ b ≤ 255) (hc : 0 ≤ c ∧ c ≤ 255) (hd : 0 ≤ d ∧ d ≤ 255) :
    bits .or .u32 (bits .or .u32 (bits .or .u32 (a * 16777216) (b * 65536)) (c * 256)) d = a * 16777216 + b * 65536 + c * 256 + d := by
  obtain ⟨x, rfl⟩ := Int.eq_ofNat_of_zero_le ha.1
  obtain ⟨y, rfl⟩ := Int.eq_ofNat_of_zero_le hb.1
  obtain ⟨z, rfl⟩ := Int.eq_ofNat_of_zero_le hc.1
  obtain ⟨u, rfl⟩ := Int.eq_ofNat_of_zero_le hd.1
  have e1 : bits .or .u32 ((x : Int) * 16777216) ((y : Int) * 65536) = ((x * 16777216 + y * 65536 : Nat) : Int) := by
    rw [u32_or _ _ (by omega) (by omega) (by omega) (by omega), show ((x : Int) * 16777216).toNat = x * 16777216 by omega, show ((y : Int) * 65536).toNat = y * 65536 by omega,
      nat_join 24 (x * 16777216) (y * 65536) (by simp) (by omega)]
  have e2 : bits .or .u32 ((x * 16777216 + y * 65536 : Nat) : Int) ((z : Int) * 256) = ((x * 16777216 + y * 65536 + z * 256 : Nat) : Int) := by
    rw [u32_or _ _ (by omega) (by omega) (by omega) (by omega), Int.toNat_natCast, show ((z : Int) * 256).toNat = z * 256 by omega,
      nat_join 16 (x * 16777216 + y * 65536) (z * 256) (by omega) (by omega)]
  have e3 : bits .or .u32 ((x * 16777216 + y * 65536 + z * 256 : Nat) : Int) (u : Int) = ((x * 16777216 + y * 65536 + z * 256 + u : Nat) : Int) := by
    rw [u32_or_nat _ _ (by omega) (by omega), nat_join 8 (x * 16777216 + y * 65536 + z * 256) u (by omega) (by omega)]
  rw [e1, e2, e3]
  omega

theorem Has.tail {w : World} {b off n cap lo : Nat} {zs : List Int} (h : Has w (.slice (some ⟨b, off, none⟩) n cap) zs) (hlo : lo < zs.length) : ∀ j, lo + j < zs.length → w.cell? ⟨b, off + lo + j, none⟩ = some (.int .u8 (zs.getD (lo + j) 0)) := by
  intro j hj
  rcases h.2.2 with ⟨a, c, hv, rfl, _⟩ | ⟨b', off', c, hv, _, hc⟩
  · simp at hlo
  · injection hv with e1 _ _
    injection e1 with e1
    injection e1 with e1 e2 _
    subst e1 e2
    have := hc (lo + j) hj
    rw [← Nat.add_assoc] at this
    exact this

set_option maxRecDepth 8000 in
set_option maxHeartbeats 1600000 in
theorem open_any {w : World} {v : Value} {zs : List Int} (h : Has w v zs) (ht : TabOk w) :
    Calls Tryd.prog 26 #[v] w fun e w' => ∃ v', e = .returned (.tuple #[v', .int .i64 (openE zs)]) ∧ Has w' v' (openB zs) ∧ Below w.heap.size w w' := by
  obtain ⟨ao, cap, rfl, hfo⟩ := h.open
  have H := hid h
  have HT := hid ht
  have hln := h.len_le
  have hbz := h.byte
  have hmx := h.2.1
  clear h ht
  obtain ⟨n, hn⟩ : ∃ n, n = zs.length := ⟨_, rfl⟩
  rw [← hn] at H hfo hln hmx ⊢
  have HN := hid hn
  by_cases h4 : n < 4
  · have he : openE zs = 4 := by unfold openE; rw [if_pos (by omega)]
    have hB : openB zs = [] := by unfold openB; rw [he]; rfl
    rw [he, hB]
    clear he hB hn hfo hbz
    go_enter Tryd.func26, Tryd.ntmps26
    go_wp2
    go_ret2
    exact ⟨_, rfl, ⟨fun j => by simp, by simp, .inl ⟨none, 0, rfl, rfl, fun _ => rfl⟩⟩, Below.refl _ _⟩
  · obtain ⟨b, off, rfl, _⟩ := hfo (by omega)
    have htl := H.out.tail (lo := n - 4) (by omega)
    have c0 := htl 0 (by omega)
    have c1 := htl 1 (by omega)
    have c2 := htl 2 (by omega)
    have c3 := htl 3 (by omega)
    have hbody := H.out.head (hi := n - 4) (by omega)
    have hbyte : ∀ k, k < n → 0 ≤ zs.getD k 0 ∧ zs.getD k 0 ≤ 255 := fun k hk => by have := H.out.1 k; rw [← List.getD_eq_getElem?_getD] at this; exact this
    have hor := num4_or (hbyte (n - 4 + 0) (by omega)) (hbyte (n - 4 + 1) (by omega)) (hbyte (n - 4 + 2) (by omega)) (hbyte (n - 4 + 3) (by omega))
    have hnum : num4 (zs.drop (n - 4)) = zs.getD (n - 4 + 0) 0 * 16777216 + zs.getD (n - 4 + 1) 0 * 65536 + zs.getD (n - 4 + 2) 0 * 256 + zs.getD (n - 4 + 3) 0 := by
      unfold num4; simp
    obtain ⟨x0, h0⟩ : ∃ x, x = zs.getD (n - 4 + 0) 0 := ⟨_, rfl⟩
    obtain ⟨x1, h1⟩ : ∃ x, x = zs.getD (n - 4 + 1) 0 := ⟨_, rfl⟩
    obtain ⟨x2, h2⟩ : ∃ x, x = zs.getD (n - 4 + 2) 0 := ⟨_, rfl⟩
    obtain ⟨x3, h3⟩ : ∃ x, x = zs.getD (n - 4 + 3) 0 := ⟨_, rfl⟩
    have r0 : 0 ≤ x0 ∧ x0 ≤ 255 := h0 ▸ hbyte _ (by omega)
    have r1 : 0 ≤ x1 ∧ x1 ≤ 255 := h1 ▸ hbyte _ (by omega)
    have r2 : 0 ≤ x2 ∧ x2 ≤ 255 := h2 ▸ hbyte _ (by omega)
    have r3 : 0 ≤ x3 ∧ x3 ≤ 255 := h3 ▸ hbyte _ (by omega)
    rw [← h0] at c0
    rw [← h1] at c1
    rw [← h2] at c2
    rw [← h3] at c3
    rw [← h0, ← h1, ← h2, ← h3] at hor hnum
    obtain ⟨N, hN⟩ : ∃ N, N = x0 * 16777216 + x1 * 65536 + x2 * 256 + x3 := ⟨_, rfl⟩
    rw [← hN] at hor hnum
    have hd : ∀ m, Below w.heap.size w (w.drewN m) := fun m => below_drewN (Below.refl _ _) m
    have HD := hid hd
    have HC := hid (fun m => crc_has (hbody.below (hd m)) (HT.out.below (hd m) (Nat.le_refl _)))
    have HK := hid (fun m => clone_any (hbody.below (hd m)) (by simp; omega))
    have hopen : openE zs = if crcL (zs.take (n - 4)) = N then 0 else 3 := by unfold openE; rw [← HN.out, if_neg h4, hnum]
    obtain ⟨C, hC⟩ : ∃ C, C = crcL (zs.take (n - 4)) := ⟨_, rfl⟩
    rw [← hC] at HC hopen
    have hdec : decide ((n : Int) < 4) = false := by simp; omega
    rw [Nat.add_zero] at c0
    clear h0 h1 h2 h3 hbyte htl hnum hn hbz hC hN hd hbody
    by_cases hq : C = N
    · have hB : openB zs = zs.take (n - 4) := by unfold openB; rw [hopen, if_pos hq, if_pos rfl, ← HN.out]
      have he : openE zs = 0 := by rw [hopen, if_pos hq]
      have hne : (C != N) = false := by simp [hq]
      rw [hB, he]
      clear hB he hopen hq
      go_enter Tryd.func26, Tryd.ntmps26
      go_wp2
      go_quiet (fail)
      go_wp2
      have i0 : (0 : Int) < ((n - (n - 4) : Nat) : Int) := by omega
      have i1 : (1 : Int) < ((n - (n - 4) : Nat) : Int) := by omega
      have i2 : (2 : Int) < ((n - (n - 4) : Nat) : Int) := by omega
      have i3 : (3 : Int) < ((n - (n - 4) : Nat) : Int) := by omega
      go_quiet (fail)
      go_wp2_with (first | (go_at_call 9; refine (HC.out _).mono ?_; rintro e wz ⟨rfl, hwz⟩; have hwz' := hwz.symm; clear hwz; subst hwz') | (go_at_call 30; refine (HK.out _).mono ?_; rintro e w2 ⟨v2, rfl, hh2, hb2⟩))
      go_ret2
      exact ⟨_, rfl, hh2, (HD.out _).trans hb2⟩
    · have he : openE zs = 3 := by rw [hopen, if_neg hq]
      have hB : openB zs = [] := by unfold openB; rw [he]; rfl
      have hne : (C != N) = true := by simpa using hq
      rw [hB, he]
      clear hB he hopen hq
      go_enter Tryd.func26, Tryd.ntmps26
      go_wp2
      go_quiet (fail)
      go_wp2
      have i0 : (0 : Int) < ((n - (n - 4) : Nat) : Int) := by omega
      have i1 : (1 : Int) < ((n - (n - 4) : Nat) : Int) := by omega
      have i2 : (2 : Int) < ((n - (n - 4) : Nat) : Int) := by omega
      have i3 : (3 : Int) < ((n - (n - 4) : Nat) : Int) := by omega
      go_quiet (fail)
      go_wp2_with (go_at_call 9; refine (HC.out _).mono ?_; rintro e wz ⟨rfl, hwz⟩; have hwz' := hwz.symm; clear hwz; subst hwz')
      go_ret2
      exact ⟨_, rfl, ⟨fun j => by simp, by simp, .inl ⟨none, 0, rfl, rfl, fun _ => rfl⟩⟩, HD.out _⟩

theorem str_take {s : ByteArray} {zs : List Int} (h : Str s zs) (k : Nat) : Str (s.extract 0 k) (zs.take k) := by
  refine ⟨?_, fun b hb => h.2.1 b (List.mem_of_mem_take hb), by have := h.2.2; simp; omega⟩
  apply Go.WideShapes.bytes_inj
  rw [Lib.extract_data, h.1]
  simp [strOfNums, List.map_take]
theorem seal_eq {zs : List Int} (hb : ∀ b ∈ zs, 0 ≤ b ∧ b ≤ 255) (h4 : 4 ≤ zs.length) : (sealL (zs.take (zs.length - 4)) = zs) ↔ crcL (zs.take (zs.length - 4)) = num4 (zs.drop (zs.length - 4)) := by
  have hd : (zs.drop (zs.length - 4)).length = 4 := by simp; omega
  have hdb : ∀ b ∈ zs.drop (zs.length - 4), 0 ≤ b ∧ b ≤ 255 := fun b hx => hb b (List.mem_of_mem_drop hx)
  have hcb := crcL_bounds (zs := zs.take (zs.length - 4)) (fun b hx => hb b (List.mem_of_mem_take hx))
  constructor
  · intro h
    have e : be4 (crcL (zs.take (zs.length - 4))) = zs.drop (zs.length - 4) := by
      have h1 : zs.take (zs.length - 4) ++ be4 (crcL (zs.take (zs.length - 4))) = zs.take (zs.length - 4) ++ zs.drop (zs.length - 4) := by rw [List.take_append_drop]; exact h
      exact List.append_cancel_left h1
    rw [← e, num4_be4 hcb.1 hcb.2]
  · intro h
    unfold sealL
    rw [h, be4_num4 hd hdb, List.take_append_drop]
theorem refOpen_any {s : ByteArray} {zs : List Int} (h : Str s zs) (w : World) :
    Calls Tryd.prog 27 #[.string s] w fun e w' => e = .returned (.tuple #[.string (strOfNums (openB zs)), .int .i64 (openE zs)]) ∧ Below w.heap.size w w' := by
  have hz := h.size
  have hmx := h.2.2
  by_cases h4 : s.size < 4
  · have he : openE zs = 4 := by unfold openE; rw [if_pos (by omega)]
    have hB : openB zs = [] := by unfold openB; rw [he]; rfl
    rw [he, hB]
    clear he hB hz hmx h
    go_enter Tryd.func27, Tryd.ntmps27
    go_wp2
    go_ret2
    exact ⟨rfl, Below.refl _ _⟩
  · have ht := str_take h (s.size - 4)
    have HS := hid (refSeal_any ht w)
    have hse := seal_eq h.2.1 (by omega)
    have hopen : openE zs = if sealL (zs.take (zs.length - 4)) = zs then 0 else 3 := by
      unfold openE; rw [if_neg (by omega)]
      by_cases hq : crcL (zs.take (zs.length - 4)) = num4 (zs.drop (zs.length - 4))
      · rw [if_pos hq, if_pos (hse.2 hq)]
      · rw [if_neg hq, if_neg (fun hx => hq (hse.1 hx))]
    rw [hz] at HS
    obtain ⟨t, htt⟩ : ∃ t, t = strOfNums (sealL (zs.take (zs.length - 4))) := ⟨_, rfl⟩
    have hsb := sealL_byte (zs := zs.take (zs.length - 4)) (fun b hx => h.2.1 b (List.mem_of_mem_take hx))
    have htx := ht.1
    by_cases hq : sealL (zs.take (zs.length - 4)) = zs
    · have he : openE zs = 0 := by rw [hopen, if_pos hq]
      have hB : openB zs = zs.take (zs.length - 4) := by unfold openB; rw [he]; rfl
      have hts : t = s := by rw [htt, hq, h.1]
      rw [he, hB, ← hz, ← htx]
      rw [← htt, hts, ← hz] at HS
      have hmz : s.size ≤ 281474976710656 := by omega
      clear he hB hz hmx h ht hse hopen hq hsb htx htt hts
      go_enter Tryd.func27, Tryd.ntmps27
      go_wp2_with (go_at_call 24; refine HS.out.mono ?_; rintro e w2 ⟨rfl, hb2⟩)
      go_ret2
      exact ⟨rfl, hb2⟩
    · have he : openE zs = 3 := by rw [hopen, if_neg hq]
      have hB : openB zs = [] := by unfold openB; rw [he]; rfl
      have hts : (t.toList == s.toList) = false := by
        rw [beq_eq_false_iff_ne, ByteArray.toList_eq, ByteArray.toList_eq, htt, h.1]
        intro hx
        exact hq (strOfNums_inj hsb h.2.1 hx)
      rw [he, hB]
      rw [← htt, ← hz] at HS
      have hmz : s.size ≤ 281474976710656 := by omega
      clear he hB hz hmx h ht hse hopen hq hsb htx htt
      go_enter Tryd.func27, Tryd.ntmps27
      go_wp2_with (go_at_call 24; refine HS.out.mono ?_; rintro e w2 ⟨rfl, hb2⟩)
      go_ret2
      exact ⟨rfl, hb2⟩
end Go.Proofs.YtongdccpoefnlaaDoor
