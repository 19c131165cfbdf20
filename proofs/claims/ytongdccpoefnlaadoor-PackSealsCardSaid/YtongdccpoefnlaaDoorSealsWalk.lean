/-
  PackSeals: the walk.
-/
import Derived.Test.YtongdccpoefnlaaDoorSealsOpen
namespace Go.Proofs.YtongdccpoefnlaaDoor
open Go.RowKit Go.PlainAid

theorem tmod_le (c : Int) (M : Nat) (hM : 1 ≤ M) : -(M : Int) ≤ c.tmod (M : Int) ∧ c.tmod (M : Int) ≤ M := by
  have h1 := Int.tmod_lt_of_pos c (show (0 : Int) < (M : Int) by omega)
  have h3 := Int.tmod_lt_of_pos (-c) (show (0 : Int) < (M : Int) by omega)
  rw [Int.neg_tmod] at h3
  omega

set_option maxRecDepth 8000 in
set_option maxHeartbeats 3200000 in
theorem packSeals_walk (w : World) (v : Value) (zs : List Int) (h : Has w v zs) (_ : zs.length ≤ reachBytes) (bit : Int) (_hb0 : -9223372036854775808 ≤ bit) (_hb1 : bit ≤ 9223372036854775807) (less : Int) (_hs0 : -9223372036854775808 ≤ less) (_hs1 : less ≤ 9223372036854775807) (ht : TabOk w) :
    Calls Tryd.prog 8 #[v, .int .i64 bit, .int .i64 less] w fun e w' => e = .returned (.bool true) ∧ Below w.heap.size w w' := by
  obtain ⟨ao, cap, rfl, _⟩ := h.open
  have H := hid h
  have HT := hid ht
  have hmx := h.2.1
  obtain ⟨n, hn⟩ : ∃ n, n = zs.length := ⟨_, rfl⟩
  rw [← hn] at H hmx ⊢
  have HN := hid hn
  clear h ht hn
  by_cases h2 : 2000 < n
  · have HW := hid (awake_any w HT.out)
    go_enter Tryd.func8, Tryd.ntmps8
    go_wp2_with (go_at_call 10; refine HW.out.mono ?_; rintro e w3 ⟨rfl, hb3⟩)
    go_ret
    exact ⟨rfl, hb3⟩
  · have hd2 : decide ((2000 : Int) < (n : Int)) = false := by simp; omega
    have hzb := H.out.byte
    have HZB := hid hzb
    clear hzb
    obtain ⟨S, hS⟩ : ∃ S, S = sealL zs := ⟨_, rfl⟩
    have hSl : S.length = n + 4 := by rw [hS, sealL_len, HN.out]
    have hSb : ∀ b ∈ S, 0 ≤ b ∧ b ≤ 255 := hS ▸ sealL_byte HZB.out
    have HSE := hid (seal_any H.out HT.out (by have := HN.out; omega))
    rw [← hS] at HSE
    have HS := hid hS
    have HSB := hid hSb
    have HSL := hid hSl
    clear hS hSb hSl
    obtain ⟨sz, hsz⟩ : ∃ s, s = strOfNums zs := ⟨_, rfl⟩
    obtain ⟨sS, hsS⟩ : ∃ s, s = strOfNums S := ⟨_, rfl⟩
    have HZ := hid hsz
    have HSS := hid hsS
    have HSTR := hid H.out.str
    clear hsz hsS
    go_enter Tryd.func8, Tryd.ntmps8
    go_upto_region 4 with (go_at_call 23; refine HSE.out.mono ?_; rintro e w2 ⟨v2, rfl, hown2, hb2⟩; have hS2 := has_of_own hown2 HSB.out (by have := HSL.out; omega); rw [HSL.out] at hown2; obtain ⟨g2, c2, rfl, hg2, hc2, hm2⟩ := own_form hown2 (by omega))
    have hdS := hS2.below (Below.refl _ _).drew
    have hdZ := (H.out.below hb2).below (Below.refl _ _).drew
    have HDS := hid hdS
    have HDZ := hid hdZ
    have cS := hdS.conv
    have cZ := hdZ.conv
    rw [← HSS.out] at cS
    rw [← HZ.out] at cZ
    clear hS2 hdS hdZ hown2
    go_cut [38] from 25 to 38 (fun c wx => c = .bool false ∧ Has wx (.slice (some ⟨g2, 0, none⟩) (n + 4) c2) S ∧ Below w.heap.size w wx)
    case first =>
      go_region_with (first | (go_at_call 24; refine (refSeal_any (s := sz) (by rw [HZ.out]; exact HSTR.out) _).mono ?_; rintro e w3 ⟨rfl, hb3⟩; rw [← HS.out, ← HSS.out]; have HS3 := hid (HDS.out.below hb3); have HZ3 := hid (HDZ.out.below hb3); have cS3 := HS3.out.conv; have cZ3 := HZ3.out.conv; rw [← HSS.out] at cS3; rw [← HZ.out] at cZ3; have HT3 := hid (HT.out.below (hb2.drew.trans (hb3.mono hb2.size)) (Nat.le_refl _))) | (go_at_call 9; refine (crc_has HZ3.out HT3.out).mono ?_; rintro e wz ⟨rfl, hwz⟩; have hwz' := hwz.symm; clear hwz; subst hwz') | (go_at_call 25; refine (refCRC_any (s := sz) (by rw [HZ.out]; exact HSTR.out) _).mono ?_; rintro e wz ⟨rfl, hwz⟩; have hwz' := hwz.symm; clear hwz; subst hwz'))
      all_goals
        go_wp2_with fail
        go_meet
        exact ⟨rfl, HS3.out, hb2.drew.trans (hb3.mono hb2.size)⟩
    case rest =>
      obtain ⟨rfl, hS4, hB4⟩ := hcut
      have HS4 := hid hS4
      have HT4 := hid (HT.out.below hB4 (Nat.le_refl _))
      have hos : openE S = 0 ∧ openB S = zs := by rw [HS.out]; exact open_seal HZB.out
      have HO1 := hid (open_any hS4 HT4.out)
      rw [hos.1, hos.2] at HO1
      clear hS4 hos cS cZ HDS HDZ
      obtain ⟨t1, ht1⟩ : ∃ t, bit.tmod (8 * ((n : Int) + 4)) = t := ⟨_, rfl⟩
      have ht1b : -(8 * ((n : Int) + 4)) ≤ t1 ∧ t1 ≤ 8 * ((n : Int) + 4) := by
        have := tmod_le bit (8 * (n + 4)) (by omega)
        have e : ((8 * (n + 4) : Nat) : Int) = 8 * ((n : Int) + 4) := by omega
        rw [e, ht1] at this
        omega
      go_wp2_with (first | (go_at_call 26; refine HO1.out.mono ?_; rintro e w5 ⟨v5, rfl, hh5, hb5⟩; clear HO1; have hB5 := hB4.trans (hb5.mono hB4.size); have HS5 := hid (HS4.out.below hb5); have cX := hh5.conv; have cY := (H.out.below hB5).conv) | (at_builtin; refine wpList_append_has rfl (.tmp 53) (.tmp 54) rfl w5.heap.size (.slice (some ⟨w5.heap.size, 0, none⟩) 0 0) _ _ rfl (own_empty w5 _ (Nat.le_refl _)) (.slice (some ⟨g2, 0, none⟩) (n + 4) c2) S rfl (HS5.out.below ((Below.refl _ _).alloc (Nat.le_refl _) _)) (by have := HSL.out; omega) (by simp) ?_; intro v6 w6 hown6 hgrow6; have hb6 : Below w5.heap.size w5 w6 := ((Below.refl _ _).alloc (Nat.le_refl _) _).grown hgrow6 (by simp) (own_base (own_empty w5 w5.heap.size (Nat.le_refl _))); rw [HSL.out, Nat.zero_add] at hown6; obtain ⟨g6, c6, rfl, hg6, hc6, hm6⟩ := own_form hown6 (by omega); have HO6 := hid hown6; clear hown6 hgrow6))
      obtain ⟨kk, hkk⟩ : ∃ kk : Nat, (t1 + 8 * ((n : Int) + 4)) % (8 * ((n : Int) + 4)) = (kk : Int) := ⟨((t1 + 8 * ((n : Int) + 4)) % (8 * ((n : Int) + 4))).toNat, by have := Int.emod_nonneg (t1 + 8 * ((n : Int) + 4)) (show (8 * ((n : Int) + 4)) ≠ 0 by omega); omega⟩
      have hkL : kk < 8 * (n + 4) := by have := Int.emod_lt_of_pos (t1 + 8 * ((n : Int) + 4)) (show (0 : Int) < 8 * ((n : Int) + 4) by omega); omega
      rw [hkk]
      obtain ⟨q, hq⟩ : ∃ q : Nat, (kk : Int) / 8 = (q : Int) := ⟨kk / 8, by omega⟩
      obtain ⟨r, hr⟩ : ∃ r : Nat, (kk : Int) % 8 = (r : Int) := ⟨kk % 8, by omega⟩
      have hq0 : (0 : Int) ≤ (q : Int) := by omega
      have hq1 : (q : Int) < (n : Int) + 4 := by omega
      have hq2 : q < n + 4 := by omega
      have hr0 : (0 : Int) ≤ (r : Int) := by omega
      have hr1 : r < 8 := by omega
      obtain ⟨x, hx⟩ : ∃ x, x = S.getD q 0 := ⟨_, rfl⟩
      have hxb : 0 ≤ x ∧ x ≤ 255 := by
        have hqS : q < S.length := by rw [HSL.out]; exact hq2
        rw [hx]
        have : S.getD q 0 = S[q] := by simp [hqS]
        rw [this]
        exact HSB.out _ (List.getElem_mem hqS)
      have rd : w6.cell? ⟨g6, q, none⟩ = some (.int .u8 x) := by rw [hx]; exact own_cell HO6.out q (by rw [HSL.out]; exact hq2)
      have fd : w6.frozen? ⟨g6, q, none⟩ = false := HO6.out.frozenAt q
      obtain ⟨y, hy⟩ : ∃ y, y = (((S.getD q 0).toNat ^^^ 2 ^ r : Nat) : Int) := ⟨_, rfl⟩
      have hyb : 0 ≤ y ∧ y ≤ 255 := by
        have : (S.getD q 0).toNat ^^^ 2 ^ r < 2 ^ 8 := Nat.xor_lt_two_pow (by rw [← hx]; omega) (Nat.pow_lt_pow_right (by omega) hr1)
        rw [hy]; omega
      have hyx : bits .xor .u8 x (2 ^ r % 256) = y := by
        have e2 : ((2 : Int) ^ r % 256) = ((2 ^ r : Nat) : Int) := by
          have all : ∀ r : Nat, r < 8 → ((2 : Int) ^ r % 256) = ((2 ^ r : Nat) : Int) := by decide
          exact all r hr1
        have hp : 2 ^ r < 256 := Nat.pow_lt_pow_right (a := 2) (n := 8) (by omega) hr1
        obtain ⟨m, hm⟩ := Int.eq_ofNat_of_zero_le hxb.1
        rw [hy, ← hx, e2, hm, u8_xor_nat m (2 ^ r) (by omega) hp]
        simp
      have hflip : openE (S.set q y) = 3 := by rw [hy, HS.out]; exact open_flip HZB.out (by have := HN.out; omega) hr1
      have hS7b : ∀ b ∈ S.set q y, 0 ≤ b ∧ b ≤ 255 := fun b hb => by
        rcases List.mem_or_eq_of_mem_set hb with hb | rfl
        · exact HSB.out b hb
        · exact hyb
      have hown7 := (HO6.out.stored q (.int .u8 y)).1.drew
      rw [List.nil_append, ← List.map_set] at hown7
      have hT7 := has_of_own hown7 hS7b (by rw [List.length_set, HSL.out]; omega)
      have hb7 : Below w5.heap.size w5 (w6.setCell ⟨g6, q, none⟩ (.int .u8 y)).drew := (hb6.setCell hg6 _).drew
      have hB7 := hB5.trans (hb7.mono hB5.size)
      have HO2 := hid (open_any hT7 (HT.out.below hB7 (Nat.le_refl _)))
      rw [hflip] at HO2
      have HS7 := hid (HS5.out.below hb7)
      have HB7 := hid hB7
      clear hkk ht1 ht1b hkL cX cY hx hy hflip hS7b hown7 hT7 hb7 hB7 hyb hxb
      go_region
      obtain ⟨w7, hw7⟩ : ∃ w7, w7 = (w6.setCell ⟨g6, q, none⟩ (.int .u8 y)).drew := ⟨_, rfl⟩
      rw [← hw7] at HO2 HS7 HB7 ⊢
      clear hw7 rd fd hyx hq hr hq0 hq1 hr0 HO6
      obtain ⟨t2, ht2⟩ : ∃ t, less.tmod ((n : Int) + 4 + 1) = t := ⟨_, rfl⟩
      have ht2b : -((n : Int) + 4 + 1) ≤ t2 ∧ t2 ≤ (n : Int) + 4 + 1 := by
        have := tmod_le less (n + 4 + 1) (by omega)
        have e : ((n + 4 + 1 : Nat) : Int) = (n : Int) + 4 + 1 := by omega
        rw [e, ht2] at this
        omega
      go_upto_region 14 with (go_at_call 26; refine HO2.out.mono ?_; rintro e w8 ⟨v8, rfl, _, hb8⟩; clear HO2)
      obtain ⟨mm, hmm⟩ : ∃ mm : Nat, (t2 + ((n : Int) + 4) + 1) % ((n : Int) + 4 + 1) = (mm : Int) := ⟨((t2 + ((n : Int) + 4) + 1) % ((n : Int) + 4 + 1)).toNat, by have := Int.emod_nonneg (t2 + ((n : Int) + 4) + 1) (show ((n : Int) + 4 + 1) ≠ 0 by omega); omega⟩
      have hmL : mm ≤ n + 4 := by have := Int.emod_lt_of_pos (t2 + ((n : Int) + 4) + 1) (show (0 : Int) < (n : Int) + 4 + 1 by omega); omega
      rw [hmm]
      have hm0 : (0 : Int) ≤ (mm : Int) := by omega
      have hm1 : (mm : Int) ≤ (c2 : Int) := by omega
      have hB8 := HB7.out.trans (hb8.mono HB7.out.size)
      have HS8 := hid ((HS7.out.below hb8).head (hi := mm) (by rw [HSL.out]; exact hmL))
      have HO3 := hid (open_any HS8.out (HT.out.below hB8 (Nat.le_refl _)))
      obtain ⟨E, hE⟩ : ∃ E, E = openE (S.take mm) := ⟨_, rfl⟩
      obtain ⟨B, hB⟩ : ∃ B, B = openB (S.take mm) := ⟨_, rfl⟩
      obtain ⟨sB, hsB⟩ : ∃ s, s = strOfNums B := ⟨_, rfl⟩
      obtain ⟨sm, hsm⟩ : ∃ s, s = strOfNums (S.take mm) := ⟨_, rfl⟩
      have HRO := hid (fun wx : World => refOpen_any HS8.out.str wx)
      rw [← hE, ← hB] at HO3
      rw [← hsm, ← hE, ← hB, ← hsB] at HRO
      have HSB2 := hid hsB
      have HSM := hid hsm
      clear hmm ht2 ht2b hE hB hsB hsm
      go_wp2_with (first | (go_at_call 26; refine HO3.out.mono ?_; rintro e w9 ⟨v9, rfl, hh9, hb9⟩; clear HO3; have hB9 := hB8.trans (hb9.mono hB8.size); have c9 := (HS8.out.below hb9).conv; rw [← HSM.out] at c9; have HH9 := hid hh9; clear hh9) | (go_at_call 27; refine (HRO.out _).mono ?_; rintro e w10 ⟨rfl, hb10⟩; have hB10 := hB9.trans (hb10.mono hB9.size); have c10 := (HH9.out.below hb10).conv; rw [← HSB2.out] at c10) | (go_at_call 10; refine (awake_any _ (HT.out.below hB10 (Nat.le_refl _))).mono ?_; rintro e w11 ⟨rfl, hb11⟩))
      go_ret
      exact ⟨rfl, hB10.trans (hb11.mono hB10.size)⟩
end Go.Proofs.YtongdccpoefnlaaDoor
