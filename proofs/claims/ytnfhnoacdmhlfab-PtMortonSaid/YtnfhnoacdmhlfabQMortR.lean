/-
  The document's Morton, FromMorton.
-/
import Derived.Test.YtnfhnoacdmhlfabQMortB
namespace Go.Proofs.Ytnfhnoacdmhlfab
open Go.RowKit Go.Sort

theorem u64_wrapN {n : Nat} (h : n < 18446744073709551616) : IntKind.u64.wrap (n : Int) = (n : Int) := IntWalk.u64_in _ ⟨by omega, by omega⟩
/-- One round of the document's Morton, in its parts. -/
theorem mo_step (X Y M k : Nat) (hk : k < 22) (hX : X < 18446744073709551616) (hY : Y < 18446744073709551616) (hM : M < 4 ^ k) : ∃ b c B C M1 : Nat,
    bits .and .u64 ((X : Int) / 2 ^ k) 1 = (b : Int) ∧ IntKind.u64.wrap ((b : Int) * 2 ^ (2 * k)) = (B : Int) ∧ bits .or .u64 (M : Int) (B : Int) = (M1 : Int) ∧
    bits .and .u64 ((Y : Int) / 2 ^ k) 1 = (c : Int) ∧ IntKind.u64.wrap ((c : Int) * 2 ^ (2 * k + 1)) = (C : Int) ∧ bits .or .u64 (M1 : Int) (C : Int) = ((M + X / 2 ^ k % 2 * 4 ^ k + 2 * (Y / 2 ^ k % 2 * 4 ^ k) : Nat) : Int) ∧
    0 ≤ (b : Int) ∧ (b : Int) ≤ 1 ∧ (c : Int) ≤ 1 := by
  have hp := pow4_le (Nat.le_of_lt hk)
  have e1 : (X : Int) / 2 ^ k = ((X / 2 ^ k : Nat) : Int) := by push_cast; rfl
  have e2 : (Y : Int) / 2 ^ k = ((Y / 2 ^ k : Nat) : Int) := by push_cast; rfl
  have h1 : X / 2 ^ k < 18446744073709551616 := Nat.lt_of_le_of_lt (Nat.div_le_self _ _) hX
  have h2 : Y / 2 ^ k < 18446744073709551616 := Nat.lt_of_le_of_lt (Nat.div_le_self _ _) hY
  have hb : X / 2 ^ k % 2 ≤ 1 := by omega
  have hc : Y / 2 ^ k % 2 ≤ 1 := by omega
  rw [e1, e2, u64_and1 h1, u64_and1 h2]
  generalize X / 2 ^ k % 2 = b at *
  generalize Y / 2 ^ k % 2 = c at *
  have hb2 := Nat.mul_le_mul_right (4 ^ k) hb
  have hc2 := Nat.mul_le_mul_right (4 ^ k) hc
  have f1 : (b : Int) * 2 ^ (2 * k) = ((b * 4 ^ k : Nat) : Int) := by rw [pow4]; push_cast; rfl
  have f2 : (c : Int) * 2 ^ (2 * k + 1) = ((2 * (c * 4 ^ k) : Nat) : Int) := by
    rw [show 2 * (c * 4 ^ k) = c * 2 ^ (2 * k + 1) by rw [Nat.pow_succ, ← pow4, Nat.mul_comm 2, Nat.mul_assoc]]; push_cast; rfl
  have g1 : M ||| b * 4 ^ k = M + b * 4 ^ k := by
    have h := hM
    rw [pow4] at h
    rw [Nat.or_comm, Nat.mul_comm b, pow4, ← Nat.two_pow_add_eq_or_of_lt h b, Nat.add_comm]
  have g2 : (M + b * 4 ^ k) ||| 2 * (c * 4 ^ k) = M + b * 4 ^ k + 2 * (c * 4 ^ k) := by
    have h : M + b * 4 ^ k < 2 ^ (2 * k + 1) := by rw [Nat.pow_succ, ← pow4]; omega
    have e : 2 * (c * 4 ^ k) = 2 ^ (2 * k + 1) * c := by rw [Nat.pow_succ, ← pow4, Nat.mul_comm c, ← Nat.mul_assoc, Nat.mul_comm 2]
    rw [Nat.or_comm, e, ← Nat.two_pow_add_eq_or_of_lt h c, Nat.add_comm]
  exact ⟨b, c, b * 4 ^ k, 2 * (c * 4 ^ k), M + b * 4 ^ k, rfl, by rw [f1, u64_wrapN (by omega)], by rw [u64_orN (by omega) (by omega), g1], rfl, by rw [f2, u64_wrapN (by omega)], by rw [u64_orN (by omega) (by omega), g2], by omega, by omega, by omega⟩
theorem mo_lt (X Y k : Nat) : ap X k + 2 * ap Y k < 4 ^ k := by have := ap_lt X k; have := ap_lt Y k; omega

theorem refMorton_any (px py : Int) (w : World) :
    Calls Try.prog 14 #[pv px py] w fun e w' => e = .returned (.int .u64 ((mort (up px) (up py) : Nat) : Int)) ∧ Below w.heap.size w w' := by
  obtain ⟨wA, hwA⟩ : ∃ wA, w.alloc (.cells #[.int .i64 px, .int .i64 py] 24) = wA := ⟨_, rfl⟩
  obtain ⟨hA, hBL, hszA⟩ := box1 hwA
  have HA := hid hA
  have HBL := hid hBL
  have a0 := hA.c0; have a1 := hA.c1
  have HH := hid (refClean_any px py wA)
  have b1 := near_lo px; have b2 := near_hi px; have b3 := near_lo py; have b4 := near_hi py
  have hX := up_is px
  have hY := up_is py
  have hXl := up_le px
  have hYl := up_le py
  have HR := hid (show mort (up px) (up py) = ap (up px) 22 + 2 * ap (up py) 22 from rfl)
  generalize mort (up px) (up py) = R at *
  generalize up px = X at *
  generalize up py = Y at *
  generalize near px = NX at *
  generalize near py = NY at *
  clear hA hBL
  go_enter Try.func14, Try.ntmps14
  go_wp2_with (go_at_call 15; refine HH.out.mono ?_; rintro e w1 ⟨rfl, hb1⟩; have e0 := (HA.out.below hb1 (by omega)).c0; have e1 := (HA.out.below hb1 (by omega)).c1; have e2 := (HA.out.below hb1 (by omega)).f0; have e3 := (HA.out.below hb1 (by omega)).f1; obtain ⟨W, hW⟩ : ∃ W, (w1.setCell ⟨w.heap.size, 0, none⟩ (.int .i64 NX)).setCell ⟨w.heap.size, 1, none⟩ (.int .i64 NY) = W := ⟨_, rfl⟩; have HPW := hid (show Pt W w.heap.size NX NY by rw [← hW]; exact (HA.out.below hb1 (by omega)).set _ _); have HBW := hid (show Below w.heap.size w W by rw [← hW]; exact below_set2 (HBL.out.trans (hb1.mono HBL.out.size)) (Nat.le_refl _)); clear hb1)
  have q0 := HPW.out.c0
  have q1 := HPW.out.c1
  go_quiet (fail)
  go_wp2
  go_loopw [5, 6] (fun m t wr => ∃ (k q : Nat), k ≤ 22 ∧ t = .int .i64 k ∧ m = .int .u64 ((ap X k + 2 * ap Y k : Nat) : Int) ∧ wr = W.drewN q) (fun _ t _ => 22 - (intOf t).toNat)
  case atStart => exact ⟨0, _, by omega, rfl, rfl, rfl⟩
  case round =>
    obtain ⟨k, q, hk, rfl, rfl, rfl⟩ := hrel
    by_cases hlt : k < 22
    · have hkI : (k : Int) < 22 := by omega
      obtain ⟨b, c, B, C, M1, f1, f2, f3, f4, f5, f6, f7, f8, f9⟩ := mo_step X Y (ap X k + 2 * ap Y k) k hlt (by omega) (by omega) (mo_lt X Y k)
      have hM' : ap X k + 2 * ap Y k + X / 2 ^ k % 2 * 4 ^ k + 2 * (Y / 2 ^ k % 2 * 4 ^ k) = ap X (k + 1) + 2 * ap Y (k + 1) := by simp only [ap]; omega
      rw [hM'] at f6
      obtain ⟨M', hM2⟩ : ∃ M', ap X (k + 1) + 2 * ap Y (k + 1) = M' := ⟨_, rfl⟩
      rw [hM2] at f6
      have HM := hid hM2
      generalize ap X k + 2 * ap Y k = M at *
      clear hM' hM2
      go_wp2
      go_quiet (fail)
      go_wp2
      go_roundw
      case rel => exact ⟨k + 1, _, by omega, by go_num, by rw [HM.out], rfl⟩
      case measure => simp [intOf]; omega
    · obtain rfl : k = 22 := by omega
      rw [← HR.out]
      go_wp2
      go_ret
      exact ⟨rfl, HBW.out.trans ⟨rfl, rfl, rfl, Nat.le_refl _, fun _ _ => rfl⟩⟩

theorem half_pow (m k : Nat) : m / 2 ^ (2 * k + 1) = m / 2 / 4 ^ k := by
  rw [Nat.pow_succ, Nat.mul_comm, ← Nat.div_div_eq_div_mul, pow4]

theorem refFromMorton_any (m : Nat) (w : World) (hm : m < 18446744073709551616) :
    Calls Try.prog 13 #[.int .u64 m] w fun e w' => e = .returned (fromV m) ∧ Below w.heap.size w w' := by
  obtain ⟨wA, hwA⟩ : ∃ wA, w.alloc (.cells #[.int .i64 0, .int .i64 0] 24) = wA := ⟨_, rfl⟩
  obtain ⟨wB, hwB⟩ : ∃ wB, wA.alloc (.cells #[.int .i64 ((tg m 22 : Nat) - 1048576), .int .i64 ((tg (m / 2) 22 : Nat) - 1048576)] 24) = wB := ⟨_, rfl⟩
  obtain ⟨hA, hB, hBL, hszB, hszA⟩ := box2 hwA hwB
  have HPA := hid hA
  have HPB := hid hB
  have HBL := hid hBL
  have HWB := hid hwB
  have a0 := hA.c0; have a1 := hA.c1; have a2 := hA.f0; have a3 := hA.f1; have b0 := hB.c0; have b1 := hB.c1
  have HK := hid (fun W => refOk_any ((tg m 22 : Nat) - 1048576) ((tg (m / 2) 22 : Nat) - 1048576) W)
  have h1 := tg22 m
  have h2 := tg22 (m / 2)
  have HV := hid (show fromV m = .tuple #[(if (decide (m < 17592186044416) && okP ((tg m 22 : Nat) - 1048576) ((tg (m / 2) 22 : Nat) - 1048576)) then pv ((tg m 22 : Nat) - 1048576) ((tg (m / 2) 22 : Nat) - 1048576) else pv 0 0), .bool (decide (m < 17592186044416) && okP ((tg m 22 : Nat) - 1048576) ((tg (m / 2) 22 : Nat) - 1048576))] from rfl)
  generalize fromV m = V at *
  obtain ⟨X, hX⟩ : ∃ X, tg m 22 = X := ⟨_, rfl⟩
  obtain ⟨Y, hY⟩ : ∃ Y, tg (m / 2) 22 = Y := ⟨_, rfl⟩
  have HX := hid hX
  have HY := hid hY
  rw [hX, hY] at HPB HWB HK HV
  rw [hX] at b0
  rw [hY] at b1
  rw [hX] at h1
  rw [hY] at h2
  obtain ⟨O, hO⟩ : ∃ O, okP ((X : Nat) - 1048576) ((Y : Nat) - 1048576) = O := ⟨_, rfl⟩
  rw [hO] at HK HV
  clear hA hB hBL hwB hX hY hO
  go_enter Try.func13, Try.ntmps13
  go_wp2
  go_loop [4, 5, 6] (fun x y t => ∃ (k : Nat), k ≤ 22 ∧ t = .int .i64 k ∧ x = .int .i64 ((tg m k : Nat) : Int) ∧ y = .int .i64 ((tg (m / 2) k : Nat) : Int)) (fun _ _ t => 22 - (intOf t).toNat)
  case atStart => exact ⟨0, by omega, rfl, rfl, rfl⟩
  case round =>
    obtain ⟨k, hk, rfl, rfl, rfl⟩ := hrel
    by_cases hlt : k < 22
    · have hkI : (k : Int) < 22 := by omega
      have hst := tg_step m (tg m k) k (2 * k) hlt hm (tg_lt m k)
      have hsu := tg_step m (tg (m / 2) k) k (2 * k + 1) hlt hm (tg_lt (m / 2) k)
      have hM' : tg m k + m / 2 ^ (2 * k) % 2 * 2 ^ k = tg m (k + 1) := by rw [← pow4]; rfl
      have hN' : tg (m / 2) k + m / 2 ^ (2 * k + 1) % 2 * 2 ^ k = tg (m / 2) (k + 1) := by rw [half_pow]; rfl
      rw [hM'] at hst
      rw [hN'] at hsu
      obtain ⟨M', hM2⟩ : ∃ M', tg m (k + 1) = M' := ⟨_, rfl⟩
      obtain ⟨N', hN2⟩ : ∃ M', tg (m / 2) (k + 1) = M' := ⟨_, rfl⟩
      rw [hM2, IntWalk.i64_left, IntWalk.i64_left] at hst
      rw [hN2, IntWalk.i64_left, IntWalk.i64_left] at hsu
      have HM := hid hM2
      have HN := hid hN2
      generalize tg m k = M at *
      generalize tg (m / 2) k = N at *
      clear hM' hM2 hN' hN2 HK HV HX HY HPA HPB HWB a0 a1 a2 a3 b0 b1
      go_wp2
      go_round
      case rel => exact ⟨k + 1, by omega, by go_num, by rw [HM.out], by rw [HN.out]⟩
      case measure => simp [intOf]; omega
    · obtain rfl : k = 22 := by omega
      rw [HX.out, HY.out]
      have hwB := HWB.out
      clear HX HY HWB
      by_cases hlt : m < 17592186044416
      · have hs : (m : Int) / 17592186044416 = 0 := by omega
        cases O with
        | true =>
          go_wp2_with (go_at_call 24; refine (HK.out _).mono ?_; rintro e w1 ⟨rfl, hb1⟩; have p0 := (HPA.out.below hb1 (by omega)).c0; have p1 := (HPA.out.below hb1 (by omega)).c1; have p2 := (HPA.out.below hb1 (by omega)).f0; have p3 := (HPA.out.below hb1 (by omega)).f1; have q0 := (HPB.out.below hb1 (by omega)).c0; have q1 := (HPB.out.below hb1 (by omega)).c1; have HB1 := hid (HBL.out.trans (hb1.mono HBL.out.size)); clear HK hb1)
          refine bodyPost_ret (v := .tuple #[pv ((X : Nat) - 1048576) ((Y : Nat) - 1048576), .bool true]) (by simp [results, Try.results13, go_sem, p0, p1]) rfl ⟨?_, ?_⟩
          · rw [HV.out, show decide (m < 17592186044416) = true by simp; omega]; rfl
          · exact below_set2 HB1.out (Nat.le_refl _)
        | false =>
          go_wp2_with (go_at_call 24; refine (HK.out _).mono ?_; rintro e w1 ⟨rfl, hb1⟩; have p0 := (HPA.out.below hb1 (by omega)).c0; have p1 := (HPA.out.below hb1 (by omega)).c1; have p2 := (HPA.out.below hb1 (by omega)).f0; have p3 := (HPA.out.below hb1 (by omega)).f1; have q0 := (HPB.out.below hb1 (by omega)).c0; have q1 := (HPB.out.below hb1 (by omega)).c1; have HB1 := hid (HBL.out.trans (hb1.mono HBL.out.size)); clear HK hb1)
          refine bodyPost_ret (v := .tuple #[pv 0 0, .bool false]) (by simp [results, Try.results13, go_sem, p0, p1]) rfl ⟨?_, ?_⟩
          · rw [HV.out, show decide (m < 17592186044416) = true by simp; omega]; rfl
          · exact below_set2 HB1.out (Nat.le_refl _)
      · have hs : ((m : Int) / 17592186044416 == 0) = false := by rw [beq_eq_false_iff_ne]; omega
        have hs' : ¬ ((m : Int) / 17592186044416 = 0) := by omega
        go_wp2
        refine bodyPost_ret (v := .tuple #[pv 0 0, .bool false]) (by simp [results, Try.results13, go_sem, a0, a1]) rfl ⟨?_, ?_⟩
        · rw [HV.out, show decide (m < 17592186044416) = false by simp; omega]; rfl
        · exact below_set2 HBL.out (Nat.le_refl _)
end Go.Proofs.Ytnfhnoacdmhlfab
