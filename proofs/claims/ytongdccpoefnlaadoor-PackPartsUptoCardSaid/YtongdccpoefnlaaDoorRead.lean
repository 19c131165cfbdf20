/-
  What pack.Int, pack.Var, pack.CRC give, whatever the world.
-/
import Derived.Test.YtongdccpoefnlaaDoorUvar
import Derived.Lib.LaidTab
namespace Go.Proofs.YtongdccpoefnlaaDoor
open Go.RowKit

theorem int_any (y : Int) (w : World) (h0 : -9223372036854775808 ≤ y) (h1 : y ≤ 9223372036854775807) :
    Calls Tryd.prog 11 #[.int .i64 y] w fun e w' => ∃ v', e = .returned v' ∧
      w'.ownsRow w.heap.size 5 1 v' (uv (zig y)).length ((uv (zig y)).map (Value.int .u8)) ∧ Below w.heap.size w w' := by
  have hz := zig_bits h0 h1
  have hb := zig_bounds h0 h1
  go_enter Tryd.func11, Tryd.ntmps11
  go_wp2_with (go_at_call 13; refine (uvar_any _ _ hb.1 hb.2).mono ?_; rintro e w2 ⟨v', rfl, hown2, hb2⟩)
  go_ret
  exact ⟨_, rfl, hown2, hb2⟩

theorem var_any (b off len cap : Nat) (zs : List Int) (w : World) (hz : zs.length = len) (hmax : len ≤ 9223372036854775807)
    (hc : ∀ j, j < len → w.cell? ⟨b, off + j, none⟩ = some (.int .u8 (zs.getD j 0)))
    (hr : ∀ j : Nat, 0 ≤ zs[j]?.getD 0 ∧ zs[j]?.getD 0 ≤ 255) :
    Calls Tryd.prog 16 #[.slice (some ⟨b, off, none⟩) len cap] w fun e w' =>
      e = .returned (.tuple #[.int .u64 (dec 0 0 zs).1, .int .i64 (dec 0 0 zs).2.1, .int .i64 (dec 0 0 zs).2.2]) ∧ w' = w := by
  go_enter Tryd.func16, Tryd.ntmps16
  go_wp2
  go_loop [2, 9] (fun x i => ∃ (k : Nat) (X : Int), k ≤ len ∧ k ≤ 9 ∧ i = .int .i64 k ∧ x = .int .u64 X ∧ 0 ≤ X ∧ X < 2 ^ (7 * k) ∧ dec 0 0 zs = dec X k (zs.drop k)) (fun _ i => len - (intOf i).toNat)
  case atStart => exact ⟨0, 0, by omega, by omega, rfl, rfl, by omega, by decide, rfl⟩
  case round =>
    obtain ⟨k, X, hk, hk9, rfl, rfl, hX0, hX1, hd⟩ := hrel
    by_cases hlt : k < len
    · obtain ⟨c, hcc⟩ : ∃ c, c = zs.getD k 0 := ⟨_, rfl⟩
      have hcell : w.cell? ⟨b, off + k, none⟩ = some (.int .u8 c) := hcc ▸ hc k hlt
      have hrk : 0 ≤ c ∧ c ≤ 255 := by have := hr k; rw [hcc]; simpa using this
      have hmask : bits .andNot .u8 c 128 = c % 128 := mask128 hrk.1 hrk.2
      have HD : Hid (dec 0 0 zs = dec X k (c :: zs.drop (k + 1))) := by rw [hd, drop_at hcc (by omega)]; exact rfl
      clear hd hc hr hcc
      by_cases hk9' : k = 9
      · subst hk9'
        rcases (show 1 < c ∨ c = 0 ∨ c = 1 by omega) with h | rfl | rfl
        · have hv : dec 0 0 zs = (0, 0, 5) := by rw [HD.out]; simp [dec, h]
          clear HD
          go_wp2
          go_ret3
          exact ⟨rfl, rfl⟩
        · have hv : dec 0 0 zs = (0, 0, 3) := by rw [HD.out]; simp [dec]
          clear HD
          go_wp2
          go_ret3
          exact ⟨rfl, rfl⟩
        · have hv : dec 0 0 zs = (X + 1 * 2 ^ 63, 10, 0) := by rw [HD.out]; simp [dec]
          have ho : bits .or .u64 X (1 * 2 ^ 63) = X + 1 * 2 ^ 63 := or_add hX0 hX1 (by omega) (by have : (2 : Int) ^ (7 * 9) = 9223372036854775808 := by decide
                                                                                                   omega)
          have HV : Hid (dec 0 0 zs = (bits .or .u64 X 9223372036854775808, 10, 0)) := by
            show _ = _
            rw [hv, ← ho]
            rfl
          clear HD hv ho
          go_wp2
          go_ret3
          refine ⟨?_, rfl⟩
          rw [HV.out]
          rfl
      · obtain ⟨ho, hn0, hn1⟩ := or_more (c := c) hX0 hX1 (show k ≤ 8 by omega)
        rcases (show 128 ≤ c ∨ (c = 0 ∧ 0 < k) ∨ (c = 0 ∧ k = 0) ∨ (0 < c ∧ c < 128) by omega) with h | ⟨rfl, h⟩ | ⟨rfl, rfl⟩ | ⟨h, h'⟩
        · have hv : dec 0 0 zs = dec (X + c % 128 * 2 ^ (7 * k)) (k + 1) (zs.drop (k + 1)) := by rw [HD.out]; simp [dec, h, hk9']
          have HV : Hid (dec 0 0 zs = dec (X + c % 128 * 2 ^ (7 * k)) (k + 1) (zs.drop (k + 1))) := hv
          clear HD hv
          go_wp2
          go_round
          case rel => exact ⟨k + 1, _, by omega, by omega, by go_num, rfl, hn0, hn1, HV.out⟩
          case measure => simp [intOf]; omega
        · have hv : dec 0 0 zs = (0, 0, 3) := by rw [HD.out]; simp [dec, h]
          clear HD
          go_wp2
          go_ret3
          exact ⟨rfl, rfl⟩
        · have hX : X = 0 := by simp at hX1; omega
          subst hX
          have hv : dec 0 0 zs = (0, 1, 0) := by rw [HD.out]; simp [dec]
          clear HD ho hn0 hn1 hX1 hX0 hk9'
          rw [Nat.add_zero] at hcell
          go_wp2
          go_ret3
          exact ⟨rfl, rfl⟩
        · have hv : dec 0 0 zs = (X + c % 128 * 2 ^ (7 * k), ((k + 1 : Nat) : Int), 0) := by
            rw [HD.out]
            have h1 : ¬ c = 0 := by omega
            have h2 : ¬ 128 ≤ c := by omega
            simp [dec, h1, h2, hk9']
          clear HD
          go_wp2
          go_ret3
          exact ⟨rfl, rfl⟩
    · have hv : dec 0 0 zs = (0, 0, 4) := by rw [hd, List.drop_eq_nil_of_le (by omega)]; rfl
      clear hd hc hr
      go_wp2
      go_ret3
      exact ⟨rfl, rfl⟩

theorem crc_any (b off len cap : Nat) (zs : List Int) (w : World) (hz : zs.length = len) (hmax : len ≤ 9223372036854775807)
    (hc : ∀ j, j < len → w.cell? ⟨b, off + j, none⟩ = some (.int .u8 (zs.getD j 0)))
    (hr : ∀ j : Nat, 0 ≤ zs[j]?.getD 0 ∧ zs[j]?.getD 0 ≤ 255)
    (ht : ∀ i, i < 16 → w.cell? ⟨0, i, none⟩ = some (.int .u32 (crcTab.getD i 0))) :
    Calls Tryd.prog 9 #[.slice (some ⟨b, off, none⟩) len cap] w fun e w' =>
      e = .returned (.int .u32 (crcL zs)) ∧ w' = w := by
  go_enter Tryd.func9, Tryd.ntmps9
  go_wp2
  go_loop [3, 8] (fun s i => ∃ (k : Nat), k ≤ len ∧ i = .int .i64 k ∧ s = .int .u32 (crcS (zs.take k))) (fun _ i => len - (intOf i).toNat)
  case atStart => exact ⟨0, by omega, rfl, rfl⟩
  case round =>
    obtain ⟨k, hk, rfl, rfl⟩ := hrel
    obtain ⟨S, hS⟩ : ∃ S, S = crcS (zs.take k) := ⟨_, rfl⟩
    rw [← hS]
    have HS : Hid (S = crcS (zs.take k)) := hS
    clear hS
    by_cases hlt : k < len
    · obtain ⟨c, hcc⟩ : ∃ c, c = zs.getD k 0 := ⟨_, rfl⟩
      have hcell : w.cell? ⟨b, off + k, none⟩ = some (.int .u8 c) := hcc ▸ hc k hlt
      have hrk : 0 ≤ c ∧ c ≤ 255 := by have := hr k; rw [hcc]; simpa using this
      have HC : Hid (c = zs.getD k 0) := hcc
      obtain ⟨T1, hT1⟩ : ∃ T, bits .xor .u32 S c = T := ⟨_, rfl⟩
      have b1 : 0 ≤ T1 ∧ T1 ≤ 4294967295 := hT1 ▸ xor32_bounds S c
      have a1 := and15 b1.1 b1.2
      obtain ⟨V1, hV1⟩ : ∃ V, V = crcTab.getD (T1 % 16).toNat 0 := ⟨_, rfl⟩
      have c1 : w.cell? ⟨0, (T1 % 16).toNat, none⟩ = some (.int .u32 V1) := hV1 ▸ ht _ (by omega)
      obtain ⟨T2, hT2⟩ : ∃ T, bits .xor .u32 (T1 / 16) V1 = T := ⟨_, rfl⟩
      have b2 : 0 ≤ T2 ∧ T2 ≤ 4294967295 := hT2 ▸ xor32_bounds _ _
      have a2 := and15 b2.1 b2.2
      obtain ⟨V2, hV2⟩ : ∃ V, V = crcTab.getD (T2 % 16).toNat 0 := ⟨_, rfl⟩
      have c2 : w.cell? ⟨0, (T2 % 16).toNat, none⟩ = some (.int .u32 V2) := hV2 ▸ ht _ (by omega)
      obtain ⟨T3, hT3⟩ : ∃ T, bits .xor .u32 (T2 / 16) V2 = T := ⟨_, rfl⟩
      have HT : Hid (T3 = crcStep S c) := by
        show T3 = crcHalf (crcHalf _)
        rw [hT1]; unfold crcHalf; rw [← hV1, hT2, ← hV2, hT3]
      clear hcc hV1 hV2 hc hr ht
      go_wp2
      go_round
      case rel => exact ⟨k + 1, by omega, by go_num, by rw [HT.out, HS.out, take_at HC.out (by omega)]; simp [crcS]⟩
      case measure => simp [intOf]; omega
    · clear hc hr ht
      have hv : crcS zs = S := by rw [HS.out, List.take_of_length_le (by omega)]
      go_wp2
      go_ret
      exact ⟨by first | rfl | (unfold crcL; rw [hv]; rfl), rfl⟩
end Go.Proofs.YtongdccpoefnlaaDoor
