/-
  What the document's own answers terrierref1.Uvar and terrierref1.Int give, whatever the world.
-/
import Derived.Test.YtongdccpoefnlaaDoorRef
namespace Go.Proofs.YtongdccpoefnlaaDoor
open Go.RowKit Go.PlainAid

theorem and127 {x : Int} (h0 : 0 ≤ x) (h1 : x ≤ 18446744073709551615) : bits .and .u64 x 127 = x % 128 := by
  rw [u64_and x 127 h0 (by omega) (by omega) (by omega)]
  have : x.toNat &&& (127 : Int).toNat = x.toNat % 128 := nat_mask7 _
  rw [this]; omega
theorem or128 {x : Int} : bits .or .u8 (x % 128) 128 = x % 128 + 128 := by
  have h1 : 0 ≤ x % 128 := by omega
  have h2 : x % 128 < 128 := by omega
  obtain ⟨n, hn⟩ := Int.eq_ofNat_of_zero_le h1
  rw [hn] at h2 ⊢
  have h4 : n < 128 := by omega
  clear hn h1 h2
  have : ∀ n : Nat, n < 128 → bits .or .u8 (n : Int) 128 = (n : Int) + 128 := by decide +kernel
  exact this n h4

/-- A slice of one byte, just laid, as a string. -/
theorem conv_one (w : World) (x : Int) : (convert 22 9 (.slice (some ⟨w.heap.size, 0, none⟩) 1 1)).run Tryd.prog (w.alloc (.cells #[.int .u8 x] 5)) = .ok (.string (strOfNums [x])) (w.alloc (.cells #[.int .u8 x] 5)) :=
  run_convert_bytes_arg _ 22 5 Tryd.underlying22 Tryd.underlying5 w.heap.size 0 1 1 [x] rfl (fun i hi => by
    obtain rfl : i = 0 := by omega
    have : (w.alloc (.cells #[.int .u8 x] 5)).heap[w.heap.size]? = some (.cells #[.int .u8 x] 5) := by
      show (w.heap.push _)[w.heap.size]? = _
      simp
    simp only [World.cell?, this]
    simp) 9 Tryd.underlying9
theorem strOfNums_append (a b : List Int) : strOfNums a ++ strOfNums b = strOfNums (a ++ b) := by
  apply Go.WideShapes.bytes_inj
  simp [strOfNums]

set_option maxHeartbeats 400000 in
theorem refUvar_any (X : Int) (w : World) (h0 : 0 ≤ X) (h1 : X ≤ 18446744073709551615) :
    Calls Tryd.prog 14 #[.int .u64 X] w fun e w' => e = .returned (.string (strOfNums (uv X))) ∧ Below w.heap.size w w' := by
  have hconv := conv_one
  go_enter Tryd.func14, Tryd.ntmps14
  go_wp2
  go_loopw [0, 3] (fun k u wr => ∃ (f : Nat) (K : Int) (done : List Int), 0 ≤ K ∧ K ≤ 18446744073709551615 ∧ K < 2 * 128 ^ f ∧ k = .int .u64 K ∧ done.length + f = 9 ∧ done ++ uvF f K = uv X ∧
      u = .string (strOfNums done) ∧ Below w.heap.size w wr) (fun k _ _ => (intOf k).toNat)
  case atStart => exact ⟨9, X, [], h0, h1, room_start h1, rfl, rfl, rfl, rfl, Below.refl _ _⟩
  case round =>
    obtain ⟨f, K, done, hK0, hK2, hK1, rfl, hf, hdone, rfl, hbr⟩ := hrel
    have hsz := hbr.size
    have h7 := and127 hK0 hK2
    have h8 := or128 (x := K)
    have hl : (strOfNums done).size = done.length := strOfNums_size done
    obtain ⟨sd, hsd⟩ : ∃ s, s = strOfNums done := ⟨_, rfl⟩
    rw [← hsd] at hl ⊢
    have HS := hid hsd
    clear hsd
    by_cases hlt : 128 ≤ K
    · obtain ⟨g, rfl, hg⟩ := room_step hlt hK1
      have HD : Hid (done ++ [K % 128 + 128] ++ uvF g (K / 128) = uv X) := by
        show _ = _
        rw [← hdone, uvF_more g hlt]
        simp
      clear hdone
      have h1s : (strOfNums [K % 128 + 128]).size = 1 := strOfNums_size _
      go_wp2
      go_roundw
      case rel =>
        refine ⟨g, K / 128, done ++ [K % 128 + 128], by omega, by omega, hg, rfl, by simp; omega, HD.out, ?_, hbr.alloc (by omega) _⟩
        rw [HS.out, strOfNums_append]
      case measure => simp [intOf]; omega
    · have HD : Hid (done ++ [K] = uv X) := by
        show _ = _
        rw [← hdone, uvF_small f (by omega)]
      clear hdone
      have h1s : (strOfNums [K]).size = 1 := strOfNums_size _
      go_wp2
      go_ret
      refine ⟨?_, hbr.alloc (by omega) _⟩
      rw [← HD.out, ← strOfNums_append, ← HS.out]
      rfl

theorem or_one {N : Int} (h0 : 0 ≤ N) (h1 : N * 2 + 1 ≤ 18446744073709551615) : bits .or .u64 (N * 2) 1 = N * 2 + 1 := by
  obtain ⟨n, rfl⟩ := Int.eq_ofNat_of_zero_le h0
  rw [u64_or ((n : Int) * 2) 1 (by omega) (by omega) (by omega) (by omega)]
  have e : ((n : Int) * 2).toNat = n * 2 := by omega
  rw [e, show ((1 : Int).toNat) = 1 from rfl, nat_join 1 (n * 2) 1 (by simp) (by decide)]
  push_cast
  rfl
theorem refInt_any (y : Int) (w : World) (h0 : -9223372036854775808 ≤ y) (h1 : y ≤ 9223372036854775807) :
    Calls Tryd.prog 15 #[.int .i64 y] w fun e w' => e = .returned (.string (strOfNums (uv (zig y)))) ∧ Below w.heap.size w w' := by
  have hb := zig_bounds h0 h1
  by_cases hy : y < 0
  · have ho : bits .or .u64 (-(y + 1) * 2) 1 = zig y := by
      rw [or_one (by omega) (by omega)]
      unfold zig; rw [if_pos hy]; omega
    have HC := hid (refUvar_any (zig y) w hb.1 hb.2)
    go_enter Tryd.func15, Tryd.ntmps15
    go_wp2_with (go_at_call 14; refine HC.out.mono ?_; rintro e w1 ⟨rfl, hb1⟩)
    go_ret
    exact ⟨rfl, hb1⟩
  · have hz : y * 2 = zig y := by unfold zig; rw [if_neg hy]; omega
    have HC := hid (refUvar_any (zig y) w hb.1 hb.2)
    go_enter Tryd.func15, Tryd.ntmps15
    go_wp2_with (go_at_call 14; refine HC.out.mono ?_; rintro e w1 ⟨rfl, hb1⟩)
    go_ret
    exact ⟨rfl, hb1⟩
end Go.Proofs.YtongdccpoefnlaaDoor
