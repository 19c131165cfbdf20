/-
  PackOrders: the walk.
-/
import Derived.Test.YtongdccpoefnlabDoorAwake
namespace Go.Proofs.YtongdccpoefnlabDoor
open Go.RowKit

theorem Has.shape {w : World} {v : Value} {zs : List Int} (h : Has w v zs) (hz : 1 ≤ zs.length) : ∃ b off cap, v = .slice (some ⟨b, off, none⟩) zs.length cap := by
  rcases h.2.2 with ⟨a, cap, rfl, rfl⟩ | ⟨b, off, cap, rfl, _⟩
  · simp at hz
  · exact ⟨b, off, cap, rfl⟩

theorem strEq {x y : Int} (hx0 : 0 ≤ x) (hx1 : x ≤ 18446744073709551615) (hy0 : 0 ≤ y) (hy1 : y ≤ 18446744073709551615) {sx sy : ByteArray} (hx : sx = strOfNums (uv x)) (hy : sy = strOfNums (uv y)) :
    (sx.toList == sy.toList) = (x == y) := by
  rw [Bool.eq_iff_iff, beq_iff_eq, beq_iff_eq, ByteArray.toList_eq, ByteArray.toList_eq, hx, hy]
  constructor
  · intro h
    exact uvF_inj 9 x y hx0 hy0 (strOfNums_inj (uv_byte hx0 hx1) (uv_byte hy0 hy1) h)
  · rintro rfl
    rfl

set_option maxHeartbeats 400000 in
theorem orders_walk (x y : Int) (w : World) (hx0 : 0 ≤ x) (hx1 : x ≤ 18446744073709551615) (hy0 : 0 ≤ y) (hy1 : y ≤ 18446744073709551615) (ht : TabOk w) :
    Calls Tryd.prog 3 #[.int .u64 x, .int .u64 y] w fun e w' => e = .returned (.bool true) ∧ Below w.heap.size w w' := by
  have HT : Hid (TabOk w) := ht
  clear ht
  obtain ⟨sx, hsx⟩ : ∃ s, s = strOfNums (uv x) := ⟨_, rfl⟩
  obtain ⟨sy, hsy⟩ : ∃ s, s = strOfNums (uv y) := ⟨_, rfl⟩
  have hse := strEq hx0 hx1 hy0 hy1 hsx hsy
  have HX : Hid (sx = strOfNums (uv x)) := hsx
  have HY : Hid (sy = strOfNums (uv y)) := hsy
  clear hsx hsy
  have hlx := uv_len x
  have hly := uv_len y
  go_enter Tryd.func3, Tryd.ntmps3
  go_wp2
  go_loop [5, 6] (fun n k => ∃ (f nn : Nat) (K : Int), 0 ≤ K ∧ K < 2 * 128 ^ f ∧ k = .int .u64 K ∧ n = .int .i64 nn ∧ nn ≤ 10 ∧ nn + (uvF f K).length = (uv x).length + 1) (fun _ k => (intOf k).toNat)
  case atStart => exact ⟨9, 1, x, hx0, room_start hx1, rfl, rfl, by omega, by unfold uv; omega⟩
  case round =>
    obtain ⟨f, nn, K, hK0, hK1, rfl, rfl, hnn, hlen⟩ := hrel
    by_cases hlt : 128 ≤ K
    · obtain ⟨g, rfl, hg⟩ := room_step hlt hK1
      have hl1 := uvF_len g (K / 128)
      have HL : Hid (nn + 1 + (uvF g (K / 128)).length = (uv x).length + 1) := by
        rw [uvF_more g hlt] at hlen; simp at hlen; show _ = _; omega
      have hnn' : nn + 1 ≤ 10 := by have := HL.out; omega
      clear hlen
      go_wp2
      go_round
      case rel => exact ⟨g, nn + 1, K / 128, by omega, hg, rfl, by go_num, hnn', HL.out⟩
      case measure => simp [intOf]; omega
    · have hn : nn = (uv x).length := by rw [uvF_small f (by omega)] at hlen; simp at hlen; omega
      subst hn
      clear hlen
      go_wp2_with (first | (go_at_call 4; refine (uvar_str x w hx0 hx1).mono ?_; rintro e w2 ⟨v2, rfl, hh2, hb2⟩; obtain ⟨b2, o2, c2, rfl⟩ := hh2.shape hlx.1) | (go_at_call 4; refine (uvar_str y w2 hy0 hy1).mono ?_; rintro e w3 ⟨v3, rfl, hh3, hb3⟩; obtain ⟨b3, o3, c3, rfl⟩ := hh3.shape hly.1; have hc2 := (hh2.below hb3).conv; have hc3 := hh3.conv; rw [← HX.out] at hc2; rw [← HY.out] at hc3; have hB3 := hb2.trans (hb3.mono hb2.size)) | (go_at_call 5; refine (awake_any _ (HT.out.below hB3 (Nat.le_refl _))).mono ?_; rintro e w4 ⟨rfl, hb4⟩; have hB4 := hB3.trans (hb4.mono hB3.size)))
      go_ret
      exact ⟨rfl, hB4⟩
end Go.Proofs.YtongdccpoefnlabDoor
