/-
  What pack.appendUvar, pack.Uvar give, whatever the world: a new row of bytes, nothing old turned.
-/
import Derived.Test.YtongdccpoefnlaaDoorRows
import Derived.Test.YtongdccpoefnlaaDoorPlain
import Derived.WalkKit
import Derived.ProofKit
import Derived.Maps.AppendAt
namespace Go.Proofs.YtongdccpoefnlaaDoor
open Go.RowKit

theorem info5 : (Tryd.prog.info? 5).map (fun i => (i.zero, i.size, i.bytes)) = some (some (.int .u8 0), 1, 1) := by kernel_rfl

set_option maxHeartbeats 400000 in
theorem appendUvar_any (v : Value) (n : Nat) (xs : List Value) (X : Int) (w : World) (base : Nat) (h0 : 0 ≤ X) (h1 : X ≤ 18446744073709551615)
    (hown : w.ownsRow base 5 1 v n xs) (hb : base ≤ w.heap.size) (hn : n + 10 ≤ 140737488355328) :
    Calls Tryd.prog 28 #[v, .int .u64 X] w fun e w' => ∃ v', e = .returned v' ∧
      w'.ownsRow base 5 1 v' (n + (uv X).length) (xs ++ (uv X).map (Value.int .u8)) ∧ Below base w w' := by
  obtain ⟨i0, hi, hz0, hz1, hz2⟩ := info_parts info5
  go_enter Tryd.func28, Tryd.ntmps28
  go_wp2
  go_loopw [0, 1] (fun u k wr => ∃ (f : Nat) (K : Int) (done : List Int), 0 ≤ K ∧ K < 2 * 128 ^ f ∧ k = .int .u64 K ∧ done.length + f = 9 ∧ done ++ uvF f K = uv X ∧
      wr.ownsRow base 5 1 u (n + done.length) (xs ++ done.map (Value.int .u8)) ∧ Below base w wr) (fun _ k _ => (intOf k).toNat)
  case atStart => exact ⟨9, X, [], h0, room_start h1, rfl, rfl, rfl, by simpa using hown, Below.refl _ _⟩
  case round =>
    obtain ⟨f, K, done, hK0, hK1, rfl, hf, hdone, hownr, hbr⟩ := hrel
    have hsz := hbr.size
    have h7 := low7 K
    by_cases hlt : 128 ≤ K
    · obtain ⟨g, rfl, hg⟩ := room_step hlt hK1
      have hm := uvF_more g hlt
      have HM : Hid (uvF (g + 1) K = (K % 128 + 128) :: uvF g (K / 128)) := hm
      have HD : Hid (done ++ uvF (g + 1) K = uv X) := hdone
      clear hm hdone
      go_wp2_with (at_builtin; refine wpList_append_own _ rfl (.tmp 7) (.tmp 11) 22 rfl base 5 i0 (.int .u8 0) 1 1 Tryd.underlying22 hi hz0 hz1 hz2 rfl (by decide) _ _ _ rfl (hownr.alloc _) ⟨wr.heap.size, 0, none⟩ 1 1 [.int .u8 (K % 128 + 128)] rfl rfl (cell_one_new _ _ _) (by intro u hu; simp at hu; subst hu; rfl) (by unfold maxLen; omega) (by omega) (by simp; omega) ?_; intro v' w1 hown1 hgrow1 _)
      go_roundw
      case rel =>
        refine ⟨g, K / 128, done ++ [K % 128 + 128], by omega, hg, rfl, by simp; omega, ?_, ?_, ?_⟩
        · rw [← HD.out, HM.out]; simp
        · simpa [Nat.add_assoc] using hown1
        · exact (hbr.alloc (by omega) _).grown hgrow1 (by simp; omega) (own_base hownr)
      case measure => simp [intOf]; omega
    · have HD : Hid (done ++ [K] = uv X) := by rw [← hdone, uvF_small f (by omega)]; exact rfl
      clear hdone
      go_wp2_with (at_builtin; refine wpList_append_own _ rfl (.tmp 15) (.tmp 18) 22 rfl base 5 i0 (.int .u8 0) 1 1 Tryd.underlying22 hi hz0 hz1 hz2 rfl (by decide) _ _ _ rfl (hownr.alloc _) ⟨wr.heap.size, 0, none⟩ 1 1 [.int .u8 K] rfl rfl (cell_one_new _ _ _) (by intro u hu; simp at hu; subst hu; rfl) (by unfold maxLen; omega) (by omega) (by simp; omega) ?_; intro v' w1 hown1 hgrow1 _)
      go_ret
      refine ⟨_, rfl, ?_, ?_⟩
      · rw [← HD.out]; simpa [Nat.add_assoc] using hown1
      · exact (hbr.alloc (by omega) _).grown hgrow1 (by simp; omega) (own_base hownr)

theorem uvar_any (X : Int) (w : World) (h0 : 0 ≤ X) (h1 : X ≤ 18446744073709551615) :
    Calls Tryd.prog 13 #[.int .u64 X] w fun e w' => ∃ v', e = .returned v' ∧
      w'.ownsRow w.heap.size 5 1 v' (uv X).length ((uv X).map (Value.int .u8)) ∧ Below w.heap.size w w' := by
  obtain ⟨i0, hi, hz0, hz1, hz2⟩ := info_parts info5
  go_enter Tryd.func13, Tryd.ntmps13
  go_wp2_with (first | (at_make; refine wpList_make_own _ rfl _ _ 22 rfl w.heap.size 5 i0 (.int .u8 0) 1 Tryd.underlying22 hi hz0 hz1 _ _ _ 10 rfl rfl (by omega) (by rw [hz2]; omega) (by unfold maxLen; omega) (Nat.le_refl _) ?_; intro w1 hown1 hgrow1; have hb1 : Below w.heap.size w w1 := (Below.refl _ _).grown hgrow1 (Nat.le_refl _) (by intro k hk; cases hk)) | (go_at_call 28; refine (appendUvar_any _ _ _ _ _ w.heap.size h0 h1 hown1 hb1.size (by omega)).mono ?_; rintro e w2 ⟨v', rfl, hown2, hb2⟩))
  go_ret
  exact ⟨_, rfl, by simpa using hown2, hb1.trans hb2⟩
end Go.Proofs.YtongdccpoefnlaaDoor
