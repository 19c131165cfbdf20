/-
  PackNumbers: the walk.
-/
import Derived.Test.YtongdccpoefnlaaDoorRefUvar
import Derived.Test.YtongdccpoefnlaaDoorBack
import Derived.Deep.RegionWith
import Derived.Deep.CutRange
namespace Go.Proofs.YtongdccpoefnlaaDoor
open Go.RowKit

set_option maxHeartbeats 800000 in
theorem packNumbers_walk (w : World) (x : Int) (hx0 : 0 ≤ x) (hx1 : x ≤ 18446744073709551615) (y : Int) (hy0 : -9223372036854775808 ≤ y) (hy1 : y ≤ 9223372036854775807) (v : Value) (zs : List Int) (h : Has w v zs) (hl : zs.length ≤ reachBytes) (ht : TabOk w) :
    Calls Tryd.prog 5 #[.int .u64 x, .int .i64 y, v] w fun e w' => e = .returned (.bool true) ∧ Below w.heap.size w w' := by
  have H := hid h
  have HT := hid ht
  clear h ht
  obtain ⟨sx, hsx⟩ : ∃ s, s = strOfNums (uv x) := ⟨_, rfl⟩
  obtain ⟨sy, hsy⟩ : ∃ s, s = strOfNums (uv (zig y)) := ⟨_, rfl⟩
  have HX := hid hsx
  have HY := hid hsy
  clear hsx hsy
  have hlx := uv_len x
  have hly := uv_len (zig y)
  go_enter Tryd.func5, Tryd.ntmps5
  go_upto_region 2 with (first | (go_at_call 13; refine (uvar_str x w hx0 hx1).mono ?_; rintro e w2 ⟨v2, rfl, hh2, hb2⟩; obtain ⟨b2, o2, c2, rfl⟩ := hh2.shape hlx.1) | (go_at_call 11; refine (int_str y w2 hy0 hy1).mono ?_; rintro e w3 ⟨v3, rfl, hh3, hb3⟩; obtain ⟨b3, o3, c3, rfl⟩ := hh3.shape hly.1; have HH2 := hid ((hh2.below hb3).below (Below.refl _ _).drew); have HH3 := hid (hh3.below (Below.refl _ _).drew); have hc2 := HH2.out.conv; have hc3 := HH3.out.conv; rw [← HX.out] at hc2; rw [← HY.out] at hc3; have hB3 := hb2.trans (hb3.mono hb2.size)))
  clear hh2 hh3
  go_cut [30] from 19 to 30 (fun c wx => c = .bool false ∧ Has wx (.slice (some ⟨b2, o2, none⟩) (uv x).length c2) (uv x) ∧ Has wx (.slice (some ⟨b3, o3, none⟩) (uv (zig y)).length c3) (uv (zig y)) ∧ Below w.heap.size w wx)
  case first =>
    go_region_with (first | (go_at_call 14; refine (refUvar_any x _ hx0 hx1).mono ?_; rintro e w4 ⟨rfl, hb4⟩; rw [← HX.out]; have hc2' := (HH2.out.below hb4).conv; have hc3' := (HH3.out.below hb4).conv; rw [← HX.out] at hc2'; rw [← HY.out] at hc3') | (go_at_call 15; refine (refInt_any y _ hy0 hy1).mono ?_; rintro e w5 ⟨rfl, hb5⟩; rw [← HY.out]; have hc3'' := ((HH3.out.below hb4).below hb5).conv; rw [← HY.out] at hc3''))
    all_goals
      go_wp2_with fail
      go_meet
      exact ⟨rfl, (HH2.out.below hb4).below hb5, (HH3.out.below hb4).below hb5, (hB3.drew.trans (hb4.mono hB3.size)).trans (hb5.mono (Nat.le_trans hB3.size hb4.size))⟩
  case rest =>
    obtain ⟨rfl, hA5', hY5', hB5⟩ := hcut
    have hA5 := hid hA5'
    have hY5 := hid hY5'
    have H5 := hid (H.out.below hB5)
    have hz5 := hB5.size
    clear hb2 hb3 HH2 HH3 hB3 hA5' hY5' hc2 hc3
    have hux := uv_byte hx0 hx1
    have huy := uv_byte (zig_bounds hy0 hy1).1 (zig_bounds hy0 hy1).2
    have hz := H.out.byte
    have HUX := hid hux
    have HUY := hid huy
    have HZ := hid hz
    clear hux huy hz
    have hl' : zs.length + 20 ≤ 140737488355328 := by unfold reachBytes at hl; omega
    clear hl
    go_wp2_with (first | (at_builtin; refine wpList_append_has rfl (.tmp 32) (.tmp 33) rfl wc.heap.size (.slice (some ⟨wc.heap.size, 0, none⟩) 0 0) _ _ rfl (own_empty wc _ (Nat.le_refl _)) _ (uv x) rfl (hA5.out.below ((Below.refl _ _).alloc (Nat.le_refl _) _)) (by omega) (by simp) ?_; intro v6 w6 hown6 hgrow6; have hB6 : Below wc.heap.size wc w6 := ((Below.refl _ _).alloc (Nat.le_refl _) _).grown hgrow6 (by simp) (own_base (own_empty wc wc.heap.size (Nat.le_refl _)))) | (at_builtin; refine wpList_append_has rfl (.tmp 34) (.tmp 35) rfl wc.heap.size v6 _ _ rfl hown6 v zs rfl (H5.out.below hB6) (by omega) hB6.size ?_; intro v7 w7 hown7 hgrow7; have hB7 := hB6.grown hgrow7 hB6.size (own_base hown6); have H7 := hid (var_back (has_two hown7 HUX.out HZ.out (by omega)) hx0 hx1)) | (go_at_call 16; refine H7.out.mono ?_; rintro e w7' ⟨rfl, hw7⟩; subst hw7; clear hown6 hgrow6 hown7 hgrow7) | (at_builtin; refine wpList_append_has rfl (.tmp 42) (.tmp 43) rfl wc.heap.size (.slice (some ⟨w7'.heap.size, 0, none⟩) 0 0) _ _ rfl (own_empty w7' _ hB7.size) _ (uv (zig y)) rfl (hY5.out.below (hB7.alloc hB7.size _)) (by omega) (by have := hB7.size; simp; omega) ?_; intro v8 w8 hown8 hgrow8; have hB8 : Below wc.heap.size wc w8 := (hB7.alloc hB7.size _).grown hgrow8 (by have := hB7.size; simp; omega) (own_base (own_empty w7' wc.heap.size hB7.size))) | (at_builtin; refine wpList_append_has rfl (.tmp 44) (.tmp 45) rfl wc.heap.size v8 _ _ rfl hown8 v zs rfl (H5.out.below hB8) (by omega) hB8.size ?_; intro v9 w9 hown9 hgrow9; have hB9 := hB8.grown hgrow9 hB8.size (own_base hown8); have H9 := hid (intOf_back (has_two hown9 HUY.out HZ.out (by omega)) hy0 hy1)) | (go_at_call 12; refine H9.out.mono ?_; rintro e w9' ⟨rfl, hw9⟩; subst hw9; clear hown8 hgrow8 hown9 hgrow9) | (go_at_call 10; refine (awake_any _ (HT.out.below (hB5.trans (hB9.mono hB5.size)) (Nat.le_refl _))).mono ?_; rintro e w10 ⟨rfl, hb10⟩))
    go_ret
    exact ⟨rfl, (hB5.trans (hB9.mono hB5.size)).trans (hb10.mono (Nat.le_trans hB5.size hB9.size))⟩
end Go.Proofs.YtongdccpoefnlaaDoor
