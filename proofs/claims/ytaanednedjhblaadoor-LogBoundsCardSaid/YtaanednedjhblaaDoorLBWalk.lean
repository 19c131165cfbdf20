/-
  LogBounds: the walk.
-/
import Derived.Test.YtaanednedjhblaaDoorWAwake
namespace Go.Proofs.YtaanednedjhblaaDoor
open Go.RowKit

set_option maxRecDepth 100000 in
set_option maxHeartbeats 3200000 in
theorem lbounds_bad (w : World) (at_ sc : Int) (h0 : -9223372036854775808 ≤ at_) (h1 : at_ ≤ 9223372036854775807) (h2 : -9223372036854775808 ≤ sc) (h3 : sc ≤ 9223372036854775807) (hb : ¬ (16 ≤ sc ∧ sc ≤ 32768 ∧ 0 ≤ at_ ∧ at_ ≤ 100 - sc)) (ht : TabOk w) :
    Calls Tryd.prog 6 #[.int .i64 at_, .int .i64 sc] w fun e w' => e = .returned (.bool true) ∧ Below w.heap.size w w' := by
  have HT := hid ht
  have HNW := hid (new_any 100 w (by omega))
  have HBAD := hid hb
  have hfin : (16 ≤ sc ∧ sc ≤ 32768 ∧ 0 ≤ at_ ∧ at_ ≤ 100 ∧ sc ≤ 100 - at_) = False := eq_false (by omega)
  have HFN := hid hfin
  clear ht hb hfin
  go_enter Tryd.func6, Tryd.ntmps6
  go_wp2_with (first
    | (go_at_call 7; refine HNW.out.mono ?_; rintro e w1 ⟨B, rfl, hd1, hb1⟩; have HO := hid (lopen_bad (at' := at_) (sc := sc) hd1 HBAD.out); have HB1 := hid hb1; have HAW := hid (lawake_any w1 (HT.out.below hb1 (Nat.le_refl _))); clear HNW hd1 hb1)
    | (go_at_call 8; refine HO.out.mono ?_; rintro e w2 ⟨rfl, hw⟩; have hw' := hw.symm; clear hw; subst hw')
    | (go_at_call 15; refine HAW.out.mono ?_; rintro e w3 ⟨rfl, hb3⟩; have HB3 := hid (HB1.out.trans (hb3.mono HB1.out.size)); clear hb3))
  all_goals
    first
    | (go_ret; exact ⟨rfl, HB3.out⟩)
    | (rename_i hx; simp at hx; exfalso; have := HBAD.out; omega)
    | skip
set_option maxRecDepth 100000 in
set_option maxHeartbeats 3200000 in
theorem lbounds_good (w : World) (at_ sc : Int) (a s : Nat) (ha : at_ = a) (hs : sc = s) (hb : 16 ≤ s ∧ s ≤ 32768 ∧ a + s ≤ 100) (ht : TabOk w) :
    Calls Tryd.prog 6 #[.int .i64 at_, .int .i64 sc] w fun e w' => e = .returned (.bool true) ∧ Below w.heap.size w w' := by
  subst ha hs
  have hg := ht.lt
  have HT := hid ht
  have HNW := hid (new_any 100 w (by omega))
  obtain ⟨b1, b2, b3⟩ := hb
  have hsz : ((48 * (s - 8) : Nat) : Int) = 48 * ((s : Int) - 8) := by omega
  clear ht
  have hgen : ∀ (w2 : World) (L B : Nat), LogIs w2 w.heap.size L B 100 a s (Dk.new 100).flush Lg.fresh → Below w.heap.size w w2 →
      Calls Tryd.prog 23 #[.pointer (some ⟨L, 0, none⟩)] w2 (fun e w' => e = .returned (.int .i64 (48 * ((s : Int) - 8))) ∧ w' = w2) ∧
      Calls Tryd.prog 18 #[.pointer (some ⟨L, 0, none⟩)] w2 (fun e w' => e = .returned (.int .i64 (48 * ((s : Int) - 8))) ∧ ∃ q, w' = w2.drewN q) ∧
      Calls Tryd.prog 21 #[.pointer (some ⟨L, 0, none⟩)] w2 (fun e w' => e = .returned (.int .u64 1) ∧ w' = w2) ∧
      Calls Tryd.prog 20 #[.pointer (some ⟨L, 0, none⟩)] w2 (fun e w' => e = .returned (.int .u64 1) ∧ ∃ q, w' = w2.drewN q) ∧
      Calls Tryd.prog 12 #[.pointer (some ⟨L, 0, none⟩)] w2 (fun e w' => e = .returned (.int .u64 0) ∧ w' = w2) ∧
      Calls Tryd.prog 15 #[] w2 (fun e w' => e = .returned (.bool true) ∧ Below w.heap.size w w') := fun w2 L B hl hb2 => by
    refine ⟨?_, ?_, lfirst_any hl, ?_, lflushed_any hl, (lawake_any w2 (HT.out.below hb2 (Nat.le_refl _))).mono fun e w' ⟨he, hw'⟩ => ⟨he, hb2.trans (hw'.mono hb2.size)⟩⟩
    · have := lsize_any hl
      rwa [hsz] at this
    · have := lroom_any hl (by simp [Lg.fresh]) (by simp [Lg.fresh])
      rwa [show (48 * (s - 8) - (Lg.fresh.stop - Lg.fresh.start)) = 48 * (s - 8) by simp [Lg.fresh], hsz] at this
    · have := lnext_any hl
      rwa [show Lg.fresh.first + Lg.fresh.recs.length = 1 from rfl] at this
  have hall : ∀ (w2 : World) (L B : Nat), LogIs w2 w.heap.size L B 100 a s (Dk.new 100).flush Lg.fresh → Below w.heap.size w w2 → ∀ q, LogIs (w2.drewN q) w.heap.size L B 100 a s (Dk.new 100).flush Lg.fresh ∧ Below w.heap.size w (w2.drewN q) := fun w2 L B hl hb2 q => ⟨hl.below (below_drewN (Below.refl _ w2) q), below_drewN hb2 q⟩
  have HGN := hid hgen
  have HAL := hid hall
  clear hgen hall hsz
  go_enter Tryd.func6, Tryd.ntmps6
  go_wp2_with (first
    | (go_at_call 7; refine HNW.out.mono ?_; rintro e w1 ⟨B, rfl, hd1, hb1⟩; have HO := hid (lopen_new (at' := a) (sc := s) hd1 ⟨b1, b2, b3⟩ (HT.out.below hb1 (Nat.le_refl _)) hg); have HB1 := hid hb1; clear HNW hd1 hb1)
    | (go_at_call 8; refine HO.out.mono ?_; rintro e w2 ⟨L, rfl, hl2, hk2, hLs⟩; have HB2 := hid (HB1.out.trans hk2.below); have HL2 := hid hl2; have HG2 := hid (HGN.out w2 L B hl2 HB2.out); clear HO hl2 hk2 hLs)
    | (go_at_call 23; first
        | refine HG2.out.1.mono ?_
        | refine HG3.out.1.mono ?_
       rintro e w3 ⟨rfl, hw⟩; have hw' := hw.symm; clear hw; subst hw')
    | (go_at_call 18; refine HG2.out.2.1.mono ?_; rintro e w3 ⟨rfl, q, hw⟩; have HX3 := hid (HAL.out w2 L B HL2.out HB2.out q); have hw' := hw.symm; clear hw; subst hw'; have HG3 := hid (HGN.out _ L B HX3.out.1 HX3.out.2))
    | (go_at_call 21; refine HG3.out.2.2.1.mono ?_; rintro e w4 ⟨rfl, hw⟩; have hw' := hw.symm; clear hw; subst hw')
    | (go_at_call 20; refine HG3.out.2.2.2.1.mono ?_; rintro e w4 ⟨rfl, q2, hw⟩; have HX4 := hid (HAL.out w2 L B HL2.out HB2.out (q + q2)); have hw' := hw.symm; clear hw; subst hw'; have HG4 := hid (HGN.out _ L B HX4.out.1 HX4.out.2))
    | (go_at_call 12; refine HG4.out.2.2.2.2.1.mono ?_; rintro e w5 ⟨rfl, hw⟩; have hw' := hw.symm; clear hw; subst hw')
    | (go_at_call 15; refine HG4.out.2.2.2.2.2.mono ?_; rintro e w6 ⟨rfl, hb6⟩; have HB6 := hid hb6; clear hb6))
  all_goals
    first
    | (go_ret; exact ⟨rfl, HB6.out⟩)
    | (rename_i hx; simp at hx; exfalso; omega)
    | skip
theorem logBounds_walk (w : World) (at_ : Int) (h0 : -9223372036854775808 ≤ at_) (h1 : at_ ≤ 9223372036854775807) (sc : Int) (h2 : -9223372036854775808 ≤ sc) (h3 : sc ≤ 9223372036854775807) (ht : TabOk w) :
    Calls Tryd.prog 6 #[.int .i64 at_, .int .i64 sc] w fun e w' => e = .returned (.bool true) ∧ Below w.heap.size w w' := by
  by_cases hb : 16 ≤ sc ∧ sc ≤ 32768 ∧ 0 ≤ at_ ∧ at_ ≤ 100 - sc
  · exact lbounds_good w at_ sc at_.toNat sc.toNat (by omega) (by omega) (by omega) ht
  · exact lbounds_bad w at_ sc h0 h1 h2 h3 hb ht
end Go.Proofs.YtaanednedjhblaaDoor
