/-
  The library's insertionSortCmpFunc over a row of places.
-/
import Derived.Test.YtkdnkmheidbfdaaGreatM8
import Derived.Test.YtkdnkmheidbfdaaGreatME
import Derived.Test.YtkdnkmheidbfdaaGreatMH
namespace Go.Proofs.YtkdnkmheidbfdaaGreat
open Go.RowKit Go.Sort

/-- The numbers rise from a to b. -/
def Rse (f : Nat → Nat) (a b : Nat) : Prop := ∀ i j, a ≤ i → i < j → j < b → f i < f j
theorem Mrg.step {c : Nat → Nat → Int} {f F H : Nat → Nat} {a i : Nat} (h1 : Mrg c f F a i) (h2 : Mrg c F H a (i + 1)) : Mrg c f H a (i + 1) := by
  refine ⟨fun k hk => by rw [h2.out k hk, h1.out k (by omega)], fun k k1 k2 => ?_, h2.srt⟩
  obtain ⟨t, t1, t2, e⟩ := h2.of k k1 k2
  by_cases ht : t < i
  · obtain ⟨u, u1, u2, e'⟩ := h1.of t t1 ht
    exact ⟨u, u1, by omega, by rw [e, e']⟩
  · exact ⟨t, t1, t2, by rw [e, h1.out t (by omega)]⟩
theorem rot_at {F : Nat → Nat} {i j : Nat} (h : j ≤ i) : rot F j i (i + 1) j = F i := by
  unfold rot
  rw [if_pos (by omega)]
  all_goals congr 1
  all_goals omega
theorem rot_lo {F : Nat → Nat} {i j t : Nat} (hj : j ≤ i) (h : t < j) : rot F j i (i + 1) t = F t := rot_out (by omega) hj t (.inl h)

set_option maxHeartbeats 3200000 in
set_option maxRecDepth 100000 in
theorem insertion_any (cv : Value) (c : Nat → Nat → Int) (base g n cap a b : Nat) (f : Nat → Nat) (w : World) (hc : OrdC c) (hcmp : CmpC cv c base n w) (hr : PRow w base g n cap f) (hv : ∀ k, k < n → f k < n) (hab : a ≤ b) (hb : b ≤ n) (hn : n ≤ 1000000) (hs : Rse f a b) :
    Calls Tryz.prog 222 #[.slice (some ⟨g, 0, none⟩) n cap, .int .i64 (a : Nat), .int .i64 (b : Nat), (.func (.func 189) #[] #[cv])] w fun e w' => e = .returned (.tuple #[]) ∧ (∃ f', PRow w' base g n cap f' ∧ Mrg c f f' a b) ∧ Below base w w' := by
  have HR := hid hr
  have HC := hid hcmp
  have HO := hid hc
  have HV := hid hv
  have HS := hid hs
  clear hr hcmp hv hs hc
  go_enter Tryz.func222, Tryz.ntmps222
  go_wp2
  go_loopw [8, 9] (fun iv _ wr => ∃ (i : Nat) (F : Nat → Nat), a < i ∧ i ≤ b + 1 ∧ iv = .int .i64 i ∧ PRow wr base g n cap F ∧ Mrg c f F a (min i b) ∧ Below base w wr) (fun iv _ _ => b + 1 - (intOf iv).toNat)
  case atStart => exact ⟨a + 1, f, by omega, by omega, by go_num, HR.out, ⟨fun _ _ => rfl, fun k k1 k2 => ⟨k, k1, k2, rfl⟩, fun x y h1 h2 h3 => by omega⟩, Below.refl _ _⟩
  case round =>
    obtain ⟨i, F, hai, hib, rfl, hrow, hm, hbr⟩ := hrel
    have HB := hid hbr
    have HM := hid hm
    have HROW := hid hrow
    clear hbr hm HR
    by_cases hlt : i < b
    · have hltI : (i : Int) < (b : Int) := by omega
      have HM2 := hid (show Mrg c f F a i by have q := HM.out; rwa [show min i b = i by omega] at q)
      have HFV := hid (Mrg.val HM2.out (by omega) HV.out)
      have HLT := hid (show ∀ t, a ≤ t → t < i → F t < F i from fun t t1 t2 => by
        obtain ⟨u, u1, u2, e⟩ := HM2.out.of t t1 t2
        rw [e, HM2.out.out i (by omega)]
        exact HS.out u i u1 u2 hlt)
      clear hrow HM
      go_wp2
      go_loopw [9] (fun jv wq => ∃ j : Nat, a ≤ j ∧ j ≤ i ∧ jv = .int .i64 j ∧ PRow wq base g n cap (rot F j i (i + 1)) ∧ (j < i → Ahd c (F i) (F j)) ∧ Below base w wq) (fun jv _ => (intOf jv).toNat)
      case atStart => exact ⟨i, by omega, Nat.le_refl _, rfl, by rw [rot_none_l]; exact HROW.out, fun h => absurd h (Nat.lt_irrefl _), HB.out⟩
      case round =>
        obtain ⟨j, haj, hji, rfl, hrow, hj, hb2⟩ := hrel
        have HB2 := hid hb2
        have HJ := hid hj
        clear hb2 hj HROW HB
        by_cases hja : a < j
        · have hjaI : (a : Int) < (j : Int) := by omega
          obtain ⟨t, ht⟩ : ∃ t, j = t + 1 := ⟨j - 1, by omega⟩
          have htI : (j : Int) - 1 = (t : Int) := by omega
          have hjn : (j : Int) < (n : Int) := by omega
          have htn : (t : Int) < (n : Int) := by omega
          have hjt : j ≠ t := by omega
          have hta : a ≤ t := by omega
          have hti : t < i := by omega
          have htj : t < j := by omega
          have HUP := hid (show sw2 (rot F j i (i + 1)) j t = rot F t i (i + 1) by rw [ht]; exact rot_down (by omega))
          have HT := hid (show j - 1 = t by omega)
          clear ht
          have c1 := hrow.cell (k := j) (by omega)
          have c2 := hrow.cell (k := t) (by omega)
          rw [rot_at hji] at c1
          rw [rot_lo hji htj] at c2
          have f1 := hrow.frz j
          have f2 := hrow.frz t
          have HROW2 := hid hrow
          have HCC := hid (fun W hW => HC.out W (HB2.out.trans hW) (F i) (F t) (HFV.out i (by omega)) (HFV.out t (by omega)))
          have HSW := hid (show ∀ W, PRow W base g n cap (rot F j i (i + 1)) → PRow ((W.setCell ⟨g, j, none⟩ (.int .i64 (F t : Nat))).setCell ⟨g, t, none⟩ (.int .i64 (F i : Nat))) base g n cap (rot F t i (i + 1)) from fun W hW => by
            have q := hW.sw hjt
            rw [rot_at hji, rot_lo hji htj, HUP.out] at q
            exact q)
          clear hrow
          obtain ⟨cc, hcv⟩ : ∃ cc, c (F i) (F t) = cc := ⟨_, rfl⟩
          rw [hcv] at HCC
          have HCV := hid hcv
          clear hcv
          obtain ⟨X, hX⟩ : ∃ X, ((F i : Nat) : Int) = X := ⟨_, rfl⟩
          obtain ⟨Y, hY⟩ : ∃ Y, ((F t : Nat) : Int) = Y := ⟨_, rfl⟩
          rw [hX] at c1 HCC HSW
          rw [hY] at c2 HCC HSW
          clear hX hY
          cases hcc : decide (cc < 0) with
          | true =>
            have HCN := hid (of_decide_eq_true hcc)
            go_wp2
            have k1 := cell_regrown c1; have k2 := cell_regrown c2
            have cq := fun d os => HCC.out (grow (redrawn wr d) os) ((below_regrown wr d os).mono (PRow.size HROW2.out))
            refine wp_region_quiet_below (by kernel_rfl) (by kernel_rfl) ?_
            go_big_quiet_step (fail)
            go_big_quiet_step (fail)
            go_big_quiet_step (fail)
            go_big_quiet_step (fail)
            go_big_quiet_step (fail)
            go_big_quiet_step (fail)
            go_big_quiet_step (fail)
            go_big_quiet_step (fail)
            go_big_quiet_step (fail)
            go_big_quiet_step (fail)
            go_big_quiet_step (fail)
            go_big_quiet_step (fail)
            go_big_quiet_step (fail)
            go_big_quiet_step (fail)
            go_big_quiet_step (exact Calls.regrown_of (cq _ _))
            go_big_quiet_step (fail)
            go_big_quiet_step (fail)
            refine wpQuiet_nil ?_
            intro W hW'
            obtain ⟨⟨dq, osq⟩, hW⟩ := hW'
            have hbW : Below wr.heap.size wr W := by rw [hW]; exact below_regrown _ _ _
            have HRW := hid (HROW2.out.below hbW)
            have HBW := hid (HB2.out.trans (hbW.mono (PRow.size HROW2.out)))
            have u1 := cell_below c1 hbW (lt_of_cell c1)
            have u2 := cell_below c2 hbW (lt_of_cell c2)
            have v1 := HRW.out.frz j
            have v2 := HRW.out.frz t
            clear hbW hW k1 k2 cq c1 c2 f1 f2
            go_wp2
            go_big_region
            all_goals go_wp2
            go_roundw
            case rel => exact ⟨t, hta, by omega, by go_num, (HSW.out _ HRW.out).drew, fun _ => ahd_lt (by rw [HCV.out]; exact HCN.out), (HBW.out.trans (HRW.out.sw_below _ _ _ _)).drew⟩
            case measure => simp [intOf]; omega
          | false =>
            have HCN := hid (of_decide_eq_false hcc)
            have HMG := hid (Mrg.step HM2.out (mrg_down HO.out (f := F) (a := a) (m := i) (i := j) HM2.out.srt haj hji (fun _ => by rw [HT.out]; exact ahd_of HO.out (HLT.out t hta hti) (by have q1 := HCN.out; have q2 := HCV.out; omega)) HJ.out))
            go_wp2
            have k1 := cell_regrown c1; have k2 := cell_regrown c2
            have cq := fun d os => HCC.out (grow (redrawn wr d) os) ((below_regrown wr d os).mono (PRow.size HROW2.out))
            refine wp_region_quiet_below (by kernel_rfl) (by kernel_rfl) ?_
            go_big_quiet_step (fail)
            go_big_quiet_step (fail)
            go_big_quiet_step (fail)
            go_big_quiet_step (fail)
            go_big_quiet_step (fail)
            go_big_quiet_step (fail)
            go_big_quiet_step (fail)
            go_big_quiet_step (fail)
            go_big_quiet_step (fail)
            go_big_quiet_step (fail)
            go_big_quiet_step (fail)
            go_big_quiet_step (fail)
            go_big_quiet_step (fail)
            go_big_quiet_step (fail)
            go_big_quiet_step (exact Calls.regrown_of (cq _ _))
            go_big_quiet_step (fail)
            go_big_quiet_step (fail)
            refine wpQuiet_nil ?_
            intro W hW'
            obtain ⟨⟨dq, osq⟩, hW⟩ := hW'
            have hbW : Below wr.heap.size wr W := by rw [hW]; exact below_regrown _ _ _
            have HRW := hid (HROW2.out.below hbW)
            have HBW := hid (HB2.out.trans (hbW.mono (PRow.size HROW2.out)))
            clear hbW hW k1 k2 cq c1 c2 f1 f2
            go_wp2
            go_roundw
            case rel => exact ⟨i + 1, _, by omega, by omega, by go_num, HRW.out, by rw [show min (i + 1) b = i + 1 by omega]; exact HMG.out, HBW.out⟩
            case measure => simp [intOf]; omega
        · have hja' : j = a := by omega
          have hjaI : ¬ (a : Int) < (j : Int) := by omega
          have HROW2 := hid hrow
          have HMG := hid (Mrg.step HM2.out (mrg_down HO.out (f := F) (a := a) (m := i) (i := j) HM2.out.srt haj hji (fun h => absurd h hja) HJ.out))
          clear hrow hja'
          generalize rot F j i (i + 1) = G at *
          go_wp2
          refine wp_region_quiet_below (by kernel_rfl) (by kernel_rfl) ?_
          go_big_quiet_step (fail)
          go_big_quiet_step (fail)
          go_big_quiet_step (fail)
          go_big_quiet_step (fail)
          go_big_quiet_step (fail)
          go_big_quiet_step (fail)
          go_big_quiet_step (fail)
          go_big_quiet_step (fail)
          go_big_quiet_step (fail)
          go_big_quiet_step (fail)
          go_big_quiet_step (fail)
          go_big_quiet_step (fail)
          go_big_quiet_step (fail)
          go_big_quiet_step (fail)
          go_big_quiet_step (fail)
          go_big_quiet_step (fail)
          go_big_quiet_step (fail)
          refine wpQuiet_nil ?_
          intro W hW'
          obtain ⟨⟨dq, osq⟩, hW⟩ := hW'
          have hbW : Below wr.heap.size wr W := by rw [hW]; exact below_regrown _ _ _
          have HRW := hid (HROW2.out.below hbW)
          have HBW := hid (HB2.out.trans (hbW.mono (PRow.size HROW2.out)))
          clear hbW hW
          go_wp2
          go_roundw
          case rel => exact ⟨i + 1, _, by omega, by omega, by go_num, HRW.out, by rw [show min (i + 1) b = i + 1 by omega]; exact HMG.out, HBW.out⟩
          case measure => simp [intOf]; omega
    · have hltI : ¬ (i : Int) < (b : Int) := by omega
      have HM2 := hid (show Mrg c f F a b by have q := HM.out; rwa [show min i b = b by omega] at q)
      clear hrow HM
      go_wp2
      go_end0
      exact ⟨rfl, ⟨_, HROW.out, HM2.out⟩, HB.out⟩
end Go.Proofs.YtkdnkmheidbfdaaGreat

namespace Go.Proofs.YtkdnkmheidbfdaaGreat
open Go.RowKit Go.Sort

/-- From x to y: these numbers, in order. -/
structure Blk (c : Nat → Nat → Int) (F : Nat → Nat) (x y : Nat) : Prop where
  val : ∀ k, x ≤ k → k < y → x ≤ F k ∧ F k < y
  srt : Srt c F x y
theorem Blk.of {c : Nat → Nat → Int} {f F : Nat → Nat} {x y : Nat} (h : Mrg c f F x y) (hv : ∀ k, x ≤ k → k < y → x ≤ f k ∧ f k < y) : Blk c F x y :=
  ⟨fun k k1 k2 => by obtain ⟨t, t1, t2, e⟩ := h.of k k1 k2; rw [e]; exact hv t t1 t2, h.srt⟩
theorem Blk.keep {c : Nat → Nat → Int} {f F : Nat → Nat} {x y u v : Nat} (h : Mrg c f F x y) (hb : Blk c f u v) (ho : v ≤ x ∨ y ≤ u) : Blk c F u v :=
  ⟨fun k k1 k2 => by rw [h.out k (by omega)]; exact hb.val k k1 k2, fun i j h1 h2 h3 => by rw [h.out i (by omega), h.out j (by omega)]; exact hb.srt i j h1 h2 h3⟩
theorem Blk.lss {c : Nat → Nat → Int} {F : Nat → Nat} {x m y : Nat} (h1 : Blk c F x m) (h2 : Blk c F m y) : Lss F x m y := fun i j g1 g2 g3 g4 => by
  have q1 := h1.val i g1 g2
  have q2 := h2.val j g3 g4
  omega
theorem Blk.both {c : Nat → Nat → Int} {f F : Nat → Nat} {x m y : Nat} (h1 : Blk c f x m) (h2 : Blk c f m y) (hx : x ≤ m) (hm : m ≤ y) (h : Mrg c f F x y) : Blk c F x y := Blk.of h fun k k1 k2 => by
  by_cases hk : k < m
  · have q := h1.val k k1 hk
    omega
  · have q := h2.val k (by omega) k2
    omega

set_option maxHeartbeats 6400000 in
set_option maxRecDepth 100000 in
theorem stable_any (cv : Value) (c : Nat → Nat → Int) (base g n cap : Nat) (w : World) (hc : OrdC c) (hcmp : CmpC cv c base n w) (hr : PRow w base g n cap fun k => k) (hn : n ≤ 60) :
    Calls Tryz.prog 215 #[.slice (some ⟨g, 0, none⟩) n cap, .int .i64 (n : Nat), (.func (.func 189) #[] #[cv])] w fun e w' => e = .returned (.tuple #[]) ∧ (∃ F, PRow w' base g n cap F ∧ Blk c F 0 n) ∧ Below base w w' := by
  have HR := hid hr
  have HC := hid hcmp
  have HO := hid hc
  clear hr hcmp hc
  go_enter Tryz.func215, Tryz.ntmps215
  go_wp2
  go_loopw [7, 8] (fun av bv wr => ∃ (q x y : Nat) (F : Nat → Nat), 20 * q = x ∧ x + 20 = y ∧ x ≤ n ∧ av = .int .i64 (x : Nat) ∧ bv = .int .i64 (y : Nat) ∧ PRow wr base g n cap F ∧ (∀ p, p < q → Blk c F (20 * p) (20 * p + 20)) ∧ (∀ k, x ≤ k → F k = k) ∧ (∀ k, k < n → F k < n) ∧ Below base w wr) (fun av _ _ => n - (intOf av).toNat)
  case atStart => exact ⟨0, 0, 20, fun k => k, rfl, rfl, by omega, rfl, rfl, HR.out, fun p hp => absurd hp (Nat.not_lt_zero _), fun _ _ => rfl, fun _ h => h, Below.refl _ _⟩
  case round =>
    obtain ⟨q, x, y, F, hx, hy, hq, rfl, rfl, hrow, hblk, hid', hval, hbr⟩ := hrel
    have HB := hid hbr
    have HROW := hid hrow
    have HBLK := hid hblk
    have HID := hid hid'
    have HVAL := hid hval
    clear hbr hrow hblk hid' hval HR
    by_cases hlt : y ≤ n
    · have hltI : (y : Int) ≤ (n : Int) := by omega
      have HIC := hid (insertion_any cv c base g n cap x y F wr HO.out (HC.out.on HB.out) HROW.out HVAL.out (by omega) hlt (by omega) (fun i j g1 g2 g3 => by rw [HID.out i g1, HID.out j (by omega)]; exact g2))
      have HXY := hid (show 20 * q = x ∧ y = x + 20 by omega)
      have hnx : n - y < n - x := by omega
      clear hx hy HROW
      go_wp2_with (go_at_call 222; refine HIC.out.mono ?_; rintro e w1 ⟨rfl, ⟨F1, hp1, hm1⟩, hb1⟩; have HP1 := hid hp1; have HM1 := hid hm1; have HB1 := hid (HB.out.trans hb1); clear hp1 hm1 hb1 HIC HB)
      go_roundw
      case rel =>
        obtain ⟨hx, hy⟩ := HXY.out
        refine ⟨q + 1, y, y + 20, F1, by omega, rfl, hlt, rfl, by go_num, HP1.out, fun p hp => ?_, fun k hk => ?_, Mrg.val HM1.out hlt HVAL.out, HB1.out⟩
        · by_cases hpq : p < q
          · exact Blk.keep HM1.out (HBLK.out p hpq) (.inl (by omega))
          · have e1 : 20 * p = x := by omega
            have e2 : 20 * p + 20 = y := by omega
            rw [e2, e1]
            exact Blk.of HM1.out fun k k1 k2 => by rw [HID.out k k1]; exact ⟨k1, k2⟩
        · rw [HM1.out.out k (.inr (by omega))]
          exact HID.out k (by omega)
      case measure => simp [intOf]; omega
    · have hltI : ¬ (y : Int) ≤ (n : Int) := by omega
      have HIC := hid (insertion_any cv c base g n cap x n F wr HO.out (HC.out.on HB.out) HROW.out HVAL.out (by omega) (Nat.le_refl _) (by omega) (fun i j g1 g2 g3 => by rw [HID.out i g1, HID.out j (by omega)]; exact g2))
      have HXY := hid (show 20 * q = x ∧ y = x + 20 by omega)
      clear hx hy HROW
      go_wp2_with (go_at_call 222; refine HIC.out.mono ?_; rintro e w1 ⟨rfl, ⟨F1, hp1, hm1⟩, hb1⟩; have HP1 := hid hp1; have HM1 := hid hm1; have HB1 := hid (HB.out.trans hb1); clear hp1 hm1 hb1 HIC HB)
      have HB20 := hid (show Blk c F1 0 (min 20 n) ∧ Blk c F1 20 (min 40 n) ∧ Blk c F1 40 n by
        obtain ⟨hx, hy⟩ := HXY.out
        have key : ∀ p, 20 * p ≤ x → Blk c F1 (20 * p) (min (20 * p + 20) n) := fun p hp => by
          by_cases hpq : p < q
          · rw [show min (20 * p + 20) n = 20 * p + 20 by omega]
            exact Blk.keep HM1.out (HBLK.out p hpq) (.inl (by omega))
          · rw [show min (20 * p + 20) n = n by omega, show 20 * p = x by omega]
            exact Blk.of HM1.out fun k k1 k2 => by rw [HID.out k k1]; exact ⟨k1, k2⟩
        have none : ∀ u v, v ≤ u → Blk c F1 u v := fun u v h => ⟨fun k k1 k2 => by omega, fun i j g1 g2 g3 => by omega⟩
        refine ⟨key 0 (by omega), ?_, ?_⟩
        · by_cases h : 20 ≤ x
          · exact key 1 h
          · exact none _ _ (by omega)
        · by_cases h : 40 ≤ x
          · have k2 := key 2 h
            rwa [show min (20 * 2 + 20) n = n by omega] at k2
          · exact none _ _ (by omega))
      clear HXY HBLK HID HVAL HM1
      go_loopw [6, 7, 8, 9] (fun sv _ _ _ wr => ∃ (bs : Nat) (F : Nat → Nat), sv = .int .i64 (bs : Nat) ∧ PRow wr base g n cap F ∧ ((bs = 20 ∧ Blk c F 0 (min 20 n) ∧ Blk c F 20 (min 40 n) ∧ Blk c F 40 n) ∨ (bs = 40 ∧ Blk c F 0 (min 40 n) ∧ Blk c F 40 n) ∨ (bs = 80 ∧ Blk c F 0 n)) ∧ (∀ k, k < n → F k < n) ∧ Below base w wr) (fun sv _ _ _ _ => 80 - (intOf sv).toNat)
      case atStart =>
        refine ⟨20, F1, rfl, HP1.out, .inl ⟨rfl, HB20.out⟩, fun k hk => ?_, HB1.out⟩
        by_cases h1 : k < 20
        · have := HB20.out.1.val k (by omega) (by omega)
          omega
        · by_cases h2 : k < 40
          · have := HB20.out.2.1.val k (by omega) (by omega)
            omega
          · have := HB20.out.2.2.val k (by omega) (by omega)
            omega
      case round =>
        obtain ⟨bs, F2, rfl, hrow, hcase, hval, hbr⟩ := hrel
        have HB := hid hbr
        have HROW := hid hrow
        have HVAL := hid hval
        clear hbr hrow hval HP1 HB1 HB20
        rcases hcase with ⟨rfl, h0, h1, h2⟩ | ⟨rfl, h0, h1⟩ | ⟨rfl, h0⟩
        · by_cases hlt2 : 20 < n
          · have hI : (20 : Int) < (n : Int) := by omega
            rw [show min 20 n = 20 by omega] at h0
            have H0 := hid h0
            have H1 := hid h1
            have H2 := hid h2
            clear h0 h1 h2
            by_cases h40 : 40 ≤ n
            · have h40I : (40 : Int) ≤ (n : Int) := by omega
              have h80I : ¬ (80 : Int) ≤ (n : Int) := by omega
              have h60I : ¬ (60 : Int) < (n : Int) := by omega
              have HB1' := hid (show Blk c F2 20 40 by have q := H1.out; rwa [show min 40 n = 40 by omega] at q)
              have HSC := hid (symMerge_any cv c base g n cap HO.out (by omega) 60 0 20 40 F2 wr (by omega) (by omega) (by omega) (by omega) (HC.out.on HB.out) HROW.out HVAL.out H0.out.srt HB1'.out.srt (H0.out.lss HB1'.out))
              clear H1
              go_wp2
              go_loopw [7, 8] (fun av bv wq => ∃ (z : Nat) (F3 : Nat → Nat), (z = 0 ∧ F3 = F2 ∧ wq = wr ∨ z = 1 ∧ Blk c F3 0 40 ∧ Blk c F3 40 n ∧ PRow wq base g n cap F3 ∧ Below base w wq ∧ ∀ k, k < n → F3 k < n) ∧ av = .int .i64 (40 * z : Nat) ∧ bv = .int .i64 (40 * z + 40 : Nat)) (fun av _ _ => 40 - (intOf av).toNat)
              case atStart => exact ⟨0, F2, .inl ⟨rfl, rfl, rfl⟩, rfl, rfl⟩
              case round =>
                obtain ⟨z, F3, hz, rfl, rfl⟩ := hrel
                rcases hz with ⟨rfl, rfl, rfl⟩ | ⟨rfl, h0, h1, hp3, hb3, hv3⟩
                · go_wp2_with (go_at_call 223; refine HSC.out.mono ?_; rintro e w2 ⟨rfl, ⟨F4, hp4, hm4⟩, hb4⟩; have HP4 := hid hp4; have HM4 := hid hm4; have HB4 := hid (HB.out.trans hb4); clear hp4 hm4 hb4 HSC)
                  go_roundw
                  case rel => exact ⟨1, F4, .inr ⟨rfl, Blk.both H0.out HB1'.out (by omega) (by omega) HM4.out, Blk.keep HM4.out H2.out (.inr (by omega)), HP4.out, HB4.out, Mrg.val HM4.out (by omega) HVAL.out⟩, rfl, rfl⟩
                  case measure => simp [intOf]
                · have H3 := hid h0
                  have H4 := hid h1
                  have HP3 := hid hp3
                  have HB3 := hid hb3
                  have HV3 := hid hv3
                  clear h0 h1 hp3 hb3 hv3 HSC HROW HB
                  go_wp2
                  go_roundw
                  case rel => exact ⟨40, F3, by go_num, HP3.out, .inr (.inl ⟨rfl, by rw [show min 40 n = 40 by omega]; exact H3.out, H4.out⟩), HV3.out, HB3.out⟩
                  case measure => simp [intOf]
            · have h40I : ¬ (40 : Int) ≤ (n : Int) := by omega
              have HB1' := hid (show Blk c F2 20 n by have q := H1.out; rwa [show min 40 n = n by omega] at q)
              have HSC := hid (symMerge_any cv c base g n cap HO.out (by omega) 60 0 20 n F2 wr (by omega) (by omega) (by omega) (by omega) (HC.out.on HB.out) HROW.out HVAL.out H0.out.srt HB1'.out.srt (H0.out.lss HB1'.out))
              clear H1
              go_wp2
              go_loopw [7, 8] (fun av bv wq => wq = wr ∧ av = .int .i64 (0 : Nat) ∧ bv = .int .i64 (40 : Nat)) (fun av _ _ => 40 - (intOf av).toNat)
              case atStart => exact ⟨rfl, rfl, rfl⟩
              case round =>
                obtain ⟨rfl, rfl, rfl⟩ := hrel
                go_wp2_with (go_at_call 223; refine HSC.out.mono ?_; rintro e w2 ⟨rfl, ⟨F4, hp4, hm4⟩, hb4⟩; have HP4 := hid hp4; have HM4 := hid hm4; have HB4 := hid (HB.out.trans hb4); clear hp4 hm4 hb4 HSC)
                go_roundw
                case rel => exact ⟨40, F4, by go_num, HP4.out, .inr (.inl ⟨rfl, by rw [show min 40 n = n by omega]; exact Blk.both H0.out HB1'.out (by omega) (by omega) HM4.out, ⟨fun k k1 k2 => by omega, fun i j g1 g2 g3 => by omega⟩⟩), Mrg.val HM4.out (by omega) HVAL.out, HB4.out⟩
                case measure => simp [intOf]
          · have hI : ¬ (20 : Int) < (n : Int) := by omega
            rw [show min 20 n = n by omega] at h0
            have H0 := hid h0
            clear h0 h1 h2
            go_wp2
            go_end0
            exact ⟨rfl, ⟨_, HROW.out, H0.out⟩, HB.out⟩
        · by_cases hlt2 : 40 < n
          · have hI : (40 : Int) < (n : Int) := by omega
            have h80I : ¬ (80 : Int) ≤ (n : Int) := by omega
            rw [show min 40 n = 40 by omega] at h0
            have H0 := hid h0
            have H1 := hid h1
            have HSC := hid (symMerge_any cv c base g n cap HO.out (by omega) 60 0 40 n F2 wr (by omega) (by omega) (by omega) (by omega) (HC.out.on HB.out) HROW.out HVAL.out H0.out.srt H1.out.srt (H0.out.lss H1.out))
            clear h0 h1
            go_wp2
            go_loopw [7, 8] (fun av bv wq => wq = wr ∧ av = .int .i64 (0 : Nat) ∧ bv = .int .i64 (80 : Nat)) (fun av _ _ => 40 - (intOf av).toNat)
            case atStart => exact ⟨rfl, rfl, rfl⟩
            case round =>
              obtain ⟨rfl, rfl, rfl⟩ := hrel
              go_wp2_with (go_at_call 223; refine HSC.out.mono ?_; rintro e w2 ⟨rfl, ⟨F4, hp4, hm4⟩, hb4⟩; have HP4 := hid hp4; have HM4 := hid hm4; have HB4 := hid (HB.out.trans hb4); clear hp4 hm4 hb4 HSC)
              go_roundw
              case rel => exact ⟨80, F4, by go_num, HP4.out, .inr (.inr ⟨rfl, Blk.both H0.out H1.out (by omega) (by omega) HM4.out⟩), Mrg.val HM4.out (by omega) HVAL.out, HB4.out⟩
              case measure => simp [intOf]
          · have hI : ¬ (40 : Int) < (n : Int) := by omega
            rw [show min 40 n = n by omega] at h0
            have H0 := hid h0
            clear h0 h1
            go_wp2
            go_end0
            exact ⟨rfl, ⟨_, HROW.out, H0.out⟩, HB.out⟩
        · have hI : ¬ (80 : Int) < (n : Int) := by omega
          have H0 := hid h0
          clear h0
          go_wp2
          go_end0
          exact ⟨rfl, ⟨_, HROW.out, H0.out⟩, HB.out⟩

theorem sortStable_any (cv : Value) (c : Nat → Nat → Int) (base g n cap : Nat) (w : World) (hc : OrdC c) (hcmp : CmpC cv c base n w) (hr : PRow w base g n cap fun k => k) (hn : n ≤ 60) :
    Calls Tryz.prog 200 #[.slice (some ⟨g, 0, none⟩) n cap, (.func (.func 189) #[] #[cv])] w fun e w' => e = .returned (.tuple #[]) ∧ (∃ F, PRow w' base g n cap F ∧ Blk c F 0 n) ∧ Below base w w' := by
  have HC := hid (stable_any cv c base g n cap w hc hcmp hr hn)
  clear hr hcmp hc
  go_enter Tryz.func200, Tryz.ntmps200
  go_wp2_with (go_at_call 215; refine HC.out.mono ?_; rintro e w1 ⟨rfl, ⟨F1, hp1, hm1⟩, hb1⟩; have HP1 := hid hp1; have HM1 := hid hm1; have HB1 := hid hb1; clear hp1 hm1 hb1 HC)
  go_end0
  exact ⟨rfl, ⟨_, HP1.out, HM1.out⟩, HB1.out⟩
end Go.Proofs.YtkdnkmheidbfdaaGreat

namespace Go.Proofs.YtkdnkmheidbfdaaGreat

/-- As many places as numbers, none twice: each number is there. -/
theorem hits : ∀ (n : Nat) (F : Nat → Nat), (∀ i, i < n → F i < n) → (∀ i j, i < n → j < n → F i = F j → i = j) → ∀ y, y < n → ∃ i, i < n ∧ F i = y
  | 0, _, _, _, y, hy => by omega
  | n + 1, F, hv, hinj, y, hy => by
    by_cases hz : F n = y
    · exact ⟨n, by omega, hz⟩
    · have key : ∀ i, i < n → F i ≠ F n := fun i hi e => by
        have := hinj i n (by omega) (by omega) e
        omega
      obtain ⟨G, hG⟩ : ∃ G : Nat → Nat, G = fun i => if F i = n then F n else F i := ⟨_, rfl⟩
      have hn := hv n (by omega)
      have ih := hits n G (fun i hi => by
        have h1 := hv i (by omega)
        have h2 := key i hi
        rw [hG]
        dsimp only
        split <;> omega) (fun i j hi hj e => by
        have h1 := key i hi
        have h2 := key j hj
        have h3 := hinj i j (by omega) (by omega)
        rw [hG] at e
        dsimp only at e
        split at e <;> split at e <;> first | (exact h3 (by omega)) | omega)
      by_cases hyn : y = n
      · subst hyn
        obtain ⟨i, hi, e⟩ := ih (F y) (by omega)
        have h1 := key i hi
        refine ⟨i, by omega, ?_⟩
        rw [hG] at e
        dsimp only at e
        split at e
        · assumption
        · exact absurd e h1
      · obtain ⟨i, hi, e⟩ := ih y (by omega)
        refine ⟨i, by omega, ?_⟩
        rw [hG] at e
        dsimp only at e
        split at e
        · exact absurd e hz
        · exact e
theorem Blk.inj {c : Nat → Nat → Int} (hc : OrdC c) {F : Nat → Nat} {n : Nat} (h : Blk c F 0 n) : ∀ i j, i < n → j < n → F i = F j → i = j := fun i j hi hj e => by
  rcases (show i < j ∨ i = j ∨ j < i by omega) with g | g | g
  · have := h.srt i j (by omega) g hj
    rw [e] at this
    exact (Ahd.irr hc this).elim
  · exact g
  · have := h.srt j i (by omega) g hi
    rw [e] at this
    exact (Ahd.irr hc this).elim
theorem blk_half {c : Nat → Nat → Int} (hc : OrdC c) {F G : Nat → Nat} {n k : Nat} (hF : Blk c F 0 n) (hG : Blk c G 0 n) (hk : k < n) (h : ∀ j, j < k → F j = G j) : ¬ Ahd c (F k) (G k) := fun ha => by
  obtain ⟨j, hj, e⟩ := hits n G (fun i hi => (hG.val i (by omega) hi).2) (hG.inj hc) (F k) (hF.val k (by omega) hk).2
  rcases (show j < k ∨ j = k ∨ k < j by omega) with g | g | g
  · have := hF.inj hc j k (by omega) hk (by rw [h j g, e])
    omega
  · subst g
    rw [e] at ha
    exact Ahd.irr hc ha
  · have h2 := hG.srt k j (by omega) g hj
    rw [e] at h2
    exact Ahd.irr hc (Ahd.trans hc ha h2)
theorem blk_one {c : Nat → Nat → Int} (hc : OrdC c) {F G : Nat → Nat} {n : Nat} (hF : Blk c F 0 n) (hG : Blk c G 0 n) : ∀ k, k < n → F k = G k := by
  intro k
  induction k using Nat.strongRecOn with
  | _ k ih =>
    intro hk
    have h1 := blk_half hc hF hG hk (fun j hj => ih j hj (by omega))
    have h2 := blk_half hc hG hF hk (fun j hj => (ih j hj (by omega)).symm)
    unfold Ahd at h1 h2
    have a1 := hc.anti (F k) (G k)
    omega

/-- The places compared by what lies there. -/
def cmpAt (ps : List Pp) (i k : Nat) : Int := cmpD (ps.getD i (0, 0)) (ps.getD k (0, 0))
theorem cmpAt_ord (ps : List Pp) : OrdC (cmpAt ps) := ⟨fun _i _k => cmpD_anti _ _, fun _i _j _k => cmpD_trans _ _ _⟩
theorem insP_is (l : List Pp) (out : List Nat) (i : Nat) : ∀ k, (∀ t, insP l out i k ≤ t → t < k → 0 < cmpAt l (out.getD t 0) i) ∧ (0 < insP l out i k → ¬ 0 < cmpAt l (out.getD (insP l out i k - 1) 0) i)
  | 0 => ⟨fun t _ h => absurd h (Nat.not_lt_zero _), fun h => absurd h (Nat.lt_irrefl 0)⟩
  | k + 1 => by
    have ih := insP_is l out i k
    by_cases h : 0 < cmpAt l (out.getD k 0) i
    · have e : insP l out i (k + 1) = insP l out i k := by
        show (if 0 < cmpAt l (out.getD k 0) i then insP l out i k else k + 1) = _
        rw [if_pos h]
      rw [e]
      refine ⟨fun t h1 h2 => ?_, ih.2⟩
      by_cases ht : t = k
      · rw [ht]; exact h
      · exact ih.1 t h1 (by omega)
    · have e : insP l out i (k + 1) = k + 1 := by
        show (if 0 < cmpAt l (out.getD k 0) i then insP l out i k else k + 1) = _
        rw [if_neg h]
      rw [e]
      exact ⟨fun t h1 h2 => by omega, fun _ => by rw [Nat.add_sub_cancel]; exact h⟩
theorem insD_at (l : List Pp) (out : List Nat) (i t : Nat) (_ht : t < out.length + 1) : (insD l out i).getD t 0 = if t < insP l out i out.length then out.getD t 0 else if t = insP l out i out.length then i else out.getD (t - 1) 0 := by
  have hp := insP_le l out i out.length
  unfold insD
  generalize insP l out i out.length = p at *
  have hl : (out.take p).length = p := by rw [List.length_take]; omega
  rw [List.getD_eq_getElem?_getD]
  by_cases h1 : t < p
  · rw [List.getElem?_append_left (by omega), List.getElem?_take, if_pos h1, if_pos h1, ← List.getD_eq_getElem?_getD]
  · rw [List.getElem?_append_right (by omega), hl, if_neg h1]
    by_cases h2 : t = p
    · rw [if_pos h2, h2, Nat.sub_self]
      rfl
    · rw [if_neg h2, show t - p = (t - p - 1) + 1 by omega, List.getElem?_cons_succ, List.getElem?_drop, show p + (t - p - 1) = t - 1 by omega, ← List.getD_eq_getElem?_getD]
/-- The document's order, as a map. -/
def srtF (l : List Pp) (k t : Nat) : Nat := if t < k then (sortN l k).getD t 0 else t
theorem srtF_lt (l : List Pp) (k t : Nat) (h : t < k) : srtF l k t < k := by
  unfold srtF
  rw [if_pos h]
  have hl := sortN_len l k
  rw [List.getD_eq_getElem?_getD, List.getElem?_eq_getElem (by omega)]
  exact sortN_lt l k _ (List.getElem_mem _)
theorem srtF_blk (l : List Pp) : ∀ k, Srt (cmpAt l) (srtF l k) 0 k
  | 0 => fun i j _ h1 h2 => by omega
  | k + 1 => by
    have ih := srtF_blk l k
    have hl := sortN_len l k
    have hle := insP_le l (sortN l k) k k
    obtain ⟨g1, g2⟩ := insP_is l (sortN l k) k k
    have hk : srtF l k k = k := by unfold srtF; rw [if_neg (by omega)]
    have hat : ∀ t, t < k → (sortN l k).getD t 0 = srtF l k t := fun t ht => by unfold srtF; rw [if_pos ht]
    have hm := mrg_down (cmpAt_ord l) (f := srtF l k) (a := 0) (m := k) (i := insP l (sortN l k) k k) ih (Nat.zero_le _) hle (fun h => by
      have h2 := g2 h
      rw [hat _ (by omega)] at h2
      rw [hk]
      have h3 := srtF_lt l k (insP l (sortN l k) k k - 1) (by omega)
      have h4 := (cmpAt_ord l).anti (srtF l k (insP l (sortN l k) k k - 1)) k
      exact ahd_of (cmpAt_ord l) h3 (by omega)) (fun h => by
      have h2 := g1 _ (Nat.le_refl _) h
      rw [hat _ h] at h2
      rw [hk]
      have h4 := (cmpAt_ord l).anti (srtF l k (insP l (sortN l k) k k)) k
      exact ahd_lt (by omega))
    have e : ∀ t, t < k + 1 → srtF l (k + 1) t = rot (srtF l k) (insP l (sortN l k) k k) k (k + 1) t := fun t ht => by
      have h1 := insD_at l (sortN l k) k t (by omega)
      rw [hl] at h1
      have e0 : srtF l (k + 1) t = (sortN l (k + 1)).getD t 0 := by unfold srtF; rw [if_pos ht]
      rw [e0, sortN_succ, h1]
      clear e0 h1 hm
      generalize insP l (sortN l k) k k = p at *
      unfold rot
      by_cases t1 : t < p
      · rw [if_pos t1, if_neg (by omega), if_neg (by omega)]
        exact hat t (by omega)
      · rw [if_neg t1]
        by_cases t2 : t = p
        · rw [if_pos t2, if_pos (by omega), show t + (k - p) = k by omega, hk]
        · rw [if_neg t2, if_neg (by omega), if_pos (by omega), show t - (k + 1 - k) = t - 1 by omega]
          exact hat _ (by omega)
    intro i j h1 h2 h3
    rw [e i (by omega), e j h3]
    exact hm.srt i j h1 h2 h3
theorem sort_one {ps : List Pp} {F : Nat → Nat} (h : Blk (cmpAt ps) F 0 ps.length) : rowF F ps.length = natsI (sortD ps) := by
  have hG : Blk (cmpAt ps) (srtF ps ps.length) 0 ps.length := ⟨fun k _ h2 => ⟨Nat.zero_le _, srtF_lt ps _ k h2⟩, srtF_blk ps ps.length⟩
  have hu := blk_one (cmpAt_ord ps) h hG
  have hl := sortN_len ps ps.length
  have hs : sortD ps = sortN ps ps.length := rfl
  rw [hs]
  refine List.ext_getElem? fun k => ?_
  by_cases hk : k < ps.length
  · rw [rowF_at _ hk, hu k hk]
    have : (sortN ps ps.length)[k]? = some ((sortN ps ps.length).getD k 0) := by rw [List.getD_eq_getElem?_getD, List.getElem?_eq_getElem (by omega)]; rfl
    rw [natsI_at this]
    unfold srtF
    rw [if_pos hk]
  · rw [List.getElem?_eq_none (by rw [rowF_len]; omega), List.getElem?_eq_none (by rw [natsI_length]; omega)]
end Go.Proofs.YtkdnkmheidbfdaaGreat

namespace Go.Proofs.YtkdnkmheidbfdaaGreat

abbrev ld0 : LdT := (0, 0, 0, 0)
/-- In Round's order: by the direction, of like ones by the way. -/
def befL (a b : LdT) : Prop := cmpD a.2.2 b.2.2 < 0 ∨ (cmpD a.2.2 b.2.2 = 0 ∧ a.1 < b.1)
def leL (a b : LdT) : Bool := decide (cmpD a.2.2 b.2.2 < 0 ∨ (cmpD a.2.2 b.2.2 = 0 ∧ a.1 ≤ b.1))
theorem leL_trans (a b c : LdT) (h1 : leL a b = true) (h2 : leL b c = true) : leL a c = true := by
  unfold leL at *
  simp only [decide_eq_true_eq] at *
  have t1 := cmpD_trans a.2.2 b.2.2 c.2.2
  have t2 := cmpD_trans b.2.2 c.2.2 a.2.2
  have t3 := cmpD_trans c.2.2 a.2.2 b.2.2
  have a1 := cmpD_anti a.2.2 b.2.2
  have a2 := cmpD_anti b.2.2 c.2.2
  have a3 := cmpD_anti a.2.2 c.2.2
  omega
theorem leL_total (a b : LdT) : (leL a b || leL b a) = true := by
  unfold leL
  have a1 := cmpD_anti a.2.2 b.2.2
  simp only [Bool.or_eq_true, decide_eq_true_eq]
  omega
/-- By their ways. -/
def wayS (L : List LdT) : List LdT := L.mergeSort fun x y => decide (x.1 ≤ y.1)
/-- In Round's order, as the code finds it. -/
def ordL (L : List LdT) : List LdT := (sortD ((wayS L).map (·.2.2))).map fun i => (wayS L).getD i ld0
theorem wayS_perm (L : List LdT) : (wayS L).Perm L := List.mergeSort_perm _ _
theorem wayS_len (L : List LdT) : (wayS L).length = L.length := (wayS_perm L).length_eq
theorem wayS_rise (L : List LdT) (hn : (L.map (·.1)).Nodup) : (wayS L).Pairwise fun a b => a.1 < b.1 := by
  have h1 : (wayS L).Pairwise fun a b => decide (a.1 ≤ b.1) = true :=
    List.pairwise_mergeSort (le := fun x y : LdT => decide (x.1 ≤ y.1)) (fun a b c h1 h2 => by simp only [decide_eq_true_eq] at *; omega) (fun a b => by simp only [Bool.or_eq_true, decide_eq_true_eq]; omega) L
  have h2 : ((wayS L).map (·.1)).Nodup := ((wayS_perm L).map _).nodup_iff.2 hn
  rw [List.Nodup, List.pairwise_map] at h2
  refine (h1.and h2).imp fun {a b} h => ?_
  obtain ⟨h3, h4⟩ := h
  simp only [decide_eq_true_eq] at h3
  omega
theorem getD_map_dir (L : List LdT) (i : Nat) : (L.map (·.2.2)).getD i (0, 0) = (L.getD i ld0).2.2 := by
  rw [List.getD_eq_getElem?_getD, List.getD_eq_getElem?_getD, List.getElem?_map]
  cases L[i]? <;> rfl
theorem ordL_eq {L G : List LdT} (hp : G.Perm L) (hs : G.Pairwise befL) (hn : (L.map (·.1)).Nodup) : ordL L = G := by
  have hr := wayS_rise L hn
  have hpW : G.Perm (wayS L) := hp.trans (wayS_perm L).symm
  unfold ordL
  generalize wayS L = M at hr hpW ⊢
  obtain ⟨n, hM⟩ : ∃ n, M.length = n := ⟨_, rfl⟩
  have hG : G.length = n := by rw [← hM]; exact hpW.length_eq
  obtain ⟨F, hF⟩ : ∃ F : Nat → Nat, F = fun k => M.idxOf (G.getD k ld0) := ⟨_, rfl⟩
  have hmem : ∀ k, k < n → G.getD k ld0 ∈ M := fun k hk => by
    rw [List.getD_eq_getElem?_getD, List.getElem?_eq_getElem (by omega)]
    exact hpW.mem_iff.1 (List.getElem_mem _)
  have hFn : ∀ k, k < n → F k < n := fun k hk => by
    rw [hF, ← hM]
    exact List.idxOf_lt_length_of_mem (hmem k hk)
  have hFe : ∀ k, k < n → M.getD (F k) ld0 = G.getD k ld0 := fun k hk => by
    have hl := hFn k hk
    rw [List.getD_eq_getElem?_getD, List.getElem?_eq_getElem (by omega)]
    simp only [Option.getD_some]
    subst hF
    exact List.getElem_idxOf _
  have hblk : Blk (cmpAt (M.map (·.2.2))) F 0 n := ⟨fun k _ hk => ⟨Nat.zero_le _, hFn k hk⟩, fun i j _ hij hj => by
    have h1 : befL (G.getD i ld0) (G.getD j ld0) := by
      rw [List.getD_eq_getElem?_getD, List.getD_eq_getElem?_getD, List.getElem?_eq_getElem (show i < G.length by omega), List.getElem?_eq_getElem (show j < G.length by omega)]
      exact List.pairwise_iff_getElem.1 hs i j (by omega) (by omega) hij
    unfold Ahd cmpAt
    rw [getD_map_dir, getD_map_dir, hFe i (by omega), hFe j hj]
    rcases h1 with h1 | ⟨h1, h2⟩
    · exact .inl h1
    · refine .inr ⟨h1, ?_⟩
      have hi := hFn i (by omega)
      have hjj := hFn j hj
      refine Classical.byContradiction fun hx => ?_
      rcases (show F j = F i ∨ F j < F i by omega) with e | e
      · rw [← hFe i (by omega), ← hFe j hj, e] at h2
        omega
      · have h3 := List.pairwise_iff_getElem.1 hr (F j) (F i) (by omega) (by omega) e
        have e1 := hFe i (by omega)
        have e2 := hFe j hj
        rw [List.getD_eq_getElem?_getD, List.getElem?_eq_getElem (show F i < M.length by omega)] at e1
        rw [List.getD_eq_getElem?_getD, List.getElem?_eq_getElem (show F j < M.length by omega)] at e2
        simp only [Option.getD_some] at e1 e2
        rw [e1, e2] at h3
        omega⟩
  have hso := sort_one (ps := M.map (·.2.2)) (F := F) (by rw [List.length_map, hM]; exact hblk)
  rw [List.length_map, hM] at hso
  have hsd : sortD (M.map (·.2.2)) = (List.range n).map F := by
    have inj : ∀ {a b : List Nat}, a.map (fun x : Nat => (x : Int)) = b.map (fun x : Nat => (x : Int)) → a = b := fun {a b} h => by
      have := congrArg (List.map Int.toNat) h
      simpa [List.map_map, Function.comp_def] using this
    refine inj ?_
    rw [List.map_map]
    exact hso.symm
  rw [hsd, List.map_map]
  refine List.ext_getElem? fun k => ?_
  rw [List.getElem?_map]
  by_cases hk : k < n
  · rw [List.getElem?_range hk, List.getElem?_eq_getElem (show k < G.length by omega)]
    simp only [Option.map_some, Function.comp_apply, Option.some.injEq]
    rw [hFe k hk, List.getD_eq_getElem?_getD, List.getElem?_eq_getElem (show k < G.length by omega)]
    rfl
  · rw [List.getElem?_eq_none (by rw [List.length_range]; omega), List.getElem?_eq_none (by omega)]
    rfl
theorem ordL_spec (L : List LdT) (hn : (L.map (·.1)).Nodup) : (ordL L).Perm L ∧ (ordL L).Pairwise befL := by
  have hp : (L.mergeSort leL).Perm L := List.mergeSort_perm _ _
  have h1 : (L.mergeSort leL).Pairwise fun a b => leL a b = true := List.pairwise_mergeSort leL_trans leL_total L
  have h2 : ((L.mergeSort leL).map (·.1)).Nodup := (hp.map _).nodup_iff.2 hn
  rw [List.Nodup, List.pairwise_map] at h2
  have h3 : (L.mergeSort leL).Pairwise befL := (h1.and h2).imp fun {a b} h => by
    obtain ⟨h3, h4⟩ := h
    unfold leL at h3
    unfold befL
    simp only [decide_eq_true_eq] at h3
    omega
  rw [ordL_eq hp h3 hn]
  exact ⟨hp, h3⟩
theorem ordL_len (L : List LdT) : (ordL L).length = L.length := by
  unfold ordL
  rw [List.length_map, sortD_length, List.length_map, wayS_len]
end Go.Proofs.YtkdnkmheidbfdaaGreat

namespace Go.Proofs.YtkdnkmheidbfdaaGreat
open Go.RowKit Go.Shelf Go.Sort

def cfL (x y : LdT) : Int := sgn (x.1 - y.1)
theorem ltL (x y : LdT) : ltOf cfL x y = decide (x.1 < y.1) := by
  unfold ltOf cfL sgn
  by_cases h1 : x.1 < y.1
  · simp [h1]
    split <;> (try split) <;> omega
  · simp [h1]
    split <;> (try split) <;> omega
theorem swoL : SWO (ltOf cfL) where
  irrefl x := by rw [ltL]; simp
  trans x y z h1 h2 := by rw [ltL] at *; simp at *; omega
  ntrans x y z h1 h2 := by rw [ltL] at *; simp at *; omega

theorem compareX (x y : Int) (w : World) : Calls Tryz.prog 102 #[.int .i64 x, .int .i64 y] w fun e w' => e = .returned (.int .i64 (sgn (x - y))) ∧ w' = w := by
  have HS := hid (sgn_is (x - y))
  generalize sgn (x - y) = S at *
  have HN := hid (fun (z : Int) (W : World) => (show Calls Tryz.prog 126 #[.int .i64 z] W fun e w' => e = .returned (.bool false) ∧ w' = W by
    go_enter Tryz.func126, Tryz.ntmps126
    go_wp2
    go_ret
    exact ⟨rfl, rfl⟩))
  rcases (show x < y ∨ (¬ x < y ∧ y < x) ∨ (¬ x < y ∧ ¬ y < x) by omega) with g | ⟨g, g2⟩ | ⟨g, g2⟩
  · have HR := hid (show S = -1 by have := HS.out; omega)
    go_enter Tryz.func102, Tryz.ntmps102
    go_wp2_with (go_at_call 126; refine (HN.out _ _).mono ?_; rintro e w1 ⟨rfl, rfl⟩)
    go_ret
    exact ⟨by rw [HR.out]; rfl, rfl⟩
  · have HR := hid (show S = 1 by have := HS.out; omega)
    go_enter Tryz.func102, Tryz.ntmps102
    go_wp2_with (go_at_call 126; refine (HN.out _ _).mono ?_; rintro e w1 ⟨rfl, rfl⟩)
    go_ret
    exact ⟨by rw [HR.out]; rfl, rfl⟩
  · have HR := hid (show S = 0 by have := HS.out; omega)
    go_enter Tryz.func102, Tryz.ntmps102
    go_wp2_with (go_at_call 126; refine (HN.out _ _).mono ?_; rintro e w1 ⟨rfl, rfl⟩)
    go_ret
    exact ⟨by rw [HR.out]; rfl, rfl⟩

set_option maxRecDepth 100000 in
set_option maxHeartbeats 1600000 in
theorem closureL (x y : LdT) (w : World) :
    Calls Tryz.prog 169 #[ltV x, ltV y] w fun e w' => e = .returned (.int .i64 (cfL x y)) ∧ ∃ q os', w' = grow (w.drewN q) os' := by
  have HC := hid (fun W => compareX x.1 y.1 W)
  unfold cfL
  generalize sgn (x.1 - y.1) = S at *
  go_enter Tryz.func169, Tryz.ntmps169
  go_wp2_with (first
    | (go_at_call 102; refine (HC.out _).mono ?_; rintro e w1 ⟨rfl, rfl⟩))
  go_ret
  exact ⟨rfl, 0, _, by rw [alloc_eq_grow, alloc_eq_grow, grow_grow]; rfl⟩

theorem flat_cells (ys : List LdT) : (flatK lcs 4 ys.toArray).toList = lCells ys := by
  refine List.ext_getElem? fun j => ?_
  by_cases hj : j < ys.length * 4
  · obtain ⟨l, hl⟩ : ∃ l, ys[j / 4]? = some l := ⟨ys[j / 4]'(by omega), by rw [List.getElem?_eq_getElem]⟩
    have h1 := lCells_at ys (j / 4) (j % 4) l (by omega) hl
    rw [show j / 4 * 4 + j % 4 = j by omega] at h1
    rw [h1]
    have h2 := get_flatK lcs 4 ys.toArray j (by simpa using hj)
    have hs : j < (flatK lcs 4 ys.toArray).size := by simpa using hj
    rw [getElem!_pos _ j hs] at h2
    rw [Array.getElem?_toList, Array.getElem?_eq_getElem hs, h2]
    have h3 : ys.toArray[j / 4]! = l := by
      rw [getElem!_def, List.getElem?_toArray, hl]
    rw [h3]
    have h4 : j % 4 < (lcs l).length := by simp [lcs]; omega
    rw [List.getElem?_eq_getElem h4, getElem!_pos (lcs l) (j % 4) h4]
  · rw [List.getElem?_eq_none (by simp; omega), List.getElem?_eq_none (by rw [lCells_len]; omega)]

theorem heap_putK {w : World} {g n : Nat} {os : Array Obj} {cur : Array Value} {e : TypeId} {fr : Nat × Nat} (F : Array Value) (hb : w.heap[g]? = some (.cells cur e fr)) :
    (grow (putRow id (Sort.ahead w n) g 0 F) os).heap[g]? = some (.cells (putCells id 0 F cur) e fr) := by
  have hg : g < w.heap.size := (Array.getElem?_eq_some_iff.1 hb).1
  rw [heap_grow_old _ _ (by simpa using hg)]
  simp [putRow, mapBlock, Sort.ahead, Array.getElem?_modify, hb, onCells]
theorem grownBy_putK {w : World} {g n : Nat} {os : Array Obj} (F : Array Value) : w.grownBy (grow (putRow id (Sort.ahead w n) g 0 F) os) (some g) := by
  refine ⟨rfl, rfl, rfl, by simp, fun k hk hne => ?_⟩
  rw [heap_grow_old _ _ (by simpa using hk)]
  have : g ≠ k := fun e => hne (by rw [e])
  simp [putRow, mapBlock, Sort.ahead, Array.getElem?_modify, this]
theorem take_putK (cur F : Array Value) (h : F.size ≤ cur.size) : (putCells id 0 F cur).toList.take F.size = F.toList := by
  refine List.ext_getElem? fun j => ?_
  by_cases hj : j < F.size
  · rw [List.getElem?_take_of_lt hj, Array.getElem?_toList, Array.getElem?_toList]
    simp [putCells, hj, show j < cur.size by omega]
  · rw [List.getElem?_take_eq_none (by omega), List.getElem?_eq_none (by simp; omega)]
theorem wayS_of {ys zs : List LdT} (hp : zs.Perm ys) (hs : zs.Pairwise fun a b => ¬ b.1 < a.1) (hn : (ys.map (·.1)).Nodup) : zs = wayS ys := by
  have hr := wayS_rise ys hn
  have hp2 : zs.Perm (wayS ys) := hp.trans (wayS_perm ys).symm
  have hz : (zs.map (·.1)).Nodup := (hp.map _).nodup_iff.2 hn
  rw [List.Nodup, List.pairwise_map] at hz
  refine List.Perm.eq_of_pairwise (le := fun a b => a.1 < b.1) (fun a b _ _ h1 h2 => by omega) ((hs.and hz).imp fun {a b} h => by obtain ⟨h1, h2⟩ := h; omega) hr hp2

set_option maxHeartbeats 1600000 in
theorem sortL_any {w : World} {base : Nat} {v : Value} {ys : List LdT} (h : LRow w base v ys) (hn : (ys.map (·.1)).Nodup) (hl : ys.length ≤ 1000000) :
    Calls Tryz.prog 185 #[v, .func (.func 169) #[] #[]] w fun e w' => e = .returned (.tuple #[]) ∧ LRow w' base v (wayS ys) ∧ Below base w w' := by
  obtain ⟨hlen, h2⟩ := h
  rcases h2 with ⟨rfl, h0⟩ | ⟨g, cap, cur, rfl, hg, hb, hc1, hc2, hc3, hc4⟩
  · obtain rfl : ys = [] := List.eq_nil_of_length_eq_zero h0
    have hcon := AnyF.slices_SortFunc_none sortLd none 0 (.func (.func 169) #[] #[]) w
    refine Calls.mono (show Calls Tryz.prog 185 _ _ _ from hcon) ?_
    rintro e w' ⟨rfl, rfl⟩
    exact ⟨rfl, by rw [show wayS [] = [] from List.eq_nil_of_length_eq_zero (wayS_len [])]; exact LRow.nil _ _, Below.refl _ _⟩
  · have eg : ∀ args w, (callFunc 169 args).run Tryz.prog w = .ok (.enter 169 args) w := enters_of Tryz.func169 (by kernel_rfl) rfl
    have hblk : g < w.heap.size := lt_of_heap hb
    have hH : HoldsK lcs 4 w g 0 ys.toArray := fun j hj => by
      have hj' : j < ys.length * 4 := by simpa using hj
      refine ⟨?_, by simp [World.frozen?, hb]⟩
      have e1 : (cur.toList.take (ys.length * 4))[j]? = (lCells ys)[j]? := by rw [hc4]
      rw [List.getElem?_take_of_lt hj', ← flat_cells, Array.getElem?_toList, Array.getElem?_toList, Array.getElem?_eq_getElem hj] at e1
      rw [Nat.zero_add, getElem!_pos _ j hj]
      simp only [World.cell?, hb, Option.isSome_none, Bool.false_eq_true, if_false]
      exact e1
    have hcmp : CmpLays Tryz.prog 169 #[] lcs 4 cfL g 0 ys.toArray.size w := fun _ _ _ _ x y => closureL x y _
    have hcon := AnyQ.slices_SortFunc sortLd 4 Tryz.isAgg157 Tryz.sizeOf157 lcs (fun _ => rfl) (fun x u hu => by simp [lcs] at hu; rcases hu with rfl | rfl | rfl | rfl <;> rfl) cfL swoL 169 #[] g 0 cap ys.toArray w eg hcmp hH hblk (by simp; omega)
    refine Calls.mono (show Calls Tryz.prog 185 #[.slice (some ⟨g, 0, none⟩) ys.length cap, .func (.func 169) #[] #[]] w _ from hcon) ?_
    rintro e w' ⟨rfl, d', n, os, ⟨hs1, _, hp⟩, hs, hw⟩
    have hsz : d'.size = ys.length := by rw [hs1]; simp
    have hd : d'.toList = wayS ys := by
      refine wayS_of ?_ ?_ hn
      · have e1 : d'.extract 0 ys.toArray.size = d' := by rw [← hs1]; exact Array.extract_size
        rw [e1, Array.extract_size] at hp
        simpa using hp
      · rw [List.pairwise_iff_getElem]
        intro i j hi hj hij
        have hi' : i < d'.size := by simpa using hi
        have hj' : j < d'.size := by simpa using hj
        have q := hs i j (Nat.zero_le _) hij (by rw [← hs1]; exact hj')
        rw [getElem!_pos _ i hi', getElem!_pos _ j hj', ltL] at q
        simpa using q
    have hw2 : w' = grow (putRow id (Sort.ahead w n) g 0 (flatK lcs 4 d')) os := hw
    have hfs : (flatK lcs 4 d').size = ys.length * 4 := by rw [size_flatK, hsz]
    refine ⟨rfl, ⟨by rw [lCells_len], .inr ⟨g, cap, putCells id 0 (flatK lcs 4 d') cur, ?_, hg, ?_, ?_, hc2, ?_, ?_⟩⟩, ?_⟩
    · rw [wayS_len]
    · rw [hw2]
      exact heap_putK _ hb
    · rw [wayS_len]
      exact hc1
    · simp [putCells, hc3]
    · rw [wayS_len, ← hfs, take_putK _ _ (by rw [hfs, hc3]; exact Nat.mul_le_mul_right 4 hc1), ← hd]
      have := flat_cells d'.toList
      simpa using this
    · rw [hw2]
      exact (Below.refl _ w).grown (grownBy_putK _) (by omega) (fun k e => by injection e with e; omega)
end Go.Proofs.YtkdnkmheidbfdaaGreat
