/-
  The library's insertionSortCmpFunc over a row of places.
-/
import Derived.Test.YtccbjohiaboipaaTSym
namespace Go.Proofs.Ytccbjohiaboipaa
open Go.RowKit Go.Sort

/-- The numbers rise from a to b. -/
def Rse (f : Nat → Nat) (a b : Nat) : Prop := ∀ i j, a ≤ i → i < j → j < b → f i < f j
theorem Mrg.step {c : Nat → Nat → Int} {f F H : Nat → Nat} {a i : Nat} (h1 : Mrg c f F a i) (h2 : Mrg c F H a (i + 1)) : Mrg c f H a (i + 1) := by
  refine ⟨fun k hk => by rw [h2.out k hk, h1.out k (by omega)], fun k k1 k2 => ?_, h2.srt⟩
  obtain ⟨t, t1, t2, e⟩ := h2.of k k1 k2
  by_cases ht : t < i
  · obtain ⟨u, u1, u2, e'⟩ := h1.of t t1 ht
    exact ⟨u, u1, by omega, by rw [e, e']⟩
  · exact ⟨t, t1, t2, by rw [e, h1.out t (by omega)]⟩
theorem rot_at {F : Nat → Nat} {i j : Nat} (h : j ≤ i) : rot F j i (i + 1) j = F i := by
  unfold rot
  rw [if_pos (by omega)]
  all_goals congr 1
  all_goals omega
theorem rot_lo {F : Nat → Nat} {i j t : Nat} (hj : j ≤ i) (h : t < j) : rot F j i (i + 1) t = F t := rot_out (by omega) hj t (.inl h)

set_option maxHeartbeats 3200000 in
set_option maxRecDepth 100000 in
theorem insertion_any (cv : Value) (c : Nat → Nat → Int) (base g n cap a b : Nat) (f : Nat → Nat) (w : World) (hc : OrdC c) (hcmp : CmpC cv c base n w) (hr : PRow w base g n cap f) (hv : ∀ k, k < n → f k < n) (hab : a ≤ b) (hb : b ≤ n) (hn : n ≤ 1000000) (hs : Rse f a b) :
    Calls Try.prog 51 #[.slice (some ⟨g, 0, none⟩) n cap, .int .i64 (a : Nat), .int .i64 (b : Nat), (.func (.func 38) #[] #[cv])] w fun e w' => e = .returned (.tuple #[]) ∧ (∃ f', PRow w' base g n cap f' ∧ Mrg c f f' a b) ∧ Below base w w' := by
  have HR := hid hr
  have HC := hid hcmp
  have HO := hid hc
  have HV := hid hv
  have HS := hid hs
  clear hr hcmp hv hs hc
  go_enter Try.func51, Try.ntmps51
  go_wp2
  go_loopw [8, 9] (fun iv _ wr => ∃ (i : Nat) (F : Nat → Nat), a < i ∧ i ≤ b + 1 ∧ iv = .int .i64 i ∧ PRow wr base g n cap F ∧ Mrg c f F a (min i b) ∧ Below base w wr) (fun iv _ _ => b + 1 - (intOf iv).toNat)
  case atStart => exact ⟨a + 1, f, by omega, by omega, by go_num, HR.out, ⟨fun _ _ => rfl, fun k k1 k2 => ⟨k, k1, k2, rfl⟩, fun x y h1 h2 h3 => by omega⟩, Below.refl _ _⟩
  case round =>
    obtain ⟨i, F, hai, hib, rfl, hrow, hm, hbr⟩ := hrel
    have HB := hid hbr
    have HM := hid hm
    have HROW := hid hrow
    clear hbr hm HR
    by_cases hlt : i < b
    · have hltI : (i : Int) < (b : Int) := by omega
      have HM2 := hid (show Mrg c f F a i by have q := HM.out; rwa [show min i b = i by omega] at q)
      have HFV := hid (Mrg.val HM2.out (by omega) HV.out)
      have HLT := hid (show ∀ t, a ≤ t → t < i → F t < F i from fun t t1 t2 => by
        obtain ⟨u, u1, u2, e⟩ := HM2.out.of t t1 t2
        rw [e, HM2.out.out i (by omega)]
        exact HS.out u i u1 u2 hlt)
      clear hrow HM
      go_wp2
      go_loopw [9] (fun jv wq => ∃ j : Nat, a ≤ j ∧ j ≤ i ∧ jv = .int .i64 j ∧ PRow wq base g n cap (rot F j i (i + 1)) ∧ (j < i → Ahd c (F i) (F j)) ∧ Below base w wq) (fun jv _ => (intOf jv).toNat)
      case atStart => exact ⟨i, by omega, Nat.le_refl _, rfl, by rw [rot_none_l]; exact HROW.out, fun h => absurd h (Nat.lt_irrefl _), HB.out⟩
      case round =>
        obtain ⟨j, haj, hji, rfl, hrow, hj, hb2⟩ := hrel
        have HB2 := hid hb2
        have HJ := hid hj
        clear hb2 hj HROW HB
        by_cases hja : a < j
        · have hjaI : (a : Int) < (j : Int) := by omega
          obtain ⟨t, ht⟩ : ∃ t, j = t + 1 := ⟨j - 1, by omega⟩
          have htI : (j : Int) - 1 = (t : Int) := by omega
          have hjn : (j : Int) < (n : Int) := by omega
          have htn : (t : Int) < (n : Int) := by omega
          have hjt : j ≠ t := by omega
          have hta : a ≤ t := by omega
          have hti : t < i := by omega
          have htj : t < j := by omega
          have HUP := hid (show sw2 (rot F j i (i + 1)) j t = rot F t i (i + 1) by rw [ht]; exact rot_down (by omega))
          have HT := hid (show j - 1 = t by omega)
          clear ht
          have c1 := hrow.cell (k := j) (by omega)
          have c2 := hrow.cell (k := t) (by omega)
          rw [rot_at hji] at c1
          rw [rot_lo hji htj] at c2
          have f1 := hrow.frz j
          have f2 := hrow.frz t
          have HROW2 := hid hrow
          have HCC := hid (fun W hW => HC.out W (HB2.out.trans hW) (F i) (F t) (HFV.out i (by omega)) (HFV.out t (by omega)))
          have HSW := hid (show ∀ W, PRow W base g n cap (rot F j i (i + 1)) → PRow ((W.setCell ⟨g, j, none⟩ (.int .i64 (F t : Nat))).setCell ⟨g, t, none⟩ (.int .i64 (F i : Nat))) base g n cap (rot F t i (i + 1)) from fun W hW => by
            have q := hW.sw hjt
            rw [rot_at hji, rot_lo hji htj, HUP.out] at q
            exact q)
          clear hrow
          obtain ⟨cc, hcv⟩ : ∃ cc, c (F i) (F t) = cc := ⟨_, rfl⟩
          rw [hcv] at HCC
          have HCV := hid hcv
          clear hcv
          obtain ⟨X, hX⟩ : ∃ X, ((F i : Nat) : Int) = X := ⟨_, rfl⟩
          obtain ⟨Y, hY⟩ : ∃ Y, ((F t : Nat) : Int) = Y := ⟨_, rfl⟩
          rw [hX] at c1 HCC HSW
          rw [hY] at c2 HCC HSW
          clear hX hY
          cases hcc : decide (cc < 0) with
          | true =>
            have HCN := hid (of_decide_eq_true hcc)
            go_wp2
            have k1 := cell_regrown c1; have k2 := cell_regrown c2
            have cq := fun d os => HCC.out (grow (redrawn wr d) os) ((below_regrown wr d os).mono (PRow.size HROW2.out))
            refine wp_region_quiet_below (by kernel_rfl) (by kernel_rfl) ?_
            go_big_quiet_step (fail)
            go_big_quiet_step (fail)
            go_big_quiet_step (fail)
            go_big_quiet_step (fail)
            go_big_quiet_step (fail)
            go_big_quiet_step (fail)
            go_big_quiet_step (fail)
            go_big_quiet_step (fail)
            go_big_quiet_step (fail)
            go_big_quiet_step (fail)
            go_big_quiet_step (fail)
            go_big_quiet_step (fail)
            go_big_quiet_step (fail)
            go_big_quiet_step (fail)
            go_big_quiet_step (exact Calls.regrown_of (cq _ _))
            go_big_quiet_step (fail)
            go_big_quiet_step (fail)
            refine wpQuiet_nil ?_
            intro W hW'
            obtain ⟨⟨dq, osq⟩, hW⟩ := hW'
            have hbW : Below wr.heap.size wr W := by rw [hW]; exact below_regrown _ _ _
            have HRW := hid (HROW2.out.below hbW)
            have HBW := hid (HB2.out.trans (hbW.mono (PRow.size HROW2.out)))
            have u1 := cell_below c1 hbW (lt_of_cell c1)
            have u2 := cell_below c2 hbW (lt_of_cell c2)
            have v1 := HRW.out.frz j
            have v2 := HRW.out.frz t
            clear hbW hW k1 k2 cq c1 c2 f1 f2
            go_wp2
            go_big_region
            all_goals go_wp2
            go_roundw
            case rel => exact ⟨t, hta, by omega, by go_num, (HSW.out _ HRW.out).drew, fun _ => ahd_lt (by rw [HCV.out]; exact HCN.out), (HBW.out.trans (HRW.out.sw_below _ _ _ _)).drew⟩
            case measure => simp [intOf]; omega
          | false =>
            have HCN := hid (of_decide_eq_false hcc)
            have HMG := hid (Mrg.step HM2.out (mrg_down HO.out (f := F) (a := a) (m := i) (i := j) HM2.out.srt haj hji (fun _ => by rw [HT.out]; exact ahd_of HO.out (HLT.out t hta hti) (by have q1 := HCN.out; have q2 := HCV.out; omega)) HJ.out))
            go_wp2
            have k1 := cell_regrown c1; have k2 := cell_regrown c2
            have cq := fun d os => HCC.out (grow (redrawn wr d) os) ((below_regrown wr d os).mono (PRow.size HROW2.out))
            refine wp_region_quiet_below (by kernel_rfl) (by kernel_rfl) ?_
            go_big_quiet_step (fail)
            go_big_quiet_step (fail)
            go_big_quiet_step (fail)
            go_big_quiet_step (fail)
            go_big_quiet_step (fail)
            go_big_quiet_step (fail)
            go_big_quiet_step (fail)
            go_big_quiet_step (fail)
            go_big_quiet_step (fail)
            go_big_quiet_step (fail)
            go_big_quiet_step (fail)
            go_big_quiet_step (fail)
            go_big_quiet_step (fail)
            go_big_quiet_step (fail)
            go_big_quiet_step (exact Calls.regrown_of (cq _ _))
            go_big_quiet_step (fail)
            go_big_quiet_step (fail)
            refine wpQuiet_nil ?_
            intro W hW'
            obtain ⟨⟨dq, osq⟩, hW⟩ := hW'
            have hbW : Below wr.heap.size wr W := by rw [hW]; exact below_regrown _ _ _
            have HRW := hid (HROW2.out.below hbW)
            have HBW := hid (HB2.out.trans (hbW.mono (PRow.size HROW2.out)))
            clear hbW hW k1 k2 cq c1 c2 f1 f2
            go_wp2
            go_roundw
            case rel => exact ⟨i + 1, _, by omega, by omega, by go_num, HRW.out, by rw [show min (i + 1) b = i + 1 by omega]; exact HMG.out, HBW.out⟩
            case measure => simp [intOf]; omega
        · have hja' : j = a := by omega
          have hjaI : ¬ (a : Int) < (j : Int) := by omega
          have HROW2 := hid hrow
          have HMG := hid (Mrg.step HM2.out (mrg_down HO.out (f := F) (a := a) (m := i) (i := j) HM2.out.srt haj hji (fun h => absurd h hja) HJ.out))
          clear hrow hja'
          generalize rot F j i (i + 1) = G at *
          go_wp2
          refine wp_region_quiet_below (by kernel_rfl) (by kernel_rfl) ?_
          go_big_quiet_step (fail)
          go_big_quiet_step (fail)
          go_big_quiet_step (fail)
          go_big_quiet_step (fail)
          go_big_quiet_step (fail)
          go_big_quiet_step (fail)
          go_big_quiet_step (fail)
          go_big_quiet_step (fail)
          go_big_quiet_step (fail)
          go_big_quiet_step (fail)
          go_big_quiet_step (fail)
          go_big_quiet_step (fail)
          go_big_quiet_step (fail)
          go_big_quiet_step (fail)
          go_big_quiet_step (fail)
          go_big_quiet_step (fail)
          go_big_quiet_step (fail)
          refine wpQuiet_nil ?_
          intro W hW'
          obtain ⟨⟨dq, osq⟩, hW⟩ := hW'
          have hbW : Below wr.heap.size wr W := by rw [hW]; exact below_regrown _ _ _
          have HRW := hid (HROW2.out.below hbW)
          have HBW := hid (HB2.out.trans (hbW.mono (PRow.size HROW2.out)))
          clear hbW hW
          go_wp2
          go_roundw
          case rel => exact ⟨i + 1, _, by omega, by omega, by go_num, HRW.out, by rw [show min (i + 1) b = i + 1 by omega]; exact HMG.out, HBW.out⟩
          case measure => simp [intOf]; omega
    · have hltI : ¬ (i : Int) < (b : Int) := by omega
      have HM2 := hid (show Mrg c f F a b by have q := HM.out; rwa [show min i b = b by omega] at q)
      clear hrow HM
      go_wp2
      go_end0
      exact ⟨rfl, ⟨_, HROW.out, HM2.out⟩, HB.out⟩
end Go.Proofs.Ytccbjohiaboipaa
