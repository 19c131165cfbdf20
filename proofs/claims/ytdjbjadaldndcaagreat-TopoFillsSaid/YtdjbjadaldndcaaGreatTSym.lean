/-
  The library's symMergeCmpFunc over a row of places.
-/
import Derived.Test.YtdjbjadaldndcaaGreatMH
namespace Go.Proofs.YtdjbjadaldndcaaGreat
open Go.RowKit Go.Sort

/-- The comparison that turn.Sort hands on answers c of any two places, as long as nothing below base has turned. -/
def CmpC (cv : Value) (c : Nat → Nat → Int) (base n : Nat) (w0 : World) : Prop :=
  ∀ w, Below base w0 w → ∀ i k, i < n → k < n → Calls Tryz.prog 178 #[.int .i64 i, .int .i64 k, cv] w fun e w' => e = .returned (.int .i64 (c i k)) ∧ Below w.heap.size w w'
theorem CmpC.on {cv : Value} {c : Nat → Nat → Int} {base n : Nat} {w0 w : World} (h : CmpC cv c base n w0) (hb : Below base w0 w) : CmpC cv c base n w := fun w1 h1 i k hi hk => h w1 (hb.trans h1) i k hi hk
theorem Mrg.val {c : Nat → Nat → Int} {f g : Nat → Nat} {a b n : Nat} (h : Mrg c f g a b) (hb : b ≤ n) (hv : ∀ k, k < n → f k < n) : ∀ k, k < n → g k < n := fun k hk => by
  by_cases h1 : a ≤ k ∧ k < b
  · obtain ⟨t, _, t2, e⟩ := h.of k h1.1 h1.2
    rw [e]
    exact hv t (by omega)
  · rw [h.out k (by omega)]
    exact hv k hk
theorem rot_val {f : Nat → Nat} {a m b n : Nat} (ham : a ≤ m) (hmb : m ≤ b) (hb : b ≤ n) (hv : ∀ k, k < n → f k < n) : ∀ k, k < n → rot f a m b k < n := fun k hk => by
  by_cases h1 : a ≤ k ∧ k < b
  · obtain ⟨t, _, t2, e⟩ := rot_of (f := f) ham hmb k h1.1 h1.2
    rw [e]
    exact hv t (by omega)
  · rw [rot_out (by omega) ham k (by omega)]
    exact hv k hk
theorem half_of {i j h : Nat} (e : (i + j) / 2 = h) (hl : i + j ≤ 2000000) : IntKind.i64.wrap (IntKind.u64.wrap ((i : Int) + (j : Int)) / 2) = (h : Int) := by
  rw [IntKind.wrap_i64, IntKind.wrap_u64]
  omega

set_option maxHeartbeats 3200000 in
set_option maxRecDepth 100000 in
theorem symMerge_one (cv : Value) (c : Nat → Nat → Int) (base g n cap a m b : Nat) (f : Nat → Nat) (w : World) (hc : OrdC c) (hcmp : CmpC cv c base n w) (hr : PRow w base g n cap f) (hv : ∀ k, k < n → f k < n) (ham : m = a + 1) (hmb : m < b) (hb : b ≤ n) (hn : n ≤ 1000000)
    (hs : Srt c f m b) (hlr : Lss f a m b) :
    Calls Tryz.prog 215 #[.slice (some ⟨g, 0, none⟩) n cap, .int .i64 a, .int .i64 m, .int .i64 b, (.func (.func 178) #[] #[cv])] w fun e w' => e = .returned (.tuple #[]) ∧ (∃ f', PRow w' base g n cap f' ∧ Mrg c f f' a b) ∧ Below base w w' := by
  have HR := hid hr
  have HC := hid hcmp
  have HO := hid hc
  have HV := hid hv
  have HS := hid hs
  have HL := hid hlr
  have e1 : (m : Int) - (a : Int) = 1 := by omega
  have HM := hid ham
  have ham' : a < m := by omega
  clear hr hcmp hv hs hlr hc ham
  go_enter Tryz.func215, Tryz.ntmps215
  go_wp2
  go_loopw [10, 11] (fun iv jv wr => ∃ i j : Nat, m ≤ i ∧ i ≤ j ∧ j ≤ b ∧ iv = .int .i64 i ∧ jv = .int .i64 j ∧ PRow wr base g n cap f ∧ (m < i → Ahd c (f (i - 1)) (f a)) ∧ (j < b → Ahd c (f a) (f j)) ∧ Below base w wr) (fun iv jv _ => (intOf jv).toNat - (intOf iv).toNat)
  case atStart => exact ⟨m, b, Nat.le_refl _, by omega, Nat.le_refl _, rfl, rfl, HR.out, fun h => absurd h (Nat.lt_irrefl _), fun h => absurd h (Nat.lt_irrefl _), Below.refl _ _⟩
  case round =>
    obtain ⟨i, j, hi, hij, hj, rfl, rfl, hrow, h1, h2, hbr⟩ := hrel
    have HB := hid hbr
    have HROW := hid hrow
    have H1 := hid h1
    have H2 := hid h2
    clear hbr h1 h2 HR e1
    by_cases hlt : i < j
    · have hltI : (i : Int) < (j : Int) := by omega
      obtain ⟨h, hh⟩ : ∃ h, (i + j) / 2 = h := ⟨_, rfl⟩
      have hhI : ((i : Int) + (j : Int)) / 2 = (h : Int) := by omega
      have hhn : (h : Int) < (n : Int) := by omega
      have han : (a : Int) < (n : Int) := by omega
      have c1 := hrow.cell (k := h) (by omega)
      have c2 := hrow.cell (k := a) (by omega)
      have HCC := hid (fun W hW => HC.out W (HB.out.trans hW) (f h) (f a) (HV.out h (by omega)) (HV.out a (by omega)))
      have HLS := hid (HL.out a h (Nat.le_refl _) (by omega) (by omega) (by omega))
      have hih : i ≤ h := by omega
      have hhj : h < j := by omega
      clear hrow hh
      obtain ⟨cc, hcv⟩ : ∃ cc, c (f h) (f a) = cc := ⟨_, rfl⟩
      rw [hcv] at HCC
      have HCV := hid hcv
      clear hcv
      cases hcc : decide (cc < 0) with
      | true =>
        have HCN := hid (of_decide_eq_true hcc)
        go_wp2
        have k1 := cell_regrown c1; have k2 := cell_regrown c2
        have cq := fun d os => HCC.out (grow (redrawn wr d) os) ((below_regrown wr d os).mono (PRow.size HROW.out))
        refine wp_region_quiet_below (by kernel_rfl) (by kernel_rfl) ?_
        go_big_quiet_step (fail)
        go_big_quiet_step (fail)
        go_big_quiet_step (fail)
        go_big_quiet_step (fail)
        go_big_quiet_step (fail)
        go_big_quiet_step (fail)
        go_big_quiet_step (fail)
        go_big_quiet_step (fail)
        go_big_quiet_step (fail)
        go_big_quiet_step (exact Calls.regrown_of (cq _ _))
        go_big_quiet_step (fail)
        refine wpQuiet_nil ?_
        intro W hW'
        obtain ⟨⟨dq, osq⟩, hW⟩ := hW'
        have hbW : Below wr.heap.size wr W := by rw [hW]; exact below_regrown _ _ _
        have HRW := hid (HROW.out.below hbW)
        have HBW := hid (HB.out.trans (hbW.mono (PRow.size HROW.out)))
        clear hbW hW k1 k2 cq c1 c2
        go_wp2
        go_roundw
        case rel => exact ⟨h + 1, j, by omega, by omega, hj, by go_num, rfl, HRW.out, fun _ => by rw [Nat.add_sub_cancel]; exact ahd_lt (by rw [HCV.out]; exact HCN.out), H2.out, HBW.out⟩
        case measure => simp [intOf]; omega
      | false =>
        have HCN := hid (of_decide_eq_false hcc)
        go_wp2
        have k1 := cell_regrown c1; have k2 := cell_regrown c2
        have cq := fun d os => HCC.out (grow (redrawn wr d) os) ((below_regrown wr d os).mono (PRow.size HROW.out))
        refine wp_region_quiet_below (by kernel_rfl) (by kernel_rfl) ?_
        go_big_quiet_step (fail)
        go_big_quiet_step (fail)
        go_big_quiet_step (fail)
        go_big_quiet_step (fail)
        go_big_quiet_step (fail)
        go_big_quiet_step (fail)
        go_big_quiet_step (fail)
        go_big_quiet_step (fail)
        go_big_quiet_step (fail)
        go_big_quiet_step (exact Calls.regrown_of (cq _ _))
        go_big_quiet_step (fail)
        refine wpQuiet_nil ?_
        intro W hW'
        obtain ⟨⟨dq, osq⟩, hW⟩ := hW'
        have hbW : Below wr.heap.size wr W := by rw [hW]; exact below_regrown _ _ _
        have HRW := hid (HROW.out.below hbW)
        have HBW := hid (HB.out.trans (hbW.mono (PRow.size HROW.out)))
        clear hbW hW k1 k2 cq c1 c2
        go_wp2
        go_roundw
        case rel => exact ⟨i, h, hi, hih, by omega, rfl, by go_num, HRW.out, H1.out, fun _ => ahd_of HO.out HLS.out (by have q1 := HCN.out; have q2 := HCV.out; omega), HBW.out⟩
        case measure => simp [intOf]; omega
    · have hltI : ¬ (i : Int) < (j : Int) := by omega
      have hje : i = j := by omega
      subst hje
      obtain ⟨q, rfl⟩ : ∃ q, i = q + 1 := ⟨i - 1, by omega⟩
      have haq : a ≤ q := by omega
      have HMG := hid (mrg_up HO.out (f := f) (a := a) (b := b) (i := q + 1) (by have := HS.out; rwa [HM.out] at this) (by omega) hj (fun h => H1.out (by have := HM.out; omega)) H2.out)
      have hqI : ((q + 1 : Nat) : Int) - 1 = (q : Int) := by omega
      clear hrow H1 H2 HS HL HC hi hij
      go_wp2
      go_loopw [13] (fun kv wq => ∃ k : Nat, a ≤ k ∧ k ≤ q ∧ kv = .int .i64 k ∧ PRow wq base g n cap (rot f a (a + 1) (k + 1)) ∧ Below base w wq) (fun kv _ => q - (intOf kv).toNat)
      case atStart => exact ⟨a, Nat.le_refl _, haq, rfl, by rw [rot_none_r]; exact HROW.out, HB.out⟩
      case round =>
        obtain ⟨k, hak, hkq, rfl, hrow, hb2⟩ := hrel
        have HB2 := hid hb2
        have HROW2 := hid hrow
        clear hb2 HROW HB
        by_cases hlt2 : k < q
        · have hkI : (k : Int) < (q : Int) := by omega
          obtain ⟨t, ht⟩ : ∃ t, k + 1 = t := ⟨_, rfl⟩
          have htI : (k : Int) + 1 = (t : Int) := by omega
          have hkn : (k : Int) < (n : Int) := by omega
          have htn : (t : Int) < (n : Int) := by omega
          have hkt : k ≠ t := by omega
          have c1 := hrow.cell (k := k) (by omega)
          have c2 := hrow.cell (k := t) (by omega)
          have f1 := hrow.frz k
          have f2 := hrow.frz t
          have HUP := hid (show sw2 (rot f a (a + 1) (k + 1)) k t = rot f a (a + 1) (t + 1) by rw [← ht]; exact rot_up hak)
          have HT := hid ht
          clear hrow ht
          generalize rot f a (a + 1) (k + 1) = F at *
          go_wp2
          go_big_region
          all_goals go_wp2
          go_roundw
          case rel => exact ⟨t, by omega, by have := HT.out; omega, by go_num, by rw [← HUP.out]; exact (HROW2.out.sw hkt).drew, (HB2.out.trans (HROW2.out.sw_below _ _ _ _)).drew⟩
          case measure => have := HT.out; simp [intOf]; omega
        · have hkI : ¬ (k : Int) < (q : Int) := by omega
          have hkq' : k = q := by omega
          subst hkq'
          clear hrow
          go_wp2
          refine bodyPost_ret (v := .tuple #[]) (by simp [results, Tryz.results215, go_sem]) rfl ?_
          exact ⟨rfl, ⟨_, HROW2.out, HMG.out⟩, HB2.out⟩

set_option maxHeartbeats 3200000 in
set_option maxRecDepth 100000 in
theorem symMerge_last (cv : Value) (c : Nat → Nat → Int) (base g n cap a m b : Nat) (f : Nat → Nat) (w : World) (hc : OrdC c) (hcmp : CmpC cv c base n w) (hr : PRow w base g n cap f) (hv : ∀ k, k < n → f k < n) (ham : a + 1 < m) (hmb : b = m + 1) (hb : b ≤ n) (hn : n ≤ 1000000)
    (hs : Srt c f a m) (hlr : Lss f a m b) :
    Calls Tryz.prog 215 #[.slice (some ⟨g, 0, none⟩) n cap, .int .i64 a, .int .i64 m, .int .i64 b, (.func (.func 178) #[] #[cv])] w fun e w' => e = .returned (.tuple #[]) ∧ (∃ f', PRow w' base g n cap f' ∧ Mrg c f f' a b) ∧ Below base w w' := by
  have HR := hid hr
  have HC := hid hcmp
  have HO := hid hc
  have HV := hid hv
  have HS := hid hs
  have HL := hid hlr
  have e1 : ((m : Int) - (a : Int) == 1) = false := beq_eq_false_iff_ne.2 (by omega)
  have e2 : (b : Int) - (m : Int) = 1 := by omega
  have HM := hid hmb
  have hmb' : m < b := by omega
  clear hr hcmp hv hs hlr hc hmb
  go_enter Tryz.func215, Tryz.ntmps215
  go_wp2
  go_loopw [14, 15] (fun iv jv wr => ∃ i j : Nat, a ≤ i ∧ i ≤ j ∧ j ≤ m ∧ iv = .int .i64 i ∧ jv = .int .i64 j ∧ PRow wr base g n cap f ∧ (a < i → Ahd c (f (i - 1)) (f m)) ∧ (j < m → Ahd c (f m) (f j)) ∧ Below base w wr) (fun iv jv _ => (intOf jv).toNat - (intOf iv).toNat)
  case atStart => exact ⟨a, m, Nat.le_refl _, by omega, Nat.le_refl _, rfl, rfl, HR.out, fun h => absurd h (Nat.lt_irrefl _), fun h => absurd h (Nat.lt_irrefl _), Below.refl _ _⟩
  case round =>
    obtain ⟨i, j, hi, hij, hj, rfl, rfl, hrow, h1, h2, hbr⟩ := hrel
    have HB := hid hbr
    have HROW := hid hrow
    have H1 := hid h1
    have H2 := hid h2
    clear hbr h1 h2 HR e1 e2
    by_cases hlt : i < j
    · have hltI : (i : Int) < (j : Int) := by omega
      obtain ⟨h, hh⟩ : ∃ h, (i + j) / 2 = h := ⟨_, rfl⟩
      have hhI : ((i : Int) + (j : Int)) / 2 = (h : Int) := by omega
      have hhn : (h : Int) < (n : Int) := by omega
      have hmn : (m : Int) < (n : Int) := by omega
      have c1 := hrow.cell (k := m) (by omega)
      have c2 := hrow.cell (k := h) (by omega)
      have HCC := hid (fun W hW => HC.out W (HB.out.trans hW) (f m) (f h) (HV.out m (by omega)) (HV.out h (by omega)))
      have HLS := hid (HL.out h m (by omega) (by omega) (Nat.le_refl _) (by omega))
      have hih : i ≤ h := by omega
      have hhj : h < j := by omega
      clear hrow hh
      obtain ⟨cc, hcv⟩ : ∃ cc, c (f m) (f h) = cc := ⟨_, rfl⟩
      rw [hcv] at HCC
      have HCV := hid hcv
      clear hcv
      cases hcc : decide (cc < 0) with
      | true =>
        have HCN := hid (of_decide_eq_true hcc)
        go_wp2
        have k1 := cell_regrown c1; have k2 := cell_regrown c2
        have cq := fun d os => HCC.out (grow (redrawn wr d) os) ((below_regrown wr d os).mono (PRow.size HROW.out))
        refine wp_region_quiet_below (by kernel_rfl) (by kernel_rfl) ?_
        go_big_quiet_step (fail)
        go_big_quiet_step (fail)
        go_big_quiet_step (fail)
        go_big_quiet_step (fail)
        go_big_quiet_step (fail)
        go_big_quiet_step (fail)
        go_big_quiet_step (fail)
        go_big_quiet_step (fail)
        go_big_quiet_step (fail)
        go_big_quiet_step (exact Calls.regrown_of (cq _ _))
        go_big_quiet_step (fail)
        go_big_quiet_step (fail)
        refine wpQuiet_nil ?_
        intro W hW'
        obtain ⟨⟨dq, osq⟩, hW⟩ := hW'
        have hbW : Below wr.heap.size wr W := by rw [hW]; exact below_regrown _ _ _
        have HRW := hid (HROW.out.below hbW)
        have HBW := hid (HB.out.trans (hbW.mono (PRow.size HROW.out)))
        clear hbW hW k1 k2 cq c1 c2
        go_wp2
        go_roundw
        case rel => exact ⟨i, h, hi, hih, by omega, rfl, by go_num, HRW.out, H1.out, fun _ => ahd_lt (by rw [HCV.out]; exact HCN.out), HBW.out⟩
        case measure => simp [intOf]; omega
      | false =>
        have HCN := hid (of_decide_eq_false hcc)
        go_wp2
        have k1 := cell_regrown c1; have k2 := cell_regrown c2
        have cq := fun d os => HCC.out (grow (redrawn wr d) os) ((below_regrown wr d os).mono (PRow.size HROW.out))
        refine wp_region_quiet_below (by kernel_rfl) (by kernel_rfl) ?_
        go_big_quiet_step (fail)
        go_big_quiet_step (fail)
        go_big_quiet_step (fail)
        go_big_quiet_step (fail)
        go_big_quiet_step (fail)
        go_big_quiet_step (fail)
        go_big_quiet_step (fail)
        go_big_quiet_step (fail)
        go_big_quiet_step (fail)
        go_big_quiet_step (exact Calls.regrown_of (cq _ _))
        go_big_quiet_step (fail)
        go_big_quiet_step (fail)
        refine wpQuiet_nil ?_
        intro W hW'
        obtain ⟨⟨dq, osq⟩, hW⟩ := hW'
        have hbW : Below wr.heap.size wr W := by rw [hW]; exact below_regrown _ _ _
        have HRW := hid (HROW.out.below hbW)
        have HBW := hid (HB.out.trans (hbW.mono (PRow.size HROW.out)))
        clear hbW hW k1 k2 cq c1 c2
        go_wp2
        go_roundw
        case rel => exact ⟨h + 1, j, by omega, by omega, hj, by go_num, rfl, HRW.out, fun _ => by rw [Nat.add_sub_cancel]; exact ahd_of HO.out HLS.out (by have q1 := HCN.out; have q2 := HCV.out; omega), H2.out, HBW.out⟩
        case measure => simp [intOf]; omega
    · have hltI : ¬ (i : Int) < (j : Int) := by omega
      have hje : i = j := by omega
      subst hje
      have HMG := hid (mrg_down HO.out (f := f) (a := a) (m := m) (i := i) HS.out hi hj H1.out H2.out)
      clear hrow H1 H2 HS HL HC hij
      go_wp2
      go_loopw [17] (fun kv wq => ∃ k : Nat, i ≤ k ∧ k ≤ m ∧ kv = .int .i64 k ∧ PRow wq base g n cap (rot f k m (m + 1)) ∧ Below base w wq) (fun kv _ => (intOf kv).toNat)
      case atStart => exact ⟨m, hj, Nat.le_refl _, rfl, by rw [rot_none_l]; exact HROW.out, HB.out⟩
      case round =>
        obtain ⟨k, hik, hkm, rfl, hrow, hb2⟩ := hrel
        have HB2 := hid hb2
        clear hb2 HROW HB
        by_cases hlt2 : i < k
        · have hkI : (i : Int) < (k : Int) := by omega
          obtain ⟨t, ht⟩ : ∃ t, k = t + 1 := ⟨k - 1, by omega⟩
          have htI : (k : Int) - 1 = (t : Int) := by omega
          have hkn : (k : Int) < (n : Int) := by omega
          have htn : (t : Int) < (n : Int) := by omega
          have hkt : k ≠ t := by omega
          have HUP := hid (show sw2 (rot f k m (m + 1)) k t = rot f t m (m + 1) by rw [ht]; exact rot_down (by omega))
          have hit : i ≤ t := by omega
          have htm : t ≤ m := by omega
          have htk : t < k := by omega
          clear ht
          have c1 := hrow.cell (k := k) (by omega)
          have c2 := hrow.cell (k := t) (by omega)
          have f1 := hrow.frz k
          have f2 := hrow.frz t
          have HROW2 := hid hrow
          clear hrow
          generalize rot f k m (m + 1) = F at *
          go_wp2
          go_big_region
          all_goals go_wp2
          go_roundw
          case rel => exact ⟨t, hit, htm, by go_num, by rw [← HUP.out]; exact (HROW2.out.sw hkt).drew, (HB2.out.trans (HROW2.out.sw_below _ _ _ _)).drew⟩
          case measure => simp [intOf]; omega
        · have hkI : ¬ (i : Int) < (k : Int) := by omega
          have hkq' : k = i := by omega
          subst hkq'
          have HROW2 := hid hrow
          clear hrow
          go_wp2
          refine bodyPost_ret (v := .tuple #[]) (by simp [results, Tryz.results215, go_sem]) rfl ?_
          exact ⟨rfl, ⟨_, HROW2.out, by rw [HM.out]; exact HMG.out⟩, HB2.out⟩

end Go.Proofs.YtdjbjadaldndcaaGreat
