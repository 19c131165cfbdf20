/-
  The library's symMergeCmpFunc over a row of places.
-/
import Derived.Test.YtkdnkmheidbfdaaGreatMH
namespace Go.Proofs.YtkdnkmheidbfdaaGreat
open Go.RowKit Go.Sort

/-- The comparison that turn.Sort hands on answers c of any two places, as long as nothing below base has turned. -/
def CmpC (cv : Value) (c : Nat → Nat → Int) (base n : Nat) (w0 : World) : Prop :=
  ∀ w, Below base w0 w → ∀ i k, i < n → k < n → Calls Tryz.prog 189 #[.int .i64 i, .int .i64 k, cv] w fun e w' => e = .returned (.int .i64 (c i k)) ∧ Below w.heap.size w w'
theorem CmpC.on {cv : Value} {c : Nat → Nat → Int} {base n : Nat} {w0 w : World} (h : CmpC cv c base n w0) (hb : Below base w0 w) : CmpC cv c base n w := fun w1 h1 i k hi hk => h w1 (hb.trans h1) i k hi hk
theorem Mrg.val {c : Nat → Nat → Int} {f g : Nat → Nat} {a b n : Nat} (h : Mrg c f g a b) (hb : b ≤ n) (hv : ∀ k, k < n → f k < n) : ∀ k, k < n → g k < n := fun k hk => by
  by_cases h1 : a ≤ k ∧ k < b
  · obtain ⟨t, _, t2, e⟩ := h.of k h1.1 h1.2
    rw [e]
    exact hv t (by omega)
  · rw [h.out k (by omega)]
    exact hv k hk
theorem rot_val {f : Nat → Nat} {a m b n : Nat} (ham : a ≤ m) (hmb : m ≤ b) (hb : b ≤ n) (hv : ∀ k, k < n → f k < n) : ∀ k, k < n → rot f a m b k < n := fun k hk => by
  by_cases h1 : a ≤ k ∧ k < b
  · obtain ⟨t, _, t2, e⟩ := rot_of (f := f) ham hmb k h1.1 h1.2
    rw [e]
    exact hv t (by omega)
  · rw [rot_out (by omega) ham k (by omega)]
    exact hv k hk
theorem half_of {i j h : Nat} (e : (i + j) / 2 = h) (hl : i + j ≤ 2000000) : IntKind.i64.wrap (IntKind.u64.wrap ((i : Int) + (j : Int)) / 2) = (h : Int) := by
  rw [IntKind.wrap_i64, IntKind.wrap_u64]
  omega

set_option maxHeartbeats 3200000 in
set_option maxRecDepth 100000 in
theorem symMerge_one (cv : Value) (c : Nat → Nat → Int) (base g n cap a m b : Nat) (f : Nat → Nat) (w : World) (hc : OrdC c) (hcmp : CmpC cv c base n w) (hr : PRow w base g n cap f) (hv : ∀ k, k < n → f k < n) (ham : m = a + 1) (hmb : m < b) (hb : b ≤ n) (hn : n ≤ 1000000)
    (hs : Srt c f m b) (hlr : Lss f a m b) :
    Calls Tryz.prog 223 #[.slice (some ⟨g, 0, none⟩) n cap, .int .i64 a, .int .i64 m, .int .i64 b, (.func (.func 189) #[] #[cv])] w fun e w' => e = .returned (.tuple #[]) ∧ (∃ f', PRow w' base g n cap f' ∧ Mrg c f f' a b) ∧ Below base w w' := by
  have HR := hid hr
  have HC := hid hcmp
  have HO := hid hc
  have HV := hid hv
  have HS := hid hs
  have HL := hid hlr
  have e1 : (m : Int) - (a : Int) = 1 := by omega
  have HM := hid ham
  have ham' : a < m := by omega
  clear hr hcmp hv hs hlr hc ham
  go_enter Tryz.func223, Tryz.ntmps223
  go_wp2
  go_loopw [10, 11] (fun iv jv wr => ∃ i j : Nat, m ≤ i ∧ i ≤ j ∧ j ≤ b ∧ iv = .int .i64 i ∧ jv = .int .i64 j ∧ PRow wr base g n cap f ∧ (m < i → Ahd c (f (i - 1)) (f a)) ∧ (j < b → Ahd c (f a) (f j)) ∧ Below base w wr) (fun iv jv _ => (intOf jv).toNat - (intOf iv).toNat)
  case atStart => exact ⟨m, b, Nat.le_refl _, by omega, Nat.le_refl _, rfl, rfl, HR.out, fun h => absurd h (Nat.lt_irrefl _), fun h => absurd h (Nat.lt_irrefl _), Below.refl _ _⟩
  case round =>
    obtain ⟨i, j, hi, hij, hj, rfl, rfl, hrow, h1, h2, hbr⟩ := hrel
    have HB := hid hbr
    have HROW := hid hrow
    have H1 := hid h1
    have H2 := hid h2
    clear hbr h1 h2 HR e1
    by_cases hlt : i < j
    · have hltI : (i : Int) < (j : Int) := by omega
      obtain ⟨h, hh⟩ : ∃ h, (i + j) / 2 = h := ⟨_, rfl⟩
      have hhI : ((i : Int) + (j : Int)) / 2 = (h : Int) := by omega
      have hhn : (h : Int) < (n : Int) := by omega
      have han : (a : Int) < (n : Int) := by omega
      have c1 := hrow.cell (k := h) (by omega)
      have c2 := hrow.cell (k := a) (by omega)
      have HCC := hid (fun W hW => HC.out W (HB.out.trans hW) (f h) (f a) (HV.out h (by omega)) (HV.out a (by omega)))
      have HLS := hid (HL.out a h (Nat.le_refl _) (by omega) (by omega) (by omega))
      have hih : i ≤ h := by omega
      have hhj : h < j := by omega
      clear hrow hh
      obtain ⟨cc, hcv⟩ : ∃ cc, c (f h) (f a) = cc := ⟨_, rfl⟩
      rw [hcv] at HCC
      have HCV := hid hcv
      clear hcv
      cases hcc : decide (cc < 0) with
      | true =>
        have HCN := hid (of_decide_eq_true hcc)
        go_wp2
        have k1 := cell_regrown c1; have k2 := cell_regrown c2
        have cq := fun d os => HCC.out (grow (redrawn wr d) os) ((below_regrown wr d os).mono (PRow.size HROW.out))
        refine wp_region_quiet_below (by kernel_rfl) (by kernel_rfl) ?_
        go_big_quiet_step (fail)
        go_big_quiet_step (fail)
        go_big_quiet_step (fail)
        go_big_quiet_step (fail)
        go_big_quiet_step (fail)
        go_big_quiet_step (fail)
        go_big_quiet_step (fail)
        go_big_quiet_step (fail)
        go_big_quiet_step (fail)
        go_big_quiet_step (exact Calls.regrown_of (cq _ _))
        go_big_quiet_step (fail)
        refine wpQuiet_nil ?_
        intro W hW'
        obtain ⟨⟨dq, osq⟩, hW⟩ := hW'
        have hbW : Below wr.heap.size wr W := by rw [hW]; exact below_regrown _ _ _
        have HRW := hid (HROW.out.below hbW)
        have HBW := hid (HB.out.trans (hbW.mono (PRow.size HROW.out)))
        clear hbW hW k1 k2 cq c1 c2
        go_wp2
        go_roundw
        case rel => exact ⟨h + 1, j, by omega, by omega, hj, by go_num, rfl, HRW.out, fun _ => by rw [Nat.add_sub_cancel]; exact ahd_lt (by rw [HCV.out]; exact HCN.out), H2.out, HBW.out⟩
        case measure => simp [intOf]; omega
      | false =>
        have HCN := hid (of_decide_eq_false hcc)
        go_wp2
        have k1 := cell_regrown c1; have k2 := cell_regrown c2
        have cq := fun d os => HCC.out (grow (redrawn wr d) os) ((below_regrown wr d os).mono (PRow.size HROW.out))
        refine wp_region_quiet_below (by kernel_rfl) (by kernel_rfl) ?_
        go_big_quiet_step (fail)
        go_big_quiet_step (fail)
        go_big_quiet_step (fail)
        go_big_quiet_step (fail)
        go_big_quiet_step (fail)
        go_big_quiet_step (fail)
        go_big_quiet_step (fail)
        go_big_quiet_step (fail)
        go_big_quiet_step (fail)
        go_big_quiet_step (exact Calls.regrown_of (cq _ _))
        go_big_quiet_step (fail)
        refine wpQuiet_nil ?_
        intro W hW'
        obtain ⟨⟨dq, osq⟩, hW⟩ := hW'
        have hbW : Below wr.heap.size wr W := by rw [hW]; exact below_regrown _ _ _
        have HRW := hid (HROW.out.below hbW)
        have HBW := hid (HB.out.trans (hbW.mono (PRow.size HROW.out)))
        clear hbW hW k1 k2 cq c1 c2
        go_wp2
        go_roundw
        case rel => exact ⟨i, h, hi, hih, by omega, rfl, by go_num, HRW.out, H1.out, fun _ => ahd_of HO.out HLS.out (by have q1 := HCN.out; have q2 := HCV.out; omega), HBW.out⟩
        case measure => simp [intOf]; omega
    · have hltI : ¬ (i : Int) < (j : Int) := by omega
      have hje : i = j := by omega
      subst hje
      obtain ⟨q, rfl⟩ : ∃ q, i = q + 1 := ⟨i - 1, by omega⟩
      have haq : a ≤ q := by omega
      have HMG := hid (mrg_up HO.out (f := f) (a := a) (b := b) (i := q + 1) (by have := HS.out; rwa [HM.out] at this) (by omega) hj (fun h => H1.out (by have := HM.out; omega)) H2.out)
      have hqI : ((q + 1 : Nat) : Int) - 1 = (q : Int) := by omega
      clear hrow H1 H2 HS HL HC hi hij
      go_wp2
      go_loopw [13] (fun kv wq => ∃ k : Nat, a ≤ k ∧ k ≤ q ∧ kv = .int .i64 k ∧ PRow wq base g n cap (rot f a (a + 1) (k + 1)) ∧ Below base w wq) (fun kv _ => q - (intOf kv).toNat)
      case atStart => exact ⟨a, Nat.le_refl _, haq, rfl, by rw [rot_none_r]; exact HROW.out, HB.out⟩
      case round =>
        obtain ⟨k, hak, hkq, rfl, hrow, hb2⟩ := hrel
        have HB2 := hid hb2
        have HROW2 := hid hrow
        clear hb2 HROW HB
        by_cases hlt2 : k < q
        · have hkI : (k : Int) < (q : Int) := by omega
          obtain ⟨t, ht⟩ : ∃ t, k + 1 = t := ⟨_, rfl⟩
          have htI : (k : Int) + 1 = (t : Int) := by omega
          have hkn : (k : Int) < (n : Int) := by omega
          have htn : (t : Int) < (n : Int) := by omega
          have hkt : k ≠ t := by omega
          have c1 := hrow.cell (k := k) (by omega)
          have c2 := hrow.cell (k := t) (by omega)
          have f1 := hrow.frz k
          have f2 := hrow.frz t
          have HUP := hid (show sw2 (rot f a (a + 1) (k + 1)) k t = rot f a (a + 1) (t + 1) by rw [← ht]; exact rot_up hak)
          have HT := hid ht
          clear hrow ht
          generalize rot f a (a + 1) (k + 1) = F at *
          go_wp2
          go_big_region
          all_goals go_wp2
          go_roundw
          case rel => exact ⟨t, by omega, by have := HT.out; omega, by go_num, by rw [← HUP.out]; exact (HROW2.out.sw hkt).drew, (HB2.out.trans (HROW2.out.sw_below _ _ _ _)).drew⟩
          case measure => have := HT.out; simp [intOf]; omega
        · have hkI : ¬ (k : Int) < (q : Int) := by omega
          have hkq' : k = q := by omega
          subst hkq'
          clear hrow
          go_wp2
          refine bodyPost_ret (v := .tuple #[]) (by simp [results, Tryz.results223, go_sem]) rfl ?_
          exact ⟨rfl, ⟨_, HROW2.out, HMG.out⟩, HB2.out⟩

set_option maxHeartbeats 3200000 in
set_option maxRecDepth 100000 in
theorem symMerge_last (cv : Value) (c : Nat → Nat → Int) (base g n cap a m b : Nat) (f : Nat → Nat) (w : World) (hc : OrdC c) (hcmp : CmpC cv c base n w) (hr : PRow w base g n cap f) (hv : ∀ k, k < n → f k < n) (ham : a + 1 < m) (hmb : b = m + 1) (hb : b ≤ n) (hn : n ≤ 1000000)
    (hs : Srt c f a m) (hlr : Lss f a m b) :
    Calls Tryz.prog 223 #[.slice (some ⟨g, 0, none⟩) n cap, .int .i64 a, .int .i64 m, .int .i64 b, (.func (.func 189) #[] #[cv])] w fun e w' => e = .returned (.tuple #[]) ∧ (∃ f', PRow w' base g n cap f' ∧ Mrg c f f' a b) ∧ Below base w w' := by
  have HR := hid hr
  have HC := hid hcmp
  have HO := hid hc
  have HV := hid hv
  have HS := hid hs
  have HL := hid hlr
  have e1 : ((m : Int) - (a : Int) == 1) = false := beq_eq_false_iff_ne.2 (by omega)
  have e2 : (b : Int) - (m : Int) = 1 := by omega
  have HM := hid hmb
  have hmb' : m < b := by omega
  clear hr hcmp hv hs hlr hc hmb
  go_enter Tryz.func223, Tryz.ntmps223
  go_wp2
  go_loopw [14, 15] (fun iv jv wr => ∃ i j : Nat, a ≤ i ∧ i ≤ j ∧ j ≤ m ∧ iv = .int .i64 i ∧ jv = .int .i64 j ∧ PRow wr base g n cap f ∧ (a < i → Ahd c (f (i - 1)) (f m)) ∧ (j < m → Ahd c (f m) (f j)) ∧ Below base w wr) (fun iv jv _ => (intOf jv).toNat - (intOf iv).toNat)
  case atStart => exact ⟨a, m, Nat.le_refl _, by omega, Nat.le_refl _, rfl, rfl, HR.out, fun h => absurd h (Nat.lt_irrefl _), fun h => absurd h (Nat.lt_irrefl _), Below.refl _ _⟩
  case round =>
    obtain ⟨i, j, hi, hij, hj, rfl, rfl, hrow, h1, h2, hbr⟩ := hrel
    have HB := hid hbr
    have HROW := hid hrow
    have H1 := hid h1
    have H2 := hid h2
    clear hbr h1 h2 HR e1 e2
    by_cases hlt : i < j
    · have hltI : (i : Int) < (j : Int) := by omega
      obtain ⟨h, hh⟩ : ∃ h, (i + j) / 2 = h := ⟨_, rfl⟩
      have hhI : ((i : Int) + (j : Int)) / 2 = (h : Int) := by omega
      have hhn : (h : Int) < (n : Int) := by omega
      have hmn : (m : Int) < (n : Int) := by omega
      have c1 := hrow.cell (k := m) (by omega)
      have c2 := hrow.cell (k := h) (by omega)
      have HCC := hid (fun W hW => HC.out W (HB.out.trans hW) (f m) (f h) (HV.out m (by omega)) (HV.out h (by omega)))
      have HLS := hid (HL.out h m (by omega) (by omega) (Nat.le_refl _) (by omega))
      have hih : i ≤ h := by omega
      have hhj : h < j := by omega
      clear hrow hh
      obtain ⟨cc, hcv⟩ : ∃ cc, c (f m) (f h) = cc := ⟨_, rfl⟩
      rw [hcv] at HCC
      have HCV := hid hcv
      clear hcv
      cases hcc : decide (cc < 0) with
      | true =>
        have HCN := hid (of_decide_eq_true hcc)
        go_wp2
        have k1 := cell_regrown c1; have k2 := cell_regrown c2
        have cq := fun d os => HCC.out (grow (redrawn wr d) os) ((below_regrown wr d os).mono (PRow.size HROW.out))
        refine wp_region_quiet_below (by kernel_rfl) (by kernel_rfl) ?_
        go_big_quiet_step (fail)
        go_big_quiet_step (fail)
        go_big_quiet_step (fail)
        go_big_quiet_step (fail)
        go_big_quiet_step (fail)
        go_big_quiet_step (fail)
        go_big_quiet_step (fail)
        go_big_quiet_step (fail)
        go_big_quiet_step (fail)
        go_big_quiet_step (exact Calls.regrown_of (cq _ _))
        go_big_quiet_step (fail)
        go_big_quiet_step (fail)
        refine wpQuiet_nil ?_
        intro W hW'
        obtain ⟨⟨dq, osq⟩, hW⟩ := hW'
        have hbW : Below wr.heap.size wr W := by rw [hW]; exact below_regrown _ _ _
        have HRW := hid (HROW.out.below hbW)
        have HBW := hid (HB.out.trans (hbW.mono (PRow.size HROW.out)))
        clear hbW hW k1 k2 cq c1 c2
        go_wp2
        go_roundw
        case rel => exact ⟨i, h, hi, hih, by omega, rfl, by go_num, HRW.out, H1.out, fun _ => ahd_lt (by rw [HCV.out]; exact HCN.out), HBW.out⟩
        case measure => simp [intOf]; omega
      | false =>
        have HCN := hid (of_decide_eq_false hcc)
        go_wp2
        have k1 := cell_regrown c1; have k2 := cell_regrown c2
        have cq := fun d os => HCC.out (grow (redrawn wr d) os) ((below_regrown wr d os).mono (PRow.size HROW.out))
        refine wp_region_quiet_below (by kernel_rfl) (by kernel_rfl) ?_
        go_big_quiet_step (fail)
        go_big_quiet_step (fail)
        go_big_quiet_step (fail)
        go_big_quiet_step (fail)
        go_big_quiet_step (fail)
        go_big_quiet_step (fail)
        go_big_quiet_step (fail)
        go_big_quiet_step (fail)
        go_big_quiet_step (fail)
        go_big_quiet_step (exact Calls.regrown_of (cq _ _))
        go_big_quiet_step (fail)
        go_big_quiet_step (fail)
        refine wpQuiet_nil ?_
        intro W hW'
        obtain ⟨⟨dq, osq⟩, hW⟩ := hW'
        have hbW : Below wr.heap.size wr W := by rw [hW]; exact below_regrown _ _ _
        have HRW := hid (HROW.out.below hbW)
        have HBW := hid (HB.out.trans (hbW.mono (PRow.size HROW.out)))
        clear hbW hW k1 k2 cq c1 c2
        go_wp2
        go_roundw
        case rel => exact ⟨h + 1, j, by omega, by omega, hj, by go_num, rfl, HRW.out, fun _ => by rw [Nat.add_sub_cancel]; exact ahd_of HO.out HLS.out (by have q1 := HCN.out; have q2 := HCV.out; omega), H2.out, HBW.out⟩
        case measure => simp [intOf]; omega
    · have hltI : ¬ (i : Int) < (j : Int) := by omega
      have hje : i = j := by omega
      subst hje
      have HMG := hid (mrg_down HO.out (f := f) (a := a) (m := m) (i := i) HS.out hi hj H1.out H2.out)
      clear hrow H1 H2 HS HL HC hij
      go_wp2
      go_loopw [17] (fun kv wq => ∃ k : Nat, i ≤ k ∧ k ≤ m ∧ kv = .int .i64 k ∧ PRow wq base g n cap (rot f k m (m + 1)) ∧ Below base w wq) (fun kv _ => (intOf kv).toNat)
      case atStart => exact ⟨m, hj, Nat.le_refl _, rfl, by rw [rot_none_l]; exact HROW.out, HB.out⟩
      case round =>
        obtain ⟨k, hik, hkm, rfl, hrow, hb2⟩ := hrel
        have HB2 := hid hb2
        clear hb2 HROW HB
        by_cases hlt2 : i < k
        · have hkI : (i : Int) < (k : Int) := by omega
          obtain ⟨t, ht⟩ : ∃ t, k = t + 1 := ⟨k - 1, by omega⟩
          have htI : (k : Int) - 1 = (t : Int) := by omega
          have hkn : (k : Int) < (n : Int) := by omega
          have htn : (t : Int) < (n : Int) := by omega
          have hkt : k ≠ t := by omega
          have HUP := hid (show sw2 (rot f k m (m + 1)) k t = rot f t m (m + 1) by rw [ht]; exact rot_down (by omega))
          have hit : i ≤ t := by omega
          have htm : t ≤ m := by omega
          have htk : t < k := by omega
          clear ht
          have c1 := hrow.cell (k := k) (by omega)
          have c2 := hrow.cell (k := t) (by omega)
          have f1 := hrow.frz k
          have f2 := hrow.frz t
          have HROW2 := hid hrow
          clear hrow
          generalize rot f k m (m + 1) = F at *
          go_wp2
          go_big_region
          all_goals go_wp2
          go_roundw
          case rel => exact ⟨t, hit, htm, by go_num, by rw [← HUP.out]; exact (HROW2.out.sw hkt).drew, (HB2.out.trans (HROW2.out.sw_below _ _ _ _)).drew⟩
          case measure => simp [intOf]; omega
        · have hkI : ¬ (i : Int) < (k : Int) := by omega
          have hkq' : k = i := by omega
          subst hkq'
          have HROW2 := hid hrow
          clear hrow
          go_wp2
          refine bodyPost_ret (v := .tuple #[]) (by simp [results, Tryz.results223, go_sem]) rfl ?_
          exact ⟨rfl, ⟨_, HROW2.out, by rw [HM.out]; exact HMG.out⟩, HB2.out⟩

end Go.Proofs.YtkdnkmheidbfdaaGreat

namespace Go.Proofs.YtkdnkmheidbfdaaGreat
open Go.RowKit Go.Sort

theorem Srt.keep {c : Nat → Nat → Int} {g h : Nat → Nat} {a d x y : Nat} (m1 : Mrg c g h a d) (hs : Srt c g x y) (hx : d ≤ x := by omega) : Srt c h x y := fun i j g1 g2 g3 => by
  rw [m1.out i (by omega), m1.out j (by omega)]
  exact hs i j g1 g2 g3
theorem Lss.keep {c : Nat → Nat → Int} {g h : Nat → Nat} {a d x y z : Nat} (m1 : Mrg c g h a d) (hs : Lss g x y z) (hx : d ≤ x := by omega) : Lss h x y z := fun i j g1 g2 g3 g4 => by
  rw [m1.out i (by omega), m1.out j (by omega)]
  exact hs i j g1 g2 g3 g4
theorem rot_in {f : Nat → Nat} {a s m e b : Nat} (h1 : a ≤ s) (h2 : s ≤ m) (h3 : m ≤ e) (h4 : e ≤ b) : (∀ t, t < a ∨ b ≤ t → rot f s m e t = f t) ∧ ∀ t, a ≤ t → t < b → ∃ u, a ≤ u ∧ u < b ∧ rot f s m e t = f u := by
  refine ⟨fun t ht => rot_out (by omega) h2 t (by omega), fun t g1 g2 => ?_⟩
  by_cases h : s ≤ t ∧ t < e
  · obtain ⟨u, u1, u2, q⟩ := rot_of (f := f) h2 h3 t h.1 h.2
    exact ⟨u, by omega, by omega, q⟩
  · exact ⟨t, g1, g2, rot_out (by omega) h2 t (by omega)⟩
set_option maxHeartbeats 12800000 in
set_option maxRecDepth 100000 in
theorem symMerge_hi (cv : Value) (c : Nat → Nat → Int) (base g n cap a m b : Nat) (f : Nat → Nat) (w : World) (hc : OrdC c) (hcmp : CmpC cv c base n w) (hr : PRow w base g n cap f) (hv : ∀ k, k < n → f k < n) (ham : a + 1 < m) (hmb : m + 1 < b) (hb : b ≤ n) (hn : n ≤ 1000000)
    (hs1 : Srt c f a m) (hs2 : Srt c f m b) (hlr : Lss f a m b) (hmd : (a + b) / 2 < m)
    (ih : ∀ (a' m' b' : Nat) (F : Nat → Nat) (W : World), b' - a' < b - a → a' < m' → m' < b' → b' ≤ n → CmpC cv c base n W → PRow W base g n cap F → (∀ k, k < n → F k < n) → Srt c F a' m' → Srt c F m' b' → Lss F a' m' b' →
      Calls Tryz.prog 223 #[.slice (some ⟨g, 0, none⟩) n cap, .int .i64 (a' : Nat), .int .i64 (m' : Nat), .int .i64 (b' : Nat), (.func (.func 189) #[] #[cv])] W fun e w' => e = .returned (.tuple #[]) ∧ (∃ f', PRow w' base g n cap f' ∧ Mrg c F f' a' b') ∧ Below base W w') :
    Calls Tryz.prog 223 #[.slice (some ⟨g, 0, none⟩) n cap, .int .i64 (a : Nat), .int .i64 (m : Nat), .int .i64 (b : Nat), (.func (.func 189) #[] #[cv])] w fun e w' => e = .returned (.tuple #[]) ∧ (∃ f', PRow w' base g n cap f' ∧ Mrg c f f' a b) ∧ Below base w w' := by
  have HR := hid hr
  have HC := hid hcmp
  have HO := hid hc
  have HV := hid hv
  have HS1 := hid hs1
  have HS2 := hid hs2
  have HL := hid hlr
  have IH := hid ih
  have e1 : ((m : Int) - (a : Int) == 1) = false := beq_eq_false_iff_ne.2 (by omega)
  have e2 : ((b : Int) - (m : Int) == 1) = false := beq_eq_false_iff_ne.2 (by omega)
  obtain ⟨d, hd⟩ : ∃ d, (a + b) / 2 = d := ⟨_, rfl⟩
  have hdI : ((a : Int) + (b : Int)) / 2 = (d : Int) := by omega
  obtain ⟨N, hN⟩ : ∃ N, d + m = N := ⟨_, rfl⟩
  have hNI : (d : Int) + (m : Int) = (N : Int) := by omega
  obtain ⟨p, hp⟩ : ∃ p, N - 1 = p := ⟨_, rfl⟩
  have hpI : (N : Int) - 1 = (p : Int) := by omega
  rw [hd] at hmd
  have hda : a + 2 ≤ d := by omega
  have hdb : d + 2 ≤ b := by omega
  clear hr hcmp hv hs1 hs2 hlr hc ih
  have hmdI : (d : Int) < (m : Int) := by omega
  obtain ⟨s0, hs0'⟩ : ∃ s0, N - b = s0 := ⟨_, rfl⟩
  have hs0I : (N : Int) - (b : Int) = (s0 : Int) := by omega
  go_enter Tryz.func223, Tryz.ntmps223
  go_wp2
  go_loopw [20, 21] (fun sv rv wr => ∃ s r : Nat, s0 ≤ s ∧ s ≤ r ∧ r ≤ d ∧ sv = .int .i64 s ∧ rv = .int .i64 r ∧ PRow wr base g n cap f ∧ (s0 < s → Ahd c (f (s - 1)) (f (N - s))) ∧ (r < d → Ahd c (f (N - 1 - r)) (f r)) ∧ Below base w wr) (fun sv rv _ => (intOf rv).toNat - (intOf sv).toNat)
  case atStart => exact ⟨s0, d, Nat.le_refl _, by omega, Nat.le_refl _, rfl, rfl, HR.out, fun h => absurd h (Nat.lt_irrefl _), fun h => absurd h (Nat.lt_irrefl _), Below.refl _ _⟩
  case round =>
    obtain ⟨s, r, hs0, hsr, hr0, rfl, rfl, hrow, h1, h2, hbr⟩ := hrel
    have HB := hid hbr
    have HROW := hid hrow
    have H1 := hid h1
    have H2 := hid h2
    clear hbr h1 h2 HR
    by_cases hlt : s < r
    · have hltI : (s : Int) < (r : Int) := by omega
      obtain ⟨q, hq⟩ : ∃ q, (s + r) / 2 = q := ⟨_, rfl⟩
      have hqI : ((s : Int) + (r : Int)) / 2 = (q : Int) := by omega
      have hqs : s ≤ q := by omega
      have hqr : q < r := by omega
      obtain ⟨t, ht⟩ : ∃ t, N - 1 - q = t := ⟨_, rfl⟩
      have htI : (p : Int) - (q : Int) = (t : Int) := by omega
      have htm : m ≤ t := by omega
      have htb : t < b := by omega
      have htn : (t : Int) < (n : Int) := by omega
      have hqn : (q : Int) < (n : Int) := by omega
      have hqa : a ≤ q := by omega
      have hqm : q < m := by omega
      have HT := hid (show N - 1 - q = t ∧ N - (q + 1) = t from ⟨ht, by omega⟩)
      have c1 := hrow.cell (k := t) (by omega)
      have c2 := hrow.cell (k := q) (by omega)
      have HCC := hid (fun W hW => HC.out W (HB.out.trans hW) (f t) (f q) (HV.out t (by omega)) (HV.out q (by omega)))
      have HLS := hid (HL.out q t hqa hqm htm htb)
      clear hrow hq ht
      obtain ⟨cc, hcv⟩ : ∃ cc, c (f t) (f q) = cc := ⟨_, rfl⟩
      rw [hcv] at HCC
      have HCV := hid hcv
      clear hcv
      cases hcc : decide (cc < 0) with
      | true =>
        have HCN := hid (of_decide_eq_true hcc)
        go_wp2
        have k1 := cell_regrown c1; have k2 := cell_regrown c2
        have cq := fun d os => HCC.out (grow (redrawn wr d) os) ((below_regrown wr d os).mono (PRow.size HROW.out))
        refine wp_region_quiet_below (by kernel_rfl) (by kernel_rfl) ?_
        go_big_quiet_step (fail)
        go_big_quiet_step (fail)
        go_big_quiet_step (fail)
        go_big_quiet_step (fail)
        go_big_quiet_step (fail)
        go_big_quiet_step (fail)
        go_big_quiet_step (fail)
        go_big_quiet_step (fail)
        go_big_quiet_step (fail)
        go_big_quiet_step (fail)
        go_big_quiet_step (fail)
        go_big_quiet_step (exact Calls.regrown_of (cq _ _))
        go_big_quiet_step (fail)
        go_big_quiet_step (fail)
        refine wpQuiet_nil ?_
        intro W hW'
        obtain ⟨⟨dq, osq⟩, hW⟩ := hW'
        have hbW : Below wr.heap.size wr W := by rw [hW]; exact below_regrown _ _ _
        have HRW := hid (HROW.out.below hbW)
        have HBW := hid (HB.out.trans (hbW.mono (PRow.size HROW.out)))
        clear hbW hW k1 k2 cq c1 c2
        go_wp2
        go_roundw
        case rel => exact ⟨s, q, hs0, hqs, by omega, rfl, by go_num, HRW.out, H1.out, fun _ => by rw [HT.out.1]; exact ahd_lt (by rw [HCV.out]; exact HCN.out), HBW.out⟩
        case measure => simp [intOf]; omega
      | false =>
        have HCN := hid (of_decide_eq_false hcc)
        go_wp2
        have k1 := cell_regrown c1; have k2 := cell_regrown c2
        have cq := fun d os => HCC.out (grow (redrawn wr d) os) ((below_regrown wr d os).mono (PRow.size HROW.out))
        refine wp_region_quiet_below (by kernel_rfl) (by kernel_rfl) ?_
        go_big_quiet_step (fail)
        go_big_quiet_step (fail)
        go_big_quiet_step (fail)
        go_big_quiet_step (fail)
        go_big_quiet_step (fail)
        go_big_quiet_step (fail)
        go_big_quiet_step (fail)
        go_big_quiet_step (fail)
        go_big_quiet_step (fail)
        go_big_quiet_step (fail)
        go_big_quiet_step (fail)
        go_big_quiet_step (exact Calls.regrown_of (cq _ _))
        go_big_quiet_step (fail)
        go_big_quiet_step (fail)
        refine wpQuiet_nil ?_
        intro W hW'
        obtain ⟨⟨dq, osq⟩, hW⟩ := hW'
        have hbW : Below wr.heap.size wr W := by rw [hW]; exact below_regrown _ _ _
        have HRW := hid (HROW.out.below hbW)
        have HBW := hid (HB.out.trans (hbW.mono (PRow.size HROW.out)))
        clear hbW hW k1 k2 cq c1 c2
        go_wp2
        go_roundw
        case rel => exact ⟨q + 1, r, by omega, by omega, hr0, by go_num, rfl, HRW.out, fun _ => by rw [Nat.add_sub_cancel, HT.out.2]; exact ahd_of HO.out HLS.out (by have q1 := HCN.out; have q2 := HCV.out; omega), H2.out, HBW.out⟩
        case measure => simp [intOf]; omega
    · have hltI : ¬ (s : Int) < (r : Int) := by omega
      have hje : s = r := by omega
      subst hje
      obtain ⟨e, he⟩ : ∃ e, N - s = e := ⟨_, rfl⟩
      have heI : (N : Int) - (s : Int) = (e : Int) := by omega
      have hde : d + m - s = e := by omega
      have HH := hid (halves HO.out (f := f) (a := a) (m := m) (b := b) (d := d) (s := s) (by omega) (by omega) (by omega) (by omega) (by omega) (by omega) (by omega) (by omega) (by omega) HS1.out HS2.out HL.out
        (fun g1 g2 => by have q := H1.out (by omega); rwa [show N - s = d + m - s by omega] at q) (fun g1 g2 => by have q := H2.out (by omega); rwa [show N - 1 - s = d + m - s - 1 by omega] at q))
      rw [hde] at HH
      have HIN := hid (rot_in (f := f) (a := a) (s := s) (m := m) (e := e) (b := b) (by omega) (by omega) (by omega) (by omega))
      have HGV := hid (rot_val (f := f) (a := s) (m := m) (b := e) (n := n) (by omega) (by omega) (by omega) HV.out)
      obtain ⟨G, hG⟩ : ∃ G, rot f s m e = G := ⟨_, rfl⟩
      rw [hG] at HH HIN HGV
      have HG := hid hG
      have HSM := hid he
      have hsm : s ≤ m := by omega
      have hsd : s ≤ d := by omega
      have hsa : a ≤ s := by omega
      have heb : e ≤ b := by omega
      have hme : m ≤ e := by omega
      clear hrow H1 H2 hsr hG he
      by_cases hA : s < m
      · by_cases hB : s < d
        · by_cases hC : a < s
          · by_cases hD : e < b
            · have kA : (s : Int) < (m : Int) := by omega
              have kB : (m : Int) < (e : Int) := by omega
              have kB2 : (s : Int) < (d : Int) := by omega
              have kC : (a : Int) < (s : Int) := by omega
              have kE : (d : Int) < (e : Int) := by omega
              have kD : (e : Int) < (b : Int) := by omega
              have HRC := hid (rotate_any (.func (.func 189) #[] #[cv]) base g n cap s m e f wr HROW.out (by omega) (by omega) (by omega) hn)
              have IHL := hid (fun W hW hP => IH.out a s d G W (by omega) (by omega) (by omega) (by omega) (HC.out.on hW) hP HGV.out HH.out.l1 HH.out.l2 HH.out.ll)
              have IHR := hid (fun W F hW hP (hM : Mrg c G F a d) => IH.out d e b F W (by omega) (by omega) (by omega) (by omega) (HC.out.on hW) hP (Mrg.val hM (by omega) HGV.out) (Srt.keep hM HH.out.r1) (Srt.keep hM HH.out.r2) (Lss.keep hM HH.out.rl))
              clear HROW HSM
              go_wp2_with (first
                | (go_at_call 226; refine HRC.out.mono ?_; rintro e w1 ⟨rfl, hr1, hb1⟩; have HP := hid (show PRow w1 base g n cap G by rw [← HG.out]; exact hr1); have HBX := hid (HB.out.trans hb1); clear hr1 hb1 HRC HB)
                | (go_at_call 223; refine (IHL.out _ HBX.out HP.out).mono ?_; rintro e w2 ⟨rfl, ⟨F2, hp2, hm2⟩, hb2⟩; have HP2 := hid hp2; have HML := hid hm2; have HBX2 := hid (HBX.out.trans hb2); clear hp2 hm2 hb2 IHL HP HBX)
                | (go_at_call 223; refine (IHR.out _ _ HBX2.out HP2.out HML.out).mono ?_; rintro e w3 ⟨rfl, ⟨F3, hp3, hm3⟩, hb3⟩; have HP3 := hid hp3; have HMR := hid hm3; have HBX3 := hid (HBX2.out.trans hb3); clear hp3 hm3 hb3 IHR))
              go_end0
              exact ⟨rfl, ⟨_, HP3.out, mrg_both (by omega) (by omega) HIN.out HH.out.lr HML.out HMR.out⟩, HBX3.out⟩
            · have kA : (s : Int) < (m : Int) := by omega
              have kB : (m : Int) < (e : Int) := by omega
              have kB2 : (s : Int) < (d : Int) := by omega
              have kC : (a : Int) < (s : Int) := by omega
              have kE : (d : Int) < (e : Int) := by omega
              have kD : ¬ (e : Int) < (b : Int) := by omega
              have HRC := hid (rotate_any (.func (.func 189) #[] #[cv]) base g n cap s m e f wr HROW.out (by omega) (by omega) (by omega) hn)
              have IHL := hid (fun W hW hP => IH.out a s d G W (by omega) (by omega) (by omega) (by omega) (HC.out.on hW) hP HGV.out HH.out.l1 HH.out.l2 HH.out.ll)
              have HSR := hid (show Srt c G d b by have q := HH.out.r1; rwa [show e = b by omega] at q)
              clear HROW HSM
              go_wp2_with (first
                | (go_at_call 226; refine HRC.out.mono ?_; rintro e w1 ⟨rfl, hr1, hb1⟩; have HP := hid (show PRow w1 base g n cap G by rw [← HG.out]; exact hr1); have HBX := hid (HB.out.trans hb1); clear hr1 hb1 HRC HB)
                | (go_at_call 223; refine (IHL.out _ HBX.out HP.out).mono ?_; rintro e w2 ⟨rfl, ⟨F2, hp2, hm2⟩, hb2⟩; have HP2 := hid hp2; have HML := hid hm2; have HBX2 := hid (HBX.out.trans hb2); clear hp2 hm2 hb2 IHL HP HBX))
              go_end0
              exact ⟨rfl, ⟨_, HP2.out, mrg_both (by omega) (by omega) HIN.out HH.out.lr HML.out (Mrg.refl (Srt.keep HML.out HSR.out))⟩, HBX2.out⟩
          · by_cases hD : e < b
            · have kA : (s : Int) < (m : Int) := by omega
              have kB : (m : Int) < (e : Int) := by omega
              have kB2 : (s : Int) < (d : Int) := by omega
              have kC : ¬ (a : Int) < (s : Int) := by omega
              have kE : (d : Int) < (e : Int) := by omega
              have kD : (e : Int) < (b : Int) := by omega
              have HRC := hid (rotate_any (.func (.func 189) #[] #[cv]) base g n cap s m e f wr HROW.out (by omega) (by omega) (by omega) hn)
              have HSL := hid (show Srt c G a d by have q := HH.out.l2; rwa [show s = a by omega] at q)
              have IHR := hid (fun W F hW hP (hM : Mrg c G F a d) => IH.out d e b F W (by omega) (by omega) (by omega) (by omega) (HC.out.on hW) hP (Mrg.val hM (by omega) HGV.out) (Srt.keep hM HH.out.r1) (Srt.keep hM HH.out.r2) (Lss.keep hM HH.out.rl))
              have HML := hid (Mrg.refl HSL.out)
              clear HROW HSM
              go_wp2_with (first
                | (go_at_call 226; refine HRC.out.mono ?_; rintro e w1 ⟨rfl, hr1, hb1⟩; have HP := hid (show PRow w1 base g n cap G by rw [← HG.out]; exact hr1); have HBX := hid (HB.out.trans hb1); clear hr1 hb1 HRC HB)
                | (go_at_call 223; refine (IHR.out _ _ HBX.out HP.out HML.out).mono ?_; rintro e w3 ⟨rfl, ⟨F3, hp3, hm3⟩, hb3⟩; have HP3 := hid hp3; have HMR := hid hm3; have HBX3 := hid (HBX.out.trans hb3); clear hp3 hm3 hb3 IHR))
              go_end0
              exact ⟨rfl, ⟨_, HP3.out, mrg_both (by omega) (by omega) HIN.out HH.out.lr HML.out HMR.out⟩, HBX3.out⟩
            · have kA : (s : Int) < (m : Int) := by omega
              have kB : (m : Int) < (e : Int) := by omega
              have kB2 : (s : Int) < (d : Int) := by omega
              have kC : ¬ (a : Int) < (s : Int) := by omega
              have kE : (d : Int) < (e : Int) := by omega
              have kD : ¬ (e : Int) < (b : Int) := by omega
              have HRC := hid (rotate_any (.func (.func 189) #[] #[cv]) base g n cap s m e f wr HROW.out (by omega) (by omega) (by omega) hn)
              have HSL := hid (show Srt c G a d by have q := HH.out.l2; rwa [show s = a by omega] at q)
              have HSR := hid (show Srt c G d b by have q := HH.out.r1; rwa [show e = b by omega] at q)
              clear HROW HSM
              go_wp2_with (first
                | (go_at_call 226; refine HRC.out.mono ?_; rintro e w1 ⟨rfl, hr1, hb1⟩; have HP := hid (show PRow w1 base g n cap G by rw [← HG.out]; exact hr1); have HBX := hid (HB.out.trans hb1); clear hr1 hb1 HRC HB))
              go_end0
              exact ⟨rfl, ⟨_, HP.out, mrg_both (by omega) (by omega) HIN.out HH.out.lr (Mrg.refl HSL.out) (Mrg.refl (Srt.keep (Mrg.refl HSL.out) HSR.out))⟩, HBX.out⟩
        · by_cases hD : e < b
          · have kA : (s : Int) < (m : Int) := by omega
            have kB : ¬ (m : Int) < (e : Int) := by omega
            have kB2 : ¬ (s : Int) < (d : Int) := by omega
            have kC : (a : Int) < (s : Int) := by omega
            have kE : (d : Int) < (e : Int) := by omega
            have kD : (e : Int) < (b : Int) := by omega
            have HGE := hid (show rot f s m e = f by rw [show e = m by omega]; exact rot_none_r)
            have HSL := hid (show Srt c G a d by have q := HH.out.l1; rwa [show s = d by omega] at q)
            have IHR := hid (fun W F hW hP (hM : Mrg c G F a d) => IH.out d e b F W (by omega) (by omega) (by omega) (by omega) (HC.out.on hW) hP (Mrg.val hM (by omega) HGV.out) (Srt.keep hM HH.out.r1) (Srt.keep hM HH.out.r2) (Lss.keep hM HH.out.rl))
            have HP := hid (show PRow wr base g n cap G by rw [← HG.out, HGE.out]; exact HROW.out)
            have HBX := HB
            clear HB
            have HML := hid (Mrg.refl HSL.out)
            clear HROW HSM
            go_wp2_with (first
              | (go_at_call 223; refine (IHR.out _ _ HBX.out HP.out HML.out).mono ?_; rintro e w3 ⟨rfl, ⟨F3, hp3, hm3⟩, hb3⟩; have HP3 := hid hp3; have HMR := hid hm3; have HBX3 := hid (HBX.out.trans hb3); clear hp3 hm3 hb3 IHR))
            go_end0
            exact ⟨rfl, ⟨_, HP3.out, mrg_both (by omega) (by omega) HIN.out HH.out.lr HML.out HMR.out⟩, HBX3.out⟩
          · have kA : (s : Int) < (m : Int) := by omega
            have kB : ¬ (m : Int) < (e : Int) := by omega
            have kB2 : ¬ (s : Int) < (d : Int) := by omega
            have kC : (a : Int) < (s : Int) := by omega
            have kE : (d : Int) < (e : Int) := by omega
            have kD : ¬ (e : Int) < (b : Int) := by omega
            have HGE := hid (show rot f s m e = f by rw [show e = m by omega]; exact rot_none_r)
            have HSL := hid (show Srt c G a d by have q := HH.out.l1; rwa [show s = d by omega] at q)
            have HSR := hid (show Srt c G d b by have q := HH.out.r1; rwa [show e = b by omega] at q)
            have HP := hid (show PRow wr base g n cap G by rw [← HG.out, HGE.out]; exact HROW.out)
            have HBX := HB
            clear HB
            clear HROW HSM
            go_wp2
            go_end0
            exact ⟨rfl, ⟨_, HP.out, mrg_both (by omega) (by omega) HIN.out HH.out.lr (Mrg.refl HSL.out) (Mrg.refl (Srt.keep (Mrg.refl HSL.out) HSR.out))⟩, HBX.out⟩
      · omega
end Go.Proofs.YtkdnkmheidbfdaaGreat

namespace Go.Proofs.YtkdnkmheidbfdaaGreat
open Go.RowKit Go.Sort

set_option maxHeartbeats 12800000 in
set_option maxRecDepth 100000 in
theorem symMerge_lo (cv : Value) (c : Nat → Nat → Int) (base g n cap a m b : Nat) (f : Nat → Nat) (w : World) (hc : OrdC c) (hcmp : CmpC cv c base n w) (hr : PRow w base g n cap f) (hv : ∀ k, k < n → f k < n) (ham : a + 1 < m) (hmb : m + 1 < b) (hb : b ≤ n) (hn : n ≤ 1000000)
    (hs1 : Srt c f a m) (hs2 : Srt c f m b) (hlr : Lss f a m b) (hmd : ¬ (a + b) / 2 < m)
    (ih : ∀ (a' m' b' : Nat) (F : Nat → Nat) (W : World), b' - a' < b - a → a' < m' → m' < b' → b' ≤ n → CmpC cv c base n W → PRow W base g n cap F → (∀ k, k < n → F k < n) → Srt c F a' m' → Srt c F m' b' → Lss F a' m' b' →
      Calls Tryz.prog 223 #[.slice (some ⟨g, 0, none⟩) n cap, .int .i64 (a' : Nat), .int .i64 (m' : Nat), .int .i64 (b' : Nat), (.func (.func 189) #[] #[cv])] W fun e w' => e = .returned (.tuple #[]) ∧ (∃ f', PRow w' base g n cap f' ∧ Mrg c F f' a' b') ∧ Below base W w') :
    Calls Tryz.prog 223 #[.slice (some ⟨g, 0, none⟩) n cap, .int .i64 (a : Nat), .int .i64 (m : Nat), .int .i64 (b : Nat), (.func (.func 189) #[] #[cv])] w fun e w' => e = .returned (.tuple #[]) ∧ (∃ f', PRow w' base g n cap f' ∧ Mrg c f f' a b) ∧ Below base w w' := by
  have HR := hid hr
  have HC := hid hcmp
  have HO := hid hc
  have HV := hid hv
  have HS1 := hid hs1
  have HS2 := hid hs2
  have HL := hid hlr
  have IH := hid ih
  have e1 : ((m : Int) - (a : Int) == 1) = false := beq_eq_false_iff_ne.2 (by omega)
  have e2 : ((b : Int) - (m : Int) == 1) = false := beq_eq_false_iff_ne.2 (by omega)
  obtain ⟨d, hd⟩ : ∃ d, (a + b) / 2 = d := ⟨_, rfl⟩
  have hdI : ((a : Int) + (b : Int)) / 2 = (d : Int) := by omega
  obtain ⟨N, hN⟩ : ∃ N, d + m = N := ⟨_, rfl⟩
  have hNI : (d : Int) + (m : Int) = (N : Int) := by omega
  obtain ⟨p, hp⟩ : ∃ p, N - 1 = p := ⟨_, rfl⟩
  have hpI : (N : Int) - 1 = (p : Int) := by omega
  rw [hd] at hmd
  have hda : a + 2 ≤ d := by omega
  have hdb : d + 2 ≤ b := by omega
  clear hr hcmp hv hs1 hs2 hlr hc ih
  have hmdI : ¬ (d : Int) < (m : Int) := by omega
  go_enter Tryz.func223, Tryz.ntmps223
  go_wp2
  go_loopw [20, 21] (fun sv rv wr => ∃ s r : Nat, a ≤ s ∧ s ≤ r ∧ r ≤ m ∧ sv = .int .i64 s ∧ rv = .int .i64 r ∧ PRow wr base g n cap f ∧ (a < s → Ahd c (f (s - 1)) (f (N - s))) ∧ (r < m → Ahd c (f (N - 1 - r)) (f r)) ∧ Below base w wr) (fun sv rv _ => (intOf rv).toNat - (intOf sv).toNat)
  case atStart => exact ⟨a, m, Nat.le_refl _, by omega, Nat.le_refl _, rfl, rfl, HR.out, fun h => absurd h (Nat.lt_irrefl _), fun h => absurd h (Nat.lt_irrefl _), Below.refl _ _⟩
  case round =>
    obtain ⟨s, r, hs0, hsr, hr0, rfl, rfl, hrow, h1, h2, hbr⟩ := hrel
    have HB := hid hbr
    have HROW := hid hrow
    have H1 := hid h1
    have H2 := hid h2
    clear hbr h1 h2 HR
    by_cases hlt : s < r
    · have hltI : (s : Int) < (r : Int) := by omega
      obtain ⟨q, hq⟩ : ∃ q, (s + r) / 2 = q := ⟨_, rfl⟩
      have hqI : ((s : Int) + (r : Int)) / 2 = (q : Int) := by omega
      have hqs : s ≤ q := by omega
      have hqr : q < r := by omega
      obtain ⟨t, ht⟩ : ∃ t, N - 1 - q = t := ⟨_, rfl⟩
      have htI : (p : Int) - (q : Int) = (t : Int) := by omega
      have htm : m ≤ t := by omega
      have htb : t < b := by omega
      have htn : (t : Int) < (n : Int) := by omega
      have hqn : (q : Int) < (n : Int) := by omega
      have hqa : a ≤ q := by omega
      have hqm : q < m := by omega
      have HT := hid (show N - 1 - q = t ∧ N - (q + 1) = t from ⟨ht, by omega⟩)
      have c1 := hrow.cell (k := t) (by omega)
      have c2 := hrow.cell (k := q) (by omega)
      have HCC := hid (fun W hW => HC.out W (HB.out.trans hW) (f t) (f q) (HV.out t (by omega)) (HV.out q (by omega)))
      have HLS := hid (HL.out q t hqa hqm htm htb)
      clear hrow hq ht
      obtain ⟨cc, hcv⟩ : ∃ cc, c (f t) (f q) = cc := ⟨_, rfl⟩
      rw [hcv] at HCC
      have HCV := hid hcv
      clear hcv
      cases hcc : decide (cc < 0) with
      | true =>
        have HCN := hid (of_decide_eq_true hcc)
        go_wp2
        have k1 := cell_regrown c1; have k2 := cell_regrown c2
        have cq := fun d os => HCC.out (grow (redrawn wr d) os) ((below_regrown wr d os).mono (PRow.size HROW.out))
        refine wp_region_quiet_below (by kernel_rfl) (by kernel_rfl) ?_
        go_big_quiet_step (fail)
        go_big_quiet_step (fail)
        go_big_quiet_step (fail)
        go_big_quiet_step (fail)
        go_big_quiet_step (fail)
        go_big_quiet_step (fail)
        go_big_quiet_step (fail)
        go_big_quiet_step (fail)
        go_big_quiet_step (fail)
        go_big_quiet_step (fail)
        go_big_quiet_step (fail)
        go_big_quiet_step (exact Calls.regrown_of (cq _ _))
        go_big_quiet_step (fail)
        go_big_quiet_step (fail)
        refine wpQuiet_nil ?_
        intro W hW'
        obtain ⟨⟨dq, osq⟩, hW⟩ := hW'
        have hbW : Below wr.heap.size wr W := by rw [hW]; exact below_regrown _ _ _
        have HRW := hid (HROW.out.below hbW)
        have HBW := hid (HB.out.trans (hbW.mono (PRow.size HROW.out)))
        clear hbW hW k1 k2 cq c1 c2
        go_wp2
        go_roundw
        case rel => exact ⟨s, q, hs0, hqs, by omega, rfl, by go_num, HRW.out, H1.out, fun _ => by rw [HT.out.1]; exact ahd_lt (by rw [HCV.out]; exact HCN.out), HBW.out⟩
        case measure => simp [intOf]; omega
      | false =>
        have HCN := hid (of_decide_eq_false hcc)
        go_wp2
        have k1 := cell_regrown c1; have k2 := cell_regrown c2
        have cq := fun d os => HCC.out (grow (redrawn wr d) os) ((below_regrown wr d os).mono (PRow.size HROW.out))
        refine wp_region_quiet_below (by kernel_rfl) (by kernel_rfl) ?_
        go_big_quiet_step (fail)
        go_big_quiet_step (fail)
        go_big_quiet_step (fail)
        go_big_quiet_step (fail)
        go_big_quiet_step (fail)
        go_big_quiet_step (fail)
        go_big_quiet_step (fail)
        go_big_quiet_step (fail)
        go_big_quiet_step (fail)
        go_big_quiet_step (fail)
        go_big_quiet_step (fail)
        go_big_quiet_step (exact Calls.regrown_of (cq _ _))
        go_big_quiet_step (fail)
        go_big_quiet_step (fail)
        refine wpQuiet_nil ?_
        intro W hW'
        obtain ⟨⟨dq, osq⟩, hW⟩ := hW'
        have hbW : Below wr.heap.size wr W := by rw [hW]; exact below_regrown _ _ _
        have HRW := hid (HROW.out.below hbW)
        have HBW := hid (HB.out.trans (hbW.mono (PRow.size HROW.out)))
        clear hbW hW k1 k2 cq c1 c2
        go_wp2
        go_roundw
        case rel => exact ⟨q + 1, r, by omega, by omega, hr0, by go_num, rfl, HRW.out, fun _ => by rw [Nat.add_sub_cancel, HT.out.2]; exact ahd_of HO.out HLS.out (by have q1 := HCN.out; have q2 := HCV.out; omega), H2.out, HBW.out⟩
        case measure => simp [intOf]; omega
    · have hltI : ¬ (s : Int) < (r : Int) := by omega
      have hje : s = r := by omega
      subst hje
      obtain ⟨e, he⟩ : ∃ e, N - s = e := ⟨_, rfl⟩
      have heI : (N : Int) - (s : Int) = (e : Int) := by omega
      have hde : d + m - s = e := by omega
      have HH := hid (halves HO.out (f := f) (a := a) (m := m) (b := b) (d := d) (s := s) (by omega) (by omega) (by omega) (by omega) (by omega) (by omega) (by omega) (by omega) (by omega) HS1.out HS2.out HL.out
        (fun g1 g2 => by have q := H1.out (by omega); rwa [show N - s = d + m - s by omega] at q) (fun g1 g2 => by have q := H2.out (by omega); rwa [show N - 1 - s = d + m - s - 1 by omega] at q))
      rw [hde] at HH
      have HIN := hid (rot_in (f := f) (a := a) (s := s) (m := m) (e := e) (b := b) (by omega) (by omega) (by omega) (by omega))
      have HGV := hid (rot_val (f := f) (a := s) (m := m) (b := e) (n := n) (by omega) (by omega) (by omega) HV.out)
      obtain ⟨G, hG⟩ : ∃ G, rot f s m e = G := ⟨_, rfl⟩
      rw [hG] at HH HIN HGV
      have HG := hid hG
      have HSM := hid he
      have hsm : s ≤ m := by omega
      have hsd : s ≤ d := by omega
      have hsa : a ≤ s := by omega
      have heb : e ≤ b := by omega
      have hme : m ≤ e := by omega
      clear hrow H1 H2 hsr hG he
      by_cases hA : s < m
      · by_cases hB : s < d
        · by_cases hC : a < s
          · by_cases hD : e < b
            · have kA : (s : Int) < (m : Int) := by omega
              have kB : (m : Int) < (e : Int) := by omega
              have kB2 : (s : Int) < (d : Int) := by omega
              have kC : (a : Int) < (s : Int) := by omega
              have kE : (d : Int) < (e : Int) := by omega
              have kD : (e : Int) < (b : Int) := by omega
              have HRC := hid (rotate_any (.func (.func 189) #[] #[cv]) base g n cap s m e f wr HROW.out (by omega) (by omega) (by omega) hn)
              have IHL := hid (fun W hW hP => IH.out a s d G W (by omega) (by omega) (by omega) (by omega) (HC.out.on hW) hP HGV.out HH.out.l1 HH.out.l2 HH.out.ll)
              have IHR := hid (fun W F hW hP (hM : Mrg c G F a d) => IH.out d e b F W (by omega) (by omega) (by omega) (by omega) (HC.out.on hW) hP (Mrg.val hM (by omega) HGV.out) (Srt.keep hM HH.out.r1) (Srt.keep hM HH.out.r2) (Lss.keep hM HH.out.rl))
              clear HROW HSM
              go_wp2_with (first
                | (go_at_call 226; refine HRC.out.mono ?_; rintro e w1 ⟨rfl, hr1, hb1⟩; have HP := hid (show PRow w1 base g n cap G by rw [← HG.out]; exact hr1); have HBX := hid (HB.out.trans hb1); clear hr1 hb1 HRC HB)
                | (go_at_call 223; refine (IHL.out _ HBX.out HP.out).mono ?_; rintro e w2 ⟨rfl, ⟨F2, hp2, hm2⟩, hb2⟩; have HP2 := hid hp2; have HML := hid hm2; have HBX2 := hid (HBX.out.trans hb2); clear hp2 hm2 hb2 IHL HP HBX)
                | (go_at_call 223; refine (IHR.out _ _ HBX2.out HP2.out HML.out).mono ?_; rintro e w3 ⟨rfl, ⟨F3, hp3, hm3⟩, hb3⟩; have HP3 := hid hp3; have HMR := hid hm3; have HBX3 := hid (HBX2.out.trans hb3); clear hp3 hm3 hb3 IHR))
              go_end0
              exact ⟨rfl, ⟨_, HP3.out, mrg_both (by omega) (by omega) HIN.out HH.out.lr HML.out HMR.out⟩, HBX3.out⟩
            · have kA : (s : Int) < (m : Int) := by omega
              have kB : (m : Int) < (e : Int) := by omega
              have kB2 : (s : Int) < (d : Int) := by omega
              have kC : (a : Int) < (s : Int) := by omega
              have kE : (d : Int) < (e : Int) := by omega
              have kD : ¬ (e : Int) < (b : Int) := by omega
              have HRC := hid (rotate_any (.func (.func 189) #[] #[cv]) base g n cap s m e f wr HROW.out (by omega) (by omega) (by omega) hn)
              have IHL := hid (fun W hW hP => IH.out a s d G W (by omega) (by omega) (by omega) (by omega) (HC.out.on hW) hP HGV.out HH.out.l1 HH.out.l2 HH.out.ll)
              have HSR := hid (show Srt c G d b by have q := HH.out.r1; rwa [show e = b by omega] at q)
              clear HROW HSM
              go_wp2_with (first
                | (go_at_call 226; refine HRC.out.mono ?_; rintro e w1 ⟨rfl, hr1, hb1⟩; have HP := hid (show PRow w1 base g n cap G by rw [← HG.out]; exact hr1); have HBX := hid (HB.out.trans hb1); clear hr1 hb1 HRC HB)
                | (go_at_call 223; refine (IHL.out _ HBX.out HP.out).mono ?_; rintro e w2 ⟨rfl, ⟨F2, hp2, hm2⟩, hb2⟩; have HP2 := hid hp2; have HML := hid hm2; have HBX2 := hid (HBX.out.trans hb2); clear hp2 hm2 hb2 IHL HP HBX))
              go_end0
              exact ⟨rfl, ⟨_, HP2.out, mrg_both (by omega) (by omega) HIN.out HH.out.lr HML.out (Mrg.refl (Srt.keep HML.out HSR.out))⟩, HBX2.out⟩
          · by_cases hD : e < b
            · have kA : (s : Int) < (m : Int) := by omega
              have kB : (m : Int) < (e : Int) := by omega
              have kB2 : (s : Int) < (d : Int) := by omega
              have kC : ¬ (a : Int) < (s : Int) := by omega
              have kE : (d : Int) < (e : Int) := by omega
              have kD : (e : Int) < (b : Int) := by omega
              have HRC := hid (rotate_any (.func (.func 189) #[] #[cv]) base g n cap s m e f wr HROW.out (by omega) (by omega) (by omega) hn)
              have HSL := hid (show Srt c G a d by have q := HH.out.l2; rwa [show s = a by omega] at q)
              have IHR := hid (fun W F hW hP (hM : Mrg c G F a d) => IH.out d e b F W (by omega) (by omega) (by omega) (by omega) (HC.out.on hW) hP (Mrg.val hM (by omega) HGV.out) (Srt.keep hM HH.out.r1) (Srt.keep hM HH.out.r2) (Lss.keep hM HH.out.rl))
              have HML := hid (Mrg.refl HSL.out)
              clear HROW HSM
              go_wp2_with (first
                | (go_at_call 226; refine HRC.out.mono ?_; rintro e w1 ⟨rfl, hr1, hb1⟩; have HP := hid (show PRow w1 base g n cap G by rw [← HG.out]; exact hr1); have HBX := hid (HB.out.trans hb1); clear hr1 hb1 HRC HB)
                | (go_at_call 223; refine (IHR.out _ _ HBX.out HP.out HML.out).mono ?_; rintro e w3 ⟨rfl, ⟨F3, hp3, hm3⟩, hb3⟩; have HP3 := hid hp3; have HMR := hid hm3; have HBX3 := hid (HBX.out.trans hb3); clear hp3 hm3 hb3 IHR))
              go_end0
              exact ⟨rfl, ⟨_, HP3.out, mrg_both (by omega) (by omega) HIN.out HH.out.lr HML.out HMR.out⟩, HBX3.out⟩
            · have kA : (s : Int) < (m : Int) := by omega
              have kB : (m : Int) < (e : Int) := by omega
              have kB2 : (s : Int) < (d : Int) := by omega
              have kC : ¬ (a : Int) < (s : Int) := by omega
              have kE : (d : Int) < (e : Int) := by omega
              have kD : ¬ (e : Int) < (b : Int) := by omega
              have HRC := hid (rotate_any (.func (.func 189) #[] #[cv]) base g n cap s m e f wr HROW.out (by omega) (by omega) (by omega) hn)
              have HSL := hid (show Srt c G a d by have q := HH.out.l2; rwa [show s = a by omega] at q)
              have HSR := hid (show Srt c G d b by have q := HH.out.r1; rwa [show e = b by omega] at q)
              clear HROW HSM
              go_wp2_with (first
                | (go_at_call 226; refine HRC.out.mono ?_; rintro e w1 ⟨rfl, hr1, hb1⟩; have HP := hid (show PRow w1 base g n cap G by rw [← HG.out]; exact hr1); have HBX := hid (HB.out.trans hb1); clear hr1 hb1 HRC HB))
              go_end0
              exact ⟨rfl, ⟨_, HP.out, mrg_both (by omega) (by omega) HIN.out HH.out.lr (Mrg.refl HSL.out) (Mrg.refl (Srt.keep (Mrg.refl HSL.out) HSR.out))⟩, HBX.out⟩
        · omega
      · by_cases hB : s < d
        · have kA : ¬ (s : Int) < (m : Int) := by omega
          have kB2 : (s : Int) < (d : Int) := by omega
          have kC : (a : Int) < (s : Int) := by omega
          have kE : ¬ (d : Int) < (e : Int) := by omega
          have HGE := hid (show rot f s m e = f by rw [show s = m by omega]; exact rot_none_l)
          have IHL := hid (fun W hW hP => IH.out a s d G W (by omega) (by omega) (by omega) (by omega) (HC.out.on hW) hP HGV.out HH.out.l1 HH.out.l2 HH.out.ll)
          have HSR := hid (show Srt c G d b by have q := HH.out.r2; rwa [show e = d by omega] at q)
          have HP := hid (show PRow wr base g n cap G by rw [← HG.out, HGE.out]; exact HROW.out)
          have HBX := HB
          clear HB
          clear HROW HSM
          go_wp2_with (first
            | (go_at_call 223; refine (IHL.out _ HBX.out HP.out).mono ?_; rintro e w2 ⟨rfl, ⟨F2, hp2, hm2⟩, hb2⟩; have HP2 := hid hp2; have HML := hid hm2; have HBX2 := hid (HBX.out.trans hb2); clear hp2 hm2 hb2 IHL HP HBX))
          go_end0
          exact ⟨rfl, ⟨_, HP2.out, mrg_both (by omega) (by omega) HIN.out HH.out.lr HML.out (Mrg.refl (Srt.keep HML.out HSR.out))⟩, HBX2.out⟩
        · have kA : ¬ (s : Int) < (m : Int) := by omega
          have kB2 : ¬ (s : Int) < (d : Int) := by omega
          have kC : (a : Int) < (s : Int) := by omega
          have kE : ¬ (d : Int) < (e : Int) := by omega
          have HGE := hid (show rot f s m e = f by rw [show s = m by omega]; exact rot_none_l)
          have HSL := hid (show Srt c G a d by have q := HH.out.l1; rwa [show s = d by omega] at q)
          have HSR := hid (show Srt c G d b by have q := HH.out.r2; rwa [show e = d by omega] at q)
          have HP := hid (show PRow wr base g n cap G by rw [← HG.out, HGE.out]; exact HROW.out)
          have HBX := HB
          clear HB
          clear HROW HSM
          go_wp2
          go_end0
          exact ⟨rfl, ⟨_, HP.out, mrg_both (by omega) (by omega) HIN.out HH.out.lr (Mrg.refl HSL.out) (Mrg.refl (Srt.keep (Mrg.refl HSL.out) HSR.out))⟩, HBX.out⟩

theorem symMerge_any (cv : Value) (c : Nat → Nat → Int) (base g n cap : Nat) (hc : OrdC c) (hn : n ≤ 1000000) : ∀ (z a m b : Nat) (f : Nat → Nat) (W : World), b - a ≤ z → a < m → m < b → b ≤ n → CmpC cv c base n W → PRow W base g n cap f → (∀ k, k < n → f k < n) → Srt c f a m → Srt c f m b → Lss f a m b →
    Calls Tryz.prog 223 #[.slice (some ⟨g, 0, none⟩) n cap, .int .i64 (a : Nat), .int .i64 (m : Nat), .int .i64 (b : Nat), (.func (.func 189) #[] #[cv])] W fun e w' => e = .returned (.tuple #[]) ∧ (∃ f', PRow w' base g n cap f' ∧ Mrg c f f' a b) ∧ Below base W w'
  | 0, a, m, b, f, W, hz, ham, hmb, _, _, _, _, _, _, _ => by omega
  | z + 1, a, m, b, f, W, hz, ham, hmb, hb, hcmp, hr, hv, hs1, hs2, hl => by
    by_cases h1 : m = a + 1
    · exact symMerge_one cv c base g n cap a m b f W hc hcmp hr hv h1 hmb hb hn hs2 hl
    · by_cases h2 : b = m + 1
      · exact symMerge_last cv c base g n cap a m b f W hc hcmp hr hv (by omega) h2 hb hn hs1 hl
      · have ih := fun a' m' b' F W' (h : b' - a' < b - a) => symMerge_any cv c base g n cap hc hn z a' m' b' F W' (by omega)
        by_cases h3 : (a + b) / 2 < m
        · exact symMerge_hi cv c base g n cap a m b f W hc hcmp hr hv (by omega) (by omega) hb hn hs1 hs2 hl h3 ih
        · exact symMerge_lo cv c base g n cap a m b f W hc hcmp hr hv (by omega) (by omega) hb hn hs1 hs2 hl h3 ih
end Go.Proofs.YtkdnkmheidbfdaaGreat
