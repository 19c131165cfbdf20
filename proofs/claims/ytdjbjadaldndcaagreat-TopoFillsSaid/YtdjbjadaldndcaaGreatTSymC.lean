/-
  The library's symMergeCmpFunc, where the first row is the shorter one; whole.
-/
import Derived.Test.YtdjbjadaldndcaaGreatTSymB
namespace Go.Proofs.YtdjbjadaldndcaaGreat
open Go.RowKit Go.Sort

set_option maxHeartbeats 12800000 in
set_option maxRecDepth 100000 in
theorem symMerge_lo (cv : Value) (c : Nat → Nat → Int) (base g n cap a m b : Nat) (f : Nat → Nat) (w : World) (hc : OrdC c) (hcmp : CmpC cv c base n w) (hr : PRow w base g n cap f) (hv : ∀ k, k < n → f k < n) (ham : a + 1 < m) (hmb : m + 1 < b) (hb : b ≤ n) (hn : n ≤ 1000000)
    (hs1 : Srt c f a m) (hs2 : Srt c f m b) (hlr : Lss f a m b) (hmd : ¬ (a + b) / 2 < m)
    (ih : ∀ (a' m' b' : Nat) (F : Nat → Nat) (W : World), b' - a' < b - a → a' < m' → m' < b' → b' ≤ n → CmpC cv c base n W → PRow W base g n cap F → (∀ k, k < n → F k < n) → Srt c F a' m' → Srt c F m' b' → Lss F a' m' b' →
      Calls Tryz.prog 215 #[.slice (some ⟨g, 0, none⟩) n cap, .int .i64 (a' : Nat), .int .i64 (m' : Nat), .int .i64 (b' : Nat), (.func (.func 178) #[] #[cv])] W fun e w' => e = .returned (.tuple #[]) ∧ (∃ f', PRow w' base g n cap f' ∧ Mrg c F f' a' b') ∧ Below base W w') :
    Calls Tryz.prog 215 #[.slice (some ⟨g, 0, none⟩) n cap, .int .i64 (a : Nat), .int .i64 (m : Nat), .int .i64 (b : Nat), (.func (.func 178) #[] #[cv])] w fun e w' => e = .returned (.tuple #[]) ∧ (∃ f', PRow w' base g n cap f' ∧ Mrg c f f' a b) ∧ Below base w w' := by
  have HR := hid hr
  have HC := hid hcmp
  have HO := hid hc
  have HV := hid hv
  have HS1 := hid hs1
  have HS2 := hid hs2
  have HL := hid hlr
  have IH := hid ih
  have e1 : ((m : Int) - (a : Int) == 1) = false := beq_eq_false_iff_ne.2 (by omega)
  have e2 : ((b : Int) - (m : Int) == 1) = false := beq_eq_false_iff_ne.2 (by omega)
  obtain ⟨d, hd⟩ : ∃ d, (a + b) / 2 = d := ⟨_, rfl⟩
  have hdI : ((a : Int) + (b : Int)) / 2 = (d : Int) := by omega
  obtain ⟨N, hN⟩ : ∃ N, d + m = N := ⟨_, rfl⟩
  have hNI : (d : Int) + (m : Int) = (N : Int) := by omega
  obtain ⟨p, hp⟩ : ∃ p, N - 1 = p := ⟨_, rfl⟩
  have hpI : (N : Int) - 1 = (p : Int) := by omega
  rw [hd] at hmd
  have hda : a + 2 ≤ d := by omega
  have hdb : d + 2 ≤ b := by omega
  clear hr hcmp hv hs1 hs2 hlr hc ih
  have hmdI : ¬ (d : Int) < (m : Int) := by omega
  go_enter Tryz.func215, Tryz.ntmps215
  go_wp2
  go_loopw [20, 21] (fun sv rv wr => ∃ s r : Nat, a ≤ s ∧ s ≤ r ∧ r ≤ m ∧ sv = .int .i64 s ∧ rv = .int .i64 r ∧ PRow wr base g n cap f ∧ (a < s → Ahd c (f (s - 1)) (f (N - s))) ∧ (r < m → Ahd c (f (N - 1 - r)) (f r)) ∧ Below base w wr) (fun sv rv _ => (intOf rv).toNat - (intOf sv).toNat)
  case atStart => exact ⟨a, m, Nat.le_refl _, by omega, Nat.le_refl _, rfl, rfl, HR.out, fun h => absurd h (Nat.lt_irrefl _), fun h => absurd h (Nat.lt_irrefl _), Below.refl _ _⟩
  case round =>
    obtain ⟨s, r, hs0, hsr, hr0, rfl, rfl, hrow, h1, h2, hbr⟩ := hrel
    have HB := hid hbr
    have HROW := hid hrow
    have H1 := hid h1
    have H2 := hid h2
    clear hbr h1 h2 HR
    by_cases hlt : s < r
    · have hltI : (s : Int) < (r : Int) := by omega
      obtain ⟨q, hq⟩ : ∃ q, (s + r) / 2 = q := ⟨_, rfl⟩
      have hqI : ((s : Int) + (r : Int)) / 2 = (q : Int) := by omega
      have hqs : s ≤ q := by omega
      have hqr : q < r := by omega
      obtain ⟨t, ht⟩ : ∃ t, N - 1 - q = t := ⟨_, rfl⟩
      have htI : (p : Int) - (q : Int) = (t : Int) := by omega
      have htm : m ≤ t := by omega
      have htb : t < b := by omega
      have htn : (t : Int) < (n : Int) := by omega
      have hqn : (q : Int) < (n : Int) := by omega
      have hqa : a ≤ q := by omega
      have hqm : q < m := by omega
      have HT := hid (show N - 1 - q = t ∧ N - (q + 1) = t from ⟨ht, by omega⟩)
      have c1 := hrow.cell (k := t) (by omega)
      have c2 := hrow.cell (k := q) (by omega)
      have HCC := hid (fun W hW => HC.out W (HB.out.trans hW) (f t) (f q) (HV.out t (by omega)) (HV.out q (by omega)))
      have HLS := hid (HL.out q t hqa hqm htm htb)
      clear hrow hq ht
      obtain ⟨cc, hcv⟩ : ∃ cc, c (f t) (f q) = cc := ⟨_, rfl⟩
      rw [hcv] at HCC
      have HCV := hid hcv
      clear hcv
      cases hcc : decide (cc < 0) with
      | true =>
        have HCN := hid (of_decide_eq_true hcc)
        go_wp2
        have k1 := cell_regrown c1; have k2 := cell_regrown c2
        have cq := fun d os => HCC.out (grow (redrawn wr d) os) ((below_regrown wr d os).mono (PRow.size HROW.out))
        refine wp_region_quiet_below (by kernel_rfl) (by kernel_rfl) ?_
        go_big_quiet_step (fail)
        go_big_quiet_step (fail)
        go_big_quiet_step (fail)
        go_big_quiet_step (fail)
        go_big_quiet_step (fail)
        go_big_quiet_step (fail)
        go_big_quiet_step (fail)
        go_big_quiet_step (fail)
        go_big_quiet_step (fail)
        go_big_quiet_step (fail)
        go_big_quiet_step (fail)
        go_big_quiet_step (exact Calls.regrown_of (cq _ _))
        go_big_quiet_step (fail)
        go_big_quiet_step (fail)
        refine wpQuiet_nil ?_
        intro W hW'
        obtain ⟨⟨dq, osq⟩, hW⟩ := hW'
        have hbW : Below wr.heap.size wr W := by rw [hW]; exact below_regrown _ _ _
        have HRW := hid (HROW.out.below hbW)
        have HBW := hid (HB.out.trans (hbW.mono (PRow.size HROW.out)))
        clear hbW hW k1 k2 cq c1 c2
        go_wp2
        go_roundw
        case rel => exact ⟨s, q, hs0, hqs, by omega, rfl, by go_num, HRW.out, H1.out, fun _ => by rw [HT.out.1]; exact ahd_lt (by rw [HCV.out]; exact HCN.out), HBW.out⟩
        case measure => simp [intOf]; omega
      | false =>
        have HCN := hid (of_decide_eq_false hcc)
        go_wp2
        have k1 := cell_regrown c1; have k2 := cell_regrown c2
        have cq := fun d os => HCC.out (grow (redrawn wr d) os) ((below_regrown wr d os).mono (PRow.size HROW.out))
        refine wp_region_quiet_below (by kernel_rfl) (by kernel_rfl) ?_
        go_big_quiet_step (fail)
        go_big_quiet_step (fail)
        go_big_quiet_step (fail)
        go_big_quiet_step (fail)
        go_big_quiet_step (fail)
        go_big_quiet_step (fail)
        go_big_quiet_step (fail)
        go_big_quiet_step (fail)
        go_big_quiet_step (fail)
        go_big_quiet_step (fail)
        go_big_quiet_step (fail)
        go_big_quiet_step (exact Calls.regrown_of (cq _ _))
        go_big_quiet_step (fail)
        go_big_quiet_step (fail)
        refine wpQuiet_nil ?_
        intro W hW'
        obtain ⟨⟨dq, osq⟩, hW⟩ := hW'
        have hbW : Below wr.heap.size wr W := by rw [hW]; exact below_regrown _ _ _
        have HRW := hid (HROW.out.below hbW)
        have HBW := hid (HB.out.trans (hbW.mono (PRow.size HROW.out)))
        clear hbW hW k1 k2 cq c1 c2
        go_wp2
        go_roundw
        case rel => exact ⟨q + 1, r, by omega, by omega, hr0, by go_num, rfl, HRW.out, fun _ => by rw [Nat.add_sub_cancel, HT.out.2]; exact ahd_of HO.out HLS.out (by have q1 := HCN.out; have q2 := HCV.out; omega), H2.out, HBW.out⟩
        case measure => simp [intOf]; omega
    · have hltI : ¬ (s : Int) < (r : Int) := by omega
      have hje : s = r := by omega
      subst hje
      obtain ⟨e, he⟩ : ∃ e, N - s = e := ⟨_, rfl⟩
      have heI : (N : Int) - (s : Int) = (e : Int) := by omega
      have hde : d + m - s = e := by omega
      have HH := hid (halves HO.out (f := f) (a := a) (m := m) (b := b) (d := d) (s := s) (by omega) (by omega) (by omega) (by omega) (by omega) (by omega) (by omega) (by omega) (by omega) HS1.out HS2.out HL.out
        (fun g1 g2 => by have q := H1.out (by omega); rwa [show N - s = d + m - s by omega] at q) (fun g1 g2 => by have q := H2.out (by omega); rwa [show N - 1 - s = d + m - s - 1 by omega] at q))
      rw [hde] at HH
      have HIN := hid (rot_in (f := f) (a := a) (s := s) (m := m) (e := e) (b := b) (by omega) (by omega) (by omega) (by omega))
      have HGV := hid (rot_val (f := f) (a := s) (m := m) (b := e) (n := n) (by omega) (by omega) (by omega) HV.out)
      obtain ⟨G, hG⟩ : ∃ G, rot f s m e = G := ⟨_, rfl⟩
      rw [hG] at HH HIN HGV
      have HG := hid hG
      have HSM := hid he
      have hsm : s ≤ m := by omega
      have hsd : s ≤ d := by omega
      have hsa : a ≤ s := by omega
      have heb : e ≤ b := by omega
      have hme : m ≤ e := by omega
      clear hrow H1 H2 hsr hG he
      by_cases hA : s < m
      · by_cases hB : s < d
        · by_cases hC : a < s
          · by_cases hD : e < b
            · have kA : (s : Int) < (m : Int) := by omega
              have kB : (m : Int) < (e : Int) := by omega
              have kB2 : (s : Int) < (d : Int) := by omega
              have kC : (a : Int) < (s : Int) := by omega
              have kE : (d : Int) < (e : Int) := by omega
              have kD : (e : Int) < (b : Int) := by omega
              have HRC := hid (rotate_any (.func (.func 178) #[] #[cv]) base g n cap s m e f wr HROW.out (by omega) (by omega) (by omega) hn)
              have IHL := hid (fun W hW hP => IH.out a s d G W (by omega) (by omega) (by omega) (by omega) (HC.out.on hW) hP HGV.out HH.out.l1 HH.out.l2 HH.out.ll)
              have IHR := hid (fun W F hW hP (hM : Mrg c G F a d) => IH.out d e b F W (by omega) (by omega) (by omega) (by omega) (HC.out.on hW) hP (Mrg.val hM (by omega) HGV.out) (Srt.keep hM HH.out.r1) (Srt.keep hM HH.out.r2) (Lss.keep hM HH.out.rl))
              clear HROW HSM
              go_wp2_with (first
                | (go_at_call 218; refine HRC.out.mono ?_; rintro e w1 ⟨rfl, hr1, hb1⟩; have HP := hid (show PRow w1 base g n cap G by rw [← HG.out]; exact hr1); have HBX := hid (HB.out.trans hb1); clear hr1 hb1 HRC HB)
                | (go_at_call 215; refine (IHL.out _ HBX.out HP.out).mono ?_; rintro e w2 ⟨rfl, ⟨F2, hp2, hm2⟩, hb2⟩; have HP2 := hid hp2; have HML := hid hm2; have HBX2 := hid (HBX.out.trans hb2); clear hp2 hm2 hb2 IHL HP HBX)
                | (go_at_call 215; refine (IHR.out _ _ HBX2.out HP2.out HML.out).mono ?_; rintro e w3 ⟨rfl, ⟨F3, hp3, hm3⟩, hb3⟩; have HP3 := hid hp3; have HMR := hid hm3; have HBX3 := hid (HBX2.out.trans hb3); clear hp3 hm3 hb3 IHR))
              go_end0
              exact ⟨rfl, ⟨_, HP3.out, mrg_both (by omega) (by omega) HIN.out HH.out.lr HML.out HMR.out⟩, HBX3.out⟩
            · have kA : (s : Int) < (m : Int) := by omega
              have kB : (m : Int) < (e : Int) := by omega
              have kB2 : (s : Int) < (d : Int) := by omega
              have kC : (a : Int) < (s : Int) := by omega
              have kE : (d : Int) < (e : Int) := by omega
              have kD : ¬ (e : Int) < (b : Int) := by omega
              have HRC := hid (rotate_any (.func (.func 178) #[] #[cv]) base g n cap s m e f wr HROW.out (by omega) (by omega) (by omega) hn)
              have IHL := hid (fun W hW hP => IH.out a s d G W (by omega) (by omega) (by omega) (by omega) (HC.out.on hW) hP HGV.out HH.out.l1 HH.out.l2 HH.out.ll)
              have HSR := hid (show Srt c G d b by have q := HH.out.r1; rwa [show e = b by omega] at q)
              clear HROW HSM
              go_wp2_with (first
                | (go_at_call 218; refine HRC.out.mono ?_; rintro e w1 ⟨rfl, hr1, hb1⟩; have HP := hid (show PRow w1 base g n cap G by rw [← HG.out]; exact hr1); have HBX := hid (HB.out.trans hb1); clear hr1 hb1 HRC HB)
                | (go_at_call 215; refine (IHL.out _ HBX.out HP.out).mono ?_; rintro e w2 ⟨rfl, ⟨F2, hp2, hm2⟩, hb2⟩; have HP2 := hid hp2; have HML := hid hm2; have HBX2 := hid (HBX.out.trans hb2); clear hp2 hm2 hb2 IHL HP HBX))
              go_end0
              exact ⟨rfl, ⟨_, HP2.out, mrg_both (by omega) (by omega) HIN.out HH.out.lr HML.out (Mrg.refl (Srt.keep HML.out HSR.out))⟩, HBX2.out⟩
          · by_cases hD : e < b
            · have kA : (s : Int) < (m : Int) := by omega
              have kB : (m : Int) < (e : Int) := by omega
              have kB2 : (s : Int) < (d : Int) := by omega
              have kC : ¬ (a : Int) < (s : Int) := by omega
              have kE : (d : Int) < (e : Int) := by omega
              have kD : (e : Int) < (b : Int) := by omega
              have HRC := hid (rotate_any (.func (.func 178) #[] #[cv]) base g n cap s m e f wr HROW.out (by omega) (by omega) (by omega) hn)
              have HSL := hid (show Srt c G a d by have q := HH.out.l2; rwa [show s = a by omega] at q)
              have IHR := hid (fun W F hW hP (hM : Mrg c G F a d) => IH.out d e b F W (by omega) (by omega) (by omega) (by omega) (HC.out.on hW) hP (Mrg.val hM (by omega) HGV.out) (Srt.keep hM HH.out.r1) (Srt.keep hM HH.out.r2) (Lss.keep hM HH.out.rl))
              have HML := hid (Mrg.refl HSL.out)
              clear HROW HSM
              go_wp2_with (first
                | (go_at_call 218; refine HRC.out.mono ?_; rintro e w1 ⟨rfl, hr1, hb1⟩; have HP := hid (show PRow w1 base g n cap G by rw [← HG.out]; exact hr1); have HBX := hid (HB.out.trans hb1); clear hr1 hb1 HRC HB)
                | (go_at_call 215; refine (IHR.out _ _ HBX.out HP.out HML.out).mono ?_; rintro e w3 ⟨rfl, ⟨F3, hp3, hm3⟩, hb3⟩; have HP3 := hid hp3; have HMR := hid hm3; have HBX3 := hid (HBX.out.trans hb3); clear hp3 hm3 hb3 IHR))
              go_end0
              exact ⟨rfl, ⟨_, HP3.out, mrg_both (by omega) (by omega) HIN.out HH.out.lr HML.out HMR.out⟩, HBX3.out⟩
            · have kA : (s : Int) < (m : Int) := by omega
              have kB : (m : Int) < (e : Int) := by omega
              have kB2 : (s : Int) < (d : Int) := by omega
              have kC : ¬ (a : Int) < (s : Int) := by omega
              have kE : (d : Int) < (e : Int) := by omega
              have kD : ¬ (e : Int) < (b : Int) := by omega
              have HRC := hid (rotate_any (.func (.func 178) #[] #[cv]) base g n cap s m e f wr HROW.out (by omega) (by omega) (by omega) hn)
              have HSL := hid (show Srt c G a d by have q := HH.out.l2; rwa [show s = a by omega] at q)
              have HSR := hid (show Srt c G d b by have q := HH.out.r1; rwa [show e = b by omega] at q)
              clear HROW HSM
              go_wp2_with (first
                | (go_at_call 218; refine HRC.out.mono ?_; rintro e w1 ⟨rfl, hr1, hb1⟩; have HP := hid (show PRow w1 base g n cap G by rw [← HG.out]; exact hr1); have HBX := hid (HB.out.trans hb1); clear hr1 hb1 HRC HB))
              go_end0
              exact ⟨rfl, ⟨_, HP.out, mrg_both (by omega) (by omega) HIN.out HH.out.lr (Mrg.refl HSL.out) (Mrg.refl (Srt.keep (Mrg.refl HSL.out) HSR.out))⟩, HBX.out⟩
        · omega
      · by_cases hB : s < d
        · have kA : ¬ (s : Int) < (m : Int) := by omega
          have kB2 : (s : Int) < (d : Int) := by omega
          have kC : (a : Int) < (s : Int) := by omega
          have kE : ¬ (d : Int) < (e : Int) := by omega
          have HGE := hid (show rot f s m e = f by rw [show s = m by omega]; exact rot_none_l)
          have IHL := hid (fun W hW hP => IH.out a s d G W (by omega) (by omega) (by omega) (by omega) (HC.out.on hW) hP HGV.out HH.out.l1 HH.out.l2 HH.out.ll)
          have HSR := hid (show Srt c G d b by have q := HH.out.r2; rwa [show e = d by omega] at q)
          have HP := hid (show PRow wr base g n cap G by rw [← HG.out, HGE.out]; exact HROW.out)
          have HBX := HB
          clear HB
          clear HROW HSM
          go_wp2_with (first
            | (go_at_call 215; refine (IHL.out _ HBX.out HP.out).mono ?_; rintro e w2 ⟨rfl, ⟨F2, hp2, hm2⟩, hb2⟩; have HP2 := hid hp2; have HML := hid hm2; have HBX2 := hid (HBX.out.trans hb2); clear hp2 hm2 hb2 IHL HP HBX))
          go_end0
          exact ⟨rfl, ⟨_, HP2.out, mrg_both (by omega) (by omega) HIN.out HH.out.lr HML.out (Mrg.refl (Srt.keep HML.out HSR.out))⟩, HBX2.out⟩
        · have kA : ¬ (s : Int) < (m : Int) := by omega
          have kB2 : ¬ (s : Int) < (d : Int) := by omega
          have kC : (a : Int) < (s : Int) := by omega
          have kE : ¬ (d : Int) < (e : Int) := by omega
          have HGE := hid (show rot f s m e = f by rw [show s = m by omega]; exact rot_none_l)
          have HSL := hid (show Srt c G a d by have q := HH.out.l1; rwa [show s = d by omega] at q)
          have HSR := hid (show Srt c G d b by have q := HH.out.r2; rwa [show e = d by omega] at q)
          have HP := hid (show PRow wr base g n cap G by rw [← HG.out, HGE.out]; exact HROW.out)
          have HBX := HB
          clear HB
          clear HROW HSM
          go_wp2
          go_end0
          exact ⟨rfl, ⟨_, HP.out, mrg_both (by omega) (by omega) HIN.out HH.out.lr (Mrg.refl HSL.out) (Mrg.refl (Srt.keep (Mrg.refl HSL.out) HSR.out))⟩, HBX.out⟩

theorem symMerge_any (cv : Value) (c : Nat → Nat → Int) (base g n cap : Nat) (hc : OrdC c) (hn : n ≤ 1000000) : ∀ (z a m b : Nat) (f : Nat → Nat) (W : World), b - a ≤ z → a < m → m < b → b ≤ n → CmpC cv c base n W → PRow W base g n cap f → (∀ k, k < n → f k < n) → Srt c f a m → Srt c f m b → Lss f a m b →
    Calls Tryz.prog 215 #[.slice (some ⟨g, 0, none⟩) n cap, .int .i64 (a : Nat), .int .i64 (m : Nat), .int .i64 (b : Nat), (.func (.func 178) #[] #[cv])] W fun e w' => e = .returned (.tuple #[]) ∧ (∃ f', PRow w' base g n cap f' ∧ Mrg c f f' a b) ∧ Below base W w'
  | 0, a, m, b, f, W, hz, ham, hmb, _, _, _, _, _, _, _ => by omega
  | z + 1, a, m, b, f, W, hz, ham, hmb, hb, hcmp, hr, hv, hs1, hs2, hl => by
    by_cases h1 : m = a + 1
    · exact symMerge_one cv c base g n cap a m b f W hc hcmp hr hv h1 hmb hb hn hs2 hl
    · by_cases h2 : b = m + 1
      · exact symMerge_last cv c base g n cap a m b f W hc hcmp hr hv (by omega) h2 hb hn hs1 hl
      · have ih := fun a' m' b' F W' (h : b' - a' < b - a) => symMerge_any cv c base g n cap hc hn z a' m' b' F W' (by omega)
        by_cases h3 : (a + b) / 2 < m
        · exact symMerge_hi cv c base g n cap a m b f W hc hcmp hr hv (by omega) (by omega) hb hn hs1 hs2 hl h3 ih
        · exact symMerge_lo cv c base g n cap a m b f W hc hcmp hr hv (by omega) (by omega) hb hn hs1 hs2 hl h3 ih
end Go.Proofs.YtdjbjadaldndcaaGreat
