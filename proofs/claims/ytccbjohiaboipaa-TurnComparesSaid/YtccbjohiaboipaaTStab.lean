/-
  The library's stableCmpFunc over a row of up to 60 places.
-/
import Derived.Test.YtccbjohiaboipaaTSymC
import Derived.Test.YtccbjohiaboipaaTIns
namespace Go.Proofs.Ytccbjohiaboipaa
open Go.RowKit Go.Sort

/-- From x to y: these numbers, in order. -/
structure Blk (c : Nat → Nat → Int) (F : Nat → Nat) (x y : Nat) : Prop where
  val : ∀ k, x ≤ k → k < y → x ≤ F k ∧ F k < y
  srt : Srt c F x y
theorem Blk.of {c : Nat → Nat → Int} {f F : Nat → Nat} {x y : Nat} (h : Mrg c f F x y) (hv : ∀ k, x ≤ k → k < y → x ≤ f k ∧ f k < y) : Blk c F x y :=
  ⟨fun k k1 k2 => by obtain ⟨t, t1, t2, e⟩ := h.of k k1 k2; rw [e]; exact hv t t1 t2, h.srt⟩
theorem Blk.keep {c : Nat → Nat → Int} {f F : Nat → Nat} {x y u v : Nat} (h : Mrg c f F x y) (hb : Blk c f u v) (ho : v ≤ x ∨ y ≤ u) : Blk c F u v :=
  ⟨fun k k1 k2 => by rw [h.out k (by omega)]; exact hb.val k k1 k2, fun i j h1 h2 h3 => by rw [h.out i (by omega), h.out j (by omega)]; exact hb.srt i j h1 h2 h3⟩
theorem Blk.lss {c : Nat → Nat → Int} {F : Nat → Nat} {x m y : Nat} (h1 : Blk c F x m) (h2 : Blk c F m y) : Lss F x m y := fun i j g1 g2 g3 g4 => by
  have q1 := h1.val i g1 g2
  have q2 := h2.val j g3 g4
  omega
theorem Blk.both {c : Nat → Nat → Int} {f F : Nat → Nat} {x m y : Nat} (h1 : Blk c f x m) (h2 : Blk c f m y) (hx : x ≤ m) (hm : m ≤ y) (h : Mrg c f F x y) : Blk c F x y := Blk.of h fun k k1 k2 => by
  by_cases hk : k < m
  · have q := h1.val k k1 hk
    omega
  · have q := h2.val k (by omega) k2
    omega

set_option maxHeartbeats 6400000 in
set_option maxRecDepth 100000 in
theorem stable_any (cv : Value) (c : Nat → Nat → Int) (base g n cap : Nat) (w : World) (hc : OrdC c) (hcmp : CmpC cv c base n w) (hr : PRow w base g n cap fun k => k) (hn : n ≤ 60) :
    Calls Try.prog 49 #[.slice (some ⟨g, 0, none⟩) n cap, .int .i64 (n : Nat), (.func (.func 38) #[] #[cv])] w fun e w' => e = .returned (.tuple #[]) ∧ (∃ F, PRow w' base g n cap F ∧ Blk c F 0 n) ∧ Below base w w' := by
  have HR := hid hr
  have HC := hid hcmp
  have HO := hid hc
  clear hr hcmp hc
  go_enter Try.func49, Try.ntmps49
  go_wp2
  go_loopw [7, 8] (fun av bv wr => ∃ (q x y : Nat) (F : Nat → Nat), 20 * q = x ∧ x + 20 = y ∧ x ≤ n ∧ av = .int .i64 (x : Nat) ∧ bv = .int .i64 (y : Nat) ∧ PRow wr base g n cap F ∧ (∀ p, p < q → Blk c F (20 * p) (20 * p + 20)) ∧ (∀ k, x ≤ k → F k = k) ∧ (∀ k, k < n → F k < n) ∧ Below base w wr) (fun av _ _ => n - (intOf av).toNat)
  case atStart => exact ⟨0, 0, 20, fun k => k, rfl, rfl, by omega, rfl, rfl, HR.out, fun p hp => absurd hp (Nat.not_lt_zero _), fun _ _ => rfl, fun _ h => h, Below.refl _ _⟩
  case round =>
    obtain ⟨q, x, y, F, hx, hy, hq, rfl, rfl, hrow, hblk, hid', hval, hbr⟩ := hrel
    have HB := hid hbr
    have HROW := hid hrow
    have HBLK := hid hblk
    have HID := hid hid'
    have HVAL := hid hval
    clear hbr hrow hblk hid' hval HR
    by_cases hlt : y ≤ n
    · have hltI : (y : Int) ≤ (n : Int) := by omega
      have HIC := hid (insertion_any cv c base g n cap x y F wr HO.out (HC.out.on HB.out) HROW.out HVAL.out (by omega) hlt (by omega) (fun i j g1 g2 g3 => by rw [HID.out i g1, HID.out j (by omega)]; exact g2))
      have HXY := hid (show 20 * q = x ∧ y = x + 20 by omega)
      have hnx : n - y < n - x := by omega
      clear hx hy HROW
      go_wp2_with (go_at_call 51; refine HIC.out.mono ?_; rintro e w1 ⟨rfl, ⟨F1, hp1, hm1⟩, hb1⟩; have HP1 := hid hp1; have HM1 := hid hm1; have HB1 := hid (HB.out.trans hb1); clear hp1 hm1 hb1 HIC HB)
      go_roundw
      case rel =>
        obtain ⟨hx, hy⟩ := HXY.out
        refine ⟨q + 1, y, y + 20, F1, by omega, rfl, hlt, rfl, by go_num, HP1.out, fun p hp => ?_, fun k hk => ?_, Mrg.val HM1.out hlt HVAL.out, HB1.out⟩
        · by_cases hpq : p < q
          · exact Blk.keep HM1.out (HBLK.out p hpq) (.inl (by omega))
          · have e1 : 20 * p = x := by omega
            have e2 : 20 * p + 20 = y := by omega
            rw [e2, e1]
            exact Blk.of HM1.out fun k k1 k2 => by rw [HID.out k k1]; exact ⟨k1, k2⟩
        · rw [HM1.out.out k (.inr (by omega))]
          exact HID.out k (by omega)
      case measure => simp [intOf]; omega
    · have hltI : ¬ (y : Int) ≤ (n : Int) := by omega
      have HIC := hid (insertion_any cv c base g n cap x n F wr HO.out (HC.out.on HB.out) HROW.out HVAL.out (by omega) (Nat.le_refl _) (by omega) (fun i j g1 g2 g3 => by rw [HID.out i g1, HID.out j (by omega)]; exact g2))
      have HXY := hid (show 20 * q = x ∧ y = x + 20 by omega)
      clear hx hy HROW
      go_wp2_with (go_at_call 51; refine HIC.out.mono ?_; rintro e w1 ⟨rfl, ⟨F1, hp1, hm1⟩, hb1⟩; have HP1 := hid hp1; have HM1 := hid hm1; have HB1 := hid (HB.out.trans hb1); clear hp1 hm1 hb1 HIC HB)
      have HB20 := hid (show Blk c F1 0 (min 20 n) ∧ Blk c F1 20 (min 40 n) ∧ Blk c F1 40 n by
        obtain ⟨hx, hy⟩ := HXY.out
        have key : ∀ p, 20 * p ≤ x → Blk c F1 (20 * p) (min (20 * p + 20) n) := fun p hp => by
          by_cases hpq : p < q
          · rw [show min (20 * p + 20) n = 20 * p + 20 by omega]
            exact Blk.keep HM1.out (HBLK.out p hpq) (.inl (by omega))
          · rw [show min (20 * p + 20) n = n by omega, show 20 * p = x by omega]
            exact Blk.of HM1.out fun k k1 k2 => by rw [HID.out k k1]; exact ⟨k1, k2⟩
        have none : ∀ u v, v ≤ u → Blk c F1 u v := fun u v h => ⟨fun k k1 k2 => by omega, fun i j g1 g2 g3 => by omega⟩
        refine ⟨key 0 (by omega), ?_, ?_⟩
        · by_cases h : 20 ≤ x
          · exact key 1 h
          · exact none _ _ (by omega)
        · by_cases h : 40 ≤ x
          · have k2 := key 2 h
            rwa [show min (20 * 2 + 20) n = n by omega] at k2
          · exact none _ _ (by omega))
      clear HXY HBLK HID HVAL HM1
      go_loopw [6, 7, 8, 9] (fun sv _ _ _ wr => ∃ (bs : Nat) (F : Nat → Nat), sv = .int .i64 (bs : Nat) ∧ PRow wr base g n cap F ∧ ((bs = 20 ∧ Blk c F 0 (min 20 n) ∧ Blk c F 20 (min 40 n) ∧ Blk c F 40 n) ∨ (bs = 40 ∧ Blk c F 0 (min 40 n) ∧ Blk c F 40 n) ∨ (bs = 80 ∧ Blk c F 0 n)) ∧ (∀ k, k < n → F k < n) ∧ Below base w wr) (fun sv _ _ _ _ => 80 - (intOf sv).toNat)
      case atStart =>
        refine ⟨20, F1, rfl, HP1.out, .inl ⟨rfl, HB20.out⟩, fun k hk => ?_, HB1.out⟩
        by_cases h1 : k < 20
        · have := HB20.out.1.val k (by omega) (by omega)
          omega
        · by_cases h2 : k < 40
          · have := HB20.out.2.1.val k (by omega) (by omega)
            omega
          · have := HB20.out.2.2.val k (by omega) (by omega)
            omega
      case round =>
        obtain ⟨bs, F2, rfl, hrow, hcase, hval, hbr⟩ := hrel
        have HB := hid hbr
        have HROW := hid hrow
        have HVAL := hid hval
        clear hbr hrow hval HP1 HB1 HB20
        rcases hcase with ⟨rfl, h0, h1, h2⟩ | ⟨rfl, h0, h1⟩ | ⟨rfl, h0⟩
        · by_cases hlt2 : 20 < n
          · have hI : (20 : Int) < (n : Int) := by omega
            rw [show min 20 n = 20 by omega] at h0
            have H0 := hid h0
            have H1 := hid h1
            have H2 := hid h2
            clear h0 h1 h2
            by_cases h40 : 40 ≤ n
            · have h40I : (40 : Int) ≤ (n : Int) := by omega
              have h80I : ¬ (80 : Int) ≤ (n : Int) := by omega
              have h60I : ¬ (60 : Int) < (n : Int) := by omega
              have HB1' := hid (show Blk c F2 20 40 by have q := H1.out; rwa [show min 40 n = 40 by omega] at q)
              have HSC := hid (symMerge_any cv c base g n cap HO.out (by omega) 60 0 20 40 F2 wr (by omega) (by omega) (by omega) (by omega) (HC.out.on HB.out) HROW.out HVAL.out H0.out.srt HB1'.out.srt (H0.out.lss HB1'.out))
              clear H1
              go_wp2
              go_loopw [7, 8] (fun av bv wq => ∃ (z : Nat) (F3 : Nat → Nat), (z = 0 ∧ F3 = F2 ∧ wq = wr ∨ z = 1 ∧ Blk c F3 0 40 ∧ Blk c F3 40 n ∧ PRow wq base g n cap F3 ∧ Below base w wq ∧ ∀ k, k < n → F3 k < n) ∧ av = .int .i64 (40 * z : Nat) ∧ bv = .int .i64 (40 * z + 40 : Nat)) (fun av _ _ => 40 - (intOf av).toNat)
              case atStart => exact ⟨0, F2, .inl ⟨rfl, rfl, rfl⟩, rfl, rfl⟩
              case round =>
                obtain ⟨z, F3, hz, rfl, rfl⟩ := hrel
                rcases hz with ⟨rfl, rfl, rfl⟩ | ⟨rfl, h0, h1, hp3, hb3, hv3⟩
                · go_wp2_with (go_at_call 52; refine HSC.out.mono ?_; rintro e w2 ⟨rfl, ⟨F4, hp4, hm4⟩, hb4⟩; have HP4 := hid hp4; have HM4 := hid hm4; have HB4 := hid (HB.out.trans hb4); clear hp4 hm4 hb4 HSC)
                  go_roundw
                  case rel => exact ⟨1, F4, .inr ⟨rfl, Blk.both H0.out HB1'.out (by omega) (by omega) HM4.out, Blk.keep HM4.out H2.out (.inr (by omega)), HP4.out, HB4.out, Mrg.val HM4.out (by omega) HVAL.out⟩, rfl, rfl⟩
                  case measure => simp [intOf]
                · have H3 := hid h0
                  have H4 := hid h1
                  have HP3 := hid hp3
                  have HB3 := hid hb3
                  have HV3 := hid hv3
                  clear h0 h1 hp3 hb3 hv3 HSC HROW HB
                  go_wp2
                  go_roundw
                  case rel => exact ⟨40, F3, by go_num, HP3.out, .inr (.inl ⟨rfl, by rw [show min 40 n = 40 by omega]; exact H3.out, H4.out⟩), HV3.out, HB3.out⟩
                  case measure => simp [intOf]
            · have h40I : ¬ (40 : Int) ≤ (n : Int) := by omega
              have HB1' := hid (show Blk c F2 20 n by have q := H1.out; rwa [show min 40 n = n by omega] at q)
              have HSC := hid (symMerge_any cv c base g n cap HO.out (by omega) 60 0 20 n F2 wr (by omega) (by omega) (by omega) (by omega) (HC.out.on HB.out) HROW.out HVAL.out H0.out.srt HB1'.out.srt (H0.out.lss HB1'.out))
              clear H1
              go_wp2
              go_loopw [7, 8] (fun av bv wq => wq = wr ∧ av = .int .i64 (0 : Nat) ∧ bv = .int .i64 (40 : Nat)) (fun av _ _ => 40 - (intOf av).toNat)
              case atStart => exact ⟨rfl, rfl, rfl⟩
              case round =>
                obtain ⟨rfl, rfl, rfl⟩ := hrel
                go_wp2_with (go_at_call 52; refine HSC.out.mono ?_; rintro e w2 ⟨rfl, ⟨F4, hp4, hm4⟩, hb4⟩; have HP4 := hid hp4; have HM4 := hid hm4; have HB4 := hid (HB.out.trans hb4); clear hp4 hm4 hb4 HSC)
                go_roundw
                case rel => exact ⟨40, F4, by go_num, HP4.out, .inr (.inl ⟨rfl, by rw [show min 40 n = n by omega]; exact Blk.both H0.out HB1'.out (by omega) (by omega) HM4.out, ⟨fun k k1 k2 => by omega, fun i j g1 g2 g3 => by omega⟩⟩), Mrg.val HM4.out (by omega) HVAL.out, HB4.out⟩
                case measure => simp [intOf]
          · have hI : ¬ (20 : Int) < (n : Int) := by omega
            rw [show min 20 n = n by omega] at h0
            have H0 := hid h0
            clear h0 h1 h2
            go_wp2
            go_end0
            exact ⟨rfl, ⟨_, HROW.out, H0.out⟩, HB.out⟩
        · by_cases hlt2 : 40 < n
          · have hI : (40 : Int) < (n : Int) := by omega
            have h80I : ¬ (80 : Int) ≤ (n : Int) := by omega
            rw [show min 40 n = 40 by omega] at h0
            have H0 := hid h0
            have H1 := hid h1
            have HSC := hid (symMerge_any cv c base g n cap HO.out (by omega) 60 0 40 n F2 wr (by omega) (by omega) (by omega) (by omega) (HC.out.on HB.out) HROW.out HVAL.out H0.out.srt H1.out.srt (H0.out.lss H1.out))
            clear h0 h1
            go_wp2
            go_loopw [7, 8] (fun av bv wq => wq = wr ∧ av = .int .i64 (0 : Nat) ∧ bv = .int .i64 (80 : Nat)) (fun av _ _ => 40 - (intOf av).toNat)
            case atStart => exact ⟨rfl, rfl, rfl⟩
            case round =>
              obtain ⟨rfl, rfl, rfl⟩ := hrel
              go_wp2_with (go_at_call 52; refine HSC.out.mono ?_; rintro e w2 ⟨rfl, ⟨F4, hp4, hm4⟩, hb4⟩; have HP4 := hid hp4; have HM4 := hid hm4; have HB4 := hid (HB.out.trans hb4); clear hp4 hm4 hb4 HSC)
              go_roundw
              case rel => exact ⟨80, F4, by go_num, HP4.out, .inr (.inr ⟨rfl, Blk.both H0.out H1.out (by omega) (by omega) HM4.out⟩), Mrg.val HM4.out (by omega) HVAL.out, HB4.out⟩
              case measure => simp [intOf]
          · have hI : ¬ (40 : Int) < (n : Int) := by omega
            rw [show min 40 n = n by omega] at h0
            have H0 := hid h0
            clear h0 h1
            go_wp2
            go_end0
            exact ⟨rfl, ⟨_, HROW.out, H0.out⟩, HB.out⟩
        · have hI : ¬ (80 : Int) < (n : Int) := by omega
          have H0 := hid h0
          clear h0
          go_wp2
          go_end0
          exact ⟨rfl, ⟨_, HROW.out, H0.out⟩, HB.out⟩

theorem sortStable_any (cv : Value) (c : Nat → Nat → Int) (base g n cap : Nat) (w : World) (hc : OrdC c) (hcmp : CmpC cv c base n w) (hr : PRow w base g n cap fun k => k) (hn : n ≤ 60) :
    Calls Try.prog 45 #[.slice (some ⟨g, 0, none⟩) n cap, (.func (.func 38) #[] #[cv])] w fun e w' => e = .returned (.tuple #[]) ∧ (∃ F, PRow w' base g n cap F ∧ Blk c F 0 n) ∧ Below base w w' := by
  have HC := hid (stable_any cv c base g n cap w hc hcmp hr hn)
  clear hr hcmp hc
  go_enter Try.func45, Try.ntmps45
  go_wp2_with (go_at_call 49; refine HC.out.mono ?_; rintro e w1 ⟨rfl, ⟨F1, hp1, hm1⟩, hb1⟩; have HP1 := hid hp1; have HM1 := hid hm1; have HB1 := hid hb1; clear hp1 hm1 hb1 HC)
  go_end0
  exact ⟨rfl, ⟨_, HP1.out, HM1.out⟩, HB1.out⟩
end Go.Proofs.Ytccbjohiaboipaa
