/-
  Layer 4: what wal.Flush gives, on a disk that does not die.
-/
import Derived.Test.YthhlbhnogcfnjaaDoorWTailWalk
import Derived.Test.YthhlbhnogcfnjaaDoorDFlushWalk
namespace Go.Proofs.YthhlbhnogcfnjaaDoor
open Go.RowKit Go.Shelf

theorem tailP_live (at' sc : Nat) : ∀ (ss : List (List Int)) (d : Dk) (i : Nat), d.left = -1 → (tailP at' sc d i ss).2 = 0 ∧ (tailP at' sc d i ss).1.left = -1
  | [], d, i, h => ⟨rfl, h⟩
  | s :: r, d, i, h => by
    have h0 : ¬ d.left = 0 := by omega
    rw [tailP, if_neg h0]
    exact tailP_live at' sc r _ _ (by simp [Dk.write, burn, h])
/-- What a Flush leaves of a Log. -/
def Lg.flush (g : Lg) : Lg := { g with flushed := g.first + g.recs.length - 1, tail := g.tail.drop (g.tail.length / 48 * 48) }
/-- What a Flush writes. -/
def flushD (at' sc q : Nat) (d : Dk) (g : Lg) : Dk := if g.flushed + 1 < g.first + g.recs.length then (tailP at' sc d ((g.stop - g.tail.length) / 48) (cut48 q g.tail)).1 else d

set_option maxRecDepth 100000 in
set_option maxHeartbeats 4000000 in
theorem lflush_any {w : World} {base L B n at' sc : Nat} {d : Dk} {g : Lg} (h : LogIs w base L B n at' sc d g) (ht : TabOk w) (hg : 0 < base) (hl : d.left = -1) (hone : 1 ≤ g.first) (htl : g.tail.length ≤ g.stop) (hbl : g.tail.length ≤ 1000000) (hwl : d.wait.length ≤ 900000) (hwr : d.writes ≤ 900000000) {q : Nat} (hq1 : g.tail.length ≤ q * 48) (hq2 : q * 48 < g.tail.length + 48) :
    Calls Tryd.prog 10 #[.pointer (some ⟨L, 0, none⟩)] w fun e w' => e = .returned (.int .i64 0) ∧ LogIs w' base L B n at' sc (flushD at' sc q d g).flush g.flush ∧ Kl base w w' := by
  have hnum := h.2.2.2.1
  have hby := h.2.2.2.2.1
  have hbase : base ≤ w.heap.size := by have := h.lt; have := h.2.1; omega
  obtain ⟨NX, hNX⟩ : ∃ NX, NX = g.first + g.recs.length := ⟨_, rfl⟩
  obtain ⟨FL, hFL⟩ : ∃ FL, FL = g.flushed := ⟨_, rfl⟩
  obtain ⟨T, hT⟩ : ∃ T, T = g.tail.length := ⟨_, rfl⟩
  obtain ⟨lo, hlo⟩ : ∃ lo, lo = T / 48 * 48 := ⟨_, rfl⟩
  have hc7 : ∀ wx, LogIs wx base L B n at' sc d g → wx.cell? ⟨L, 7, none⟩ = some (.int .u64 (FL : Int)) := fun wx hx => by
    obtain ⟨_, _, _, _, hh1, _⟩ := hx.form
    rw [hFL]
    exact (log_cells hh1).2.2.2.2.2.2.2.1
  have HC7 := hid hc7
  have hnx : ∀ wx d' g', LogIs wx base L B n at' sc d' g' → g'.first = g.first → g'.recs = g.recs → Calls Tryd.prog 13 #[.pointer (some ⟨L, 0, none⟩)] wx fun e w' => e = .returned (.int .u64 (NX : Int)) ∧ Hid (∃ qd, w' = wx.drewN qd) := fun wx d' g' hx e1 e2 => by
    have := lnext_any hx
    rw [e1, e2, ← hNX] at this
    exact this.mono fun e w' ⟨a, b⟩ => ⟨a, b⟩
  have HNX := hid hnx
  -- the disk behind what was written
  have hlive := tailP_live at' sc (cut48 q g.tail) d ((g.stop - g.tail.length) / 48) hl
  have hwait := tailP_wait at' sc (cut48 q g.tail) d ((g.stop - g.tail.length) / 48)
  rw [cut48_len] at hwait
  obtain ⟨d1, hd1⟩ : ∃ d1, d1 = flushD at' sc q d g := ⟨_, rfl⟩
  have hd1l : d1.left = -1 ∧ d1.wait.length ≤ 1000000 := by
    rw [hd1, flushD]
    split
    · exact ⟨hlive.2, by omega⟩
    · exact ⟨hl, by omega⟩
  rw [← hd1]
  have hwrite : FL + 1 < NX → ∀ wx, LogIs wx base L B n at' sc d g → Kl base w wx → Calls Tryd.prog 29 #[.pointer (some ⟨L, 0, none⟩)] wx fun e w' => e = .returned (.int .i64 0) ∧ Hid (LogIs w' base L B n at' sc d1 g) ∧ Hid (Kl base w w') := fun hlt wx hx hk => by
    refine (writeTail_any hx (ht.base hk.below hg) hg htl hbl hwl hwr hq1 hq2).mono ?_
    rintro e w' ⟨rfl, hl', hk'⟩
    have e1 : d1 = (tailP at' sc d ((g.stop - g.tail.length) / 48) (cut48 q g.tail)).1 := by rw [hd1, flushD, if_pos (by omega)]
    rw [hlive.1, e1]
    exact ⟨rfl, hl', hk.trans (Kl.of_kd hk')⟩
  have hsame : ¬ FL + 1 < NX → d1 = d := fun hn => by rw [hd1, flushD, if_neg (by omega)]
  have hfl : ∀ wx, LogIs wx base L B n at' sc d1 g → Kl base w wx → Calls Tryd.prog 27 #[.pointer (some ⟨B, 0, none⟩)] wx fun e w' => e = .returned (.int .i64 0) ∧ Hid (LogIs w' base L B n at' sc d1.flush g) ∧ Hid (Kl base w w') := fun wx hx hk => by
    refine (flush_any hx.1 (by omega) hd1l.2).mono ?_
    rintro e w' ⟨rfl, hd', hk'⟩
    exact ⟨rfl, hx.kd hd' hk', hk.trans (Kl.of_kd hk')⟩
  have hc0 : ∀ wx d', LogIs wx base L B n at' sc d' g → wx.cell? ⟨L, 0, none⟩ = some (.pointer (some ⟨B, 0, none⟩)) := fun wx d' hx => by
    obtain ⟨_, _, _, _, hh1, _⟩ := hx.form
    exact (log_cells hh1).1
  -- behind the store of flushed
  have hst7 : ∀ wx, LogIs wx base L B n at' sc d1.flush g → Kl base w wx → wx.cell? ⟨L, 7, none⟩ = some (.int .u64 (FL : Int)) ∧ wx.frozen? ⟨L, 7, none⟩ = false ∧ ∃ ta tc, (wx.setCell ⟨L, 7, none⟩ (.int .u64 ((NX - 1 : Nat) : Int))).drew.cell? ⟨L, 8, none⟩ = some (.slice ta T tc) ∧
      Hid (LogIs (wx.setCell ⟨L, 7, none⟩ (.int .u64 ((NX - 1 : Nat) : Int))) base L B n at' sc d1.flush { g with flushed := NX - 1 }) ∧ Hid (Kl base w (wx.setCell ⟨L, 7, none⟩ (.int .u64 ((NX - 1 : Nat) : Int)))) ∧ Hid ((wx.setCell ⟨L, 7, none⟩ (.int .u64 ((NX - 1 : Nat) : Int))).drew.ownsRow base 5 1 (.slice ta T tc) T (secV g.tail)) := fun wx hx hk => by
    obtain ⟨_, _, _, _, hh1, _⟩ := hx.form
    obtain ⟨h7, k7⟩ := hx.store (g' := { g with flushed := NX - 1 }) 7 (.int .u64 ((NX - 1 : Nat) : Int)) rfl rfl (fun rv tv => rfl) (by simp only; omega)
    have h7d := h7.below (Below.refl _ _).drew
    obtain ⟨ra, rc, ta, tc, hh2, ho2, _⟩ := h7d.form
    have e8 := (log_cells hh2).2.2.2.2.2.2.2.2
    rw [hFL]
    refine ⟨(log_cells hh1).2.2.2.2.2.2.2.1, (log_frozen hh1).2.2.2.2.1, ta, tc, by rw [hT]; exact e8, h7, hk.trans k7, by rw [hT]; exact ho2⟩
  have HLO := hid (And.intro hT hlo)
  have HBY := hid hby
  have HNO := hid (And.intro hNX hFL)
  have HH := hid h
  have HW := hid hwrite
  have HSM := hid hsame
  have HFF := hid hfl
  have HC0 := hid hc0
  have HS7 := hid hst7
  have hTb : T ≤ 1000000 := by omega
  have hloT : lo ≤ T ∧ T < lo + 48 := by omega
  have hNXb : 1 ≤ NX ∧ NX ≤ 5000000000000000000 ∧ FL ≤ 5000000000000000000 := by omega
  have hwf : IntKind.u64.wrap ((FL : Int) + 1) = (FL : Int) + 1 := PlainAid.u64_nonneg (by omega) (by omega)
  have hwx : IntKind.u64.wrap ((NX : Int) - 1) = ((NX - 1 : Nat) : Int) := by rw [PlainAid.u64_nonneg (by omega) (by omega)]; omega
  have HND := hid (HNX.out w.drew d g (h.below (Below.refl _ w).drew) rfl rfl)
  have c7d := HC7.out w.drew (h.below (Below.refl _ w).drew)
  clear hc7 hnx hlive hwait hd1 hwrite hsame hfl hc0 hst7 h ht hnum hby hT hlo hNX hFL htl hbl hq1 hq2 hl hone
  go_enter Tryd.func10, Tryd.ntmps10
  go_upto_region 1 with fail
  go_cut [12] from 5 to 11 (fun v wx => v = .bool (decide ((FL : Int) + 1 < (NX : Int))) ∧ Hid (LogIs wx base L B n at' sc d g ∧ Kl base w wx))
  case first =>
    go_region_held (fun w' => w'.cell? ⟨L, 7, none⟩ = some (.int .u64 (FL : Int))) (first | exact c7d | exact HC7.out _ HL1.out.1) (first
      | (go_at_call 13; refine HND.out.mono ?_; rintro e w1 ⟨rfl, hqd⟩; have HL1 : Hid (LogIs w1 base L B n at' sc d g ∧ Kl base w w1) := (by obtain ⟨qd, rfl⟩ := hqd.out; exact ⟨HH.out.below (below_drewN (Below.refl _ w).drew qd), Kl.fresh (below_drewN (Below.refl _ w).drew qd) hbase⟩); clear hqd))
    all_goals
      go_wp2
      go_meet
      exact ⟨rfl, HL1.out⟩
  case rest =>
  obtain ⟨rfl, hcc⟩ := hcut
  by_cases hlt : FL + 1 < NX
  · have hltI : ((FL : Int) + 1 < (NX : Int)) := by omega
    have HWC := hid (HW.out hlt wc hcc.out.1 hcc.out.2)
    go_upto_region 9 with (first
      | (go_at_call 29; refine HWC.out.mono ?_; rintro e w2 ⟨rfl, HL2, HK2⟩; have c0 := HC0.out w2 _ HL2.out; have HFC := hid (HFF.out w2 HL2.out HK2.out))
      | (go_at_call 27; refine HFC.out.mono ?_; rintro e w3 ⟨rfl, HL3, HK3⟩; have HNX3 := hid (HNX.out w3 _ _ HL3.out rfl rfl))
      | (go_at_call 13; refine HNX3.out.mono ?_; rintro e w4 ⟨rfl, hqd⟩; have HL4 : Hid (LogIs w4 base L B n at' sc d1.flush g ∧ Kl base w w4) := (by obtain ⟨qd, rfl⟩ := hqd.out; exact ⟨HL3.out.below (below_drewN (Below.refl _ w3) qd), HK3.out.trans (Kl.fresh (below_drewN (Below.refl _ w3) qd) (Nat.le_trans hbase HK3.out.size))⟩); clear hqd; obtain ⟨c74, f74, ta, tc, c8, HL5, HK5, HO5⟩ := HS7.out w4 HL4.out.1 HL4.out.2))
    obtain ⟨V, hV⟩ : ∃ V, w4.setCell ⟨L, 7, none⟩ (.int .u64 ((NX - 1 : Nat) : Int)) = V := ⟨_, rfl⟩
    rw [hV] at c8 HL5 HK5 HO5 ⊢
    obtain ⟨TL, hTL⟩ : ∃ TL, TL = g.tail.drop lo := ⟨_, rfl⟩
    have hTLl : TL.length = T - lo := by rw [hTL, List.length_drop, ← HLO.out.1]
    have hTLb : By TL := by rw [hTL]; exact HBY.out.drop _
    have hgen : ∀ (w10 : World) (v10 : Value), Below V.drew.heap.size V.drew w10 → w10.ownsRow V.drew.heap.size 5 1 v10 TL.length (TL.map (Value.int .u8)) → w10.cell? ⟨L, 8, none⟩ = some (.slice ta T tc) ∧ w10.frozen? ⟨L, 8, none⟩ = false ∧ Hid (LogIs (w10.setCell ⟨L, 8, none⟩ v10) base L B n at' sc d1.flush g.flush ∧ Kl base w (w10.setCell ⟨L, 8, none⟩ v10)) := fun w10 v10 hb hown => by
      have hll := HL5.out.below (Below.refl _ V).drew
      obtain ⟨a1, k1⟩ := hll.retail hb hown hTLb (by omega)
      obtain ⟨_, _, _, _, hh1, _⟩ := (hll.below hb).form
      have e8 := (hb.cell (p := ⟨L, 8, none⟩) (lt_of_cell c8)).trans c8
      have hgf : g.flush = { g with flushed := NX - 1, tail := TL } := by rw [Lg.flush, hTL, HLO.out.2, HLO.out.1, HNO.out.1]
      rw [hgf]
      exact ⟨e8, (log_frozen hh1).2.2.2.2.2, a1, HK5.out.trans ((Kl.fresh (Below.refl _ V).drew (Nat.le_trans hbase HK5.out.size)).trans k1)⟩
    have HGEN := hid hgen
    have HTL := hid (And.intro hTL hTLl)
    obtain ⟨Q, hQ⟩ : ∃ Q, Q = T / 48 := ⟨_, rfl⟩
    have hQlo : lo = Q * 48 := by rw [HLO.out.2, hQ]
    have hq1 : (T : Int).tdiv 48 = (Q : Int) := by rw [Int.tdiv_eq_ediv_of_nonneg (by omega)]; omega
    have hq2 : (T : Int) / 48 = (Q : Int) := by omega
    have hq3 : IntKind.i64.wrap ((Q : Int) * 48) = (lo : Int) := by rw [IntKind.wrap_i64]; omega
    have hwq : IntKind.i64.wrap (Q : Int) = (Q : Int) := by rw [IntKind.wrap_i64]; omega
    have hq4 : (Q : Int) * 48 = (lo : Int) := by omega
    have hwlo : IntKind.i64.wrap (lo : Int) = (lo : Int) := by rw [IntKind.wrap_i64]; omega
    have hKH : (lo : Int) ≤ (T : Int) := by omega
    have hnb : NewBs base V.drew (.slice ta T tc) g.tail := newBs_own HO5.out HBY.out (by have := HLO.out.1; omega)
    have HNB := hid hnb
    have hmx : Tryd.prog.follows .mixedOrders = true := by kernel_rfl
    have hown5 := HO5.out
    clear hgen hTL hTLl hnb hQ hQlo hTLb
    rcases hown5.2 with ⟨hnil, h0'⟩ | ⟨gt, cap', cur, hvv, hgx⟩
    · injection hnil with e1 e2 e3
      subst e1 e2 e3
      obtain rfl : lo = 0 := by omega
      obtain rfl : Q = 0 := by omega
      have hcutv : Bs V.drew (.slice none 0 0) TL := by
        have h0 : TL = [] := List.eq_nil_of_length_eq_zero (by have := HTL.out.2; omega)
        rw [h0]
        exact ⟨fun j => by simp, by simp, .inl ⟨_, _, rfl, rfl, fun _ => rfl⟩⟩
      have HCL := hid (bs_clone_own hcutv (by have := HTL.out.2; omega))
      clear hcutv hown5 h0' hq1 hq2 hq3 hwq hq4 hwlo hKH
      go_region_with (first
        | (go_at_call 22; refine HCL.out.mono ?_; rintro e w10 ⟨v10, rfl, hown10, hb10⟩; obtain ⟨a10, c10, rfl⟩ := slice_form hown10; obtain ⟨e8, f8, HF10⟩ := HGEN.out w10 _ hb10 hown10; clear hown10 hb10))
      all_goals
        go_wp2
        go_ret
        exact ⟨rfl, HF10.out⟩
    · injection hvv with hva _ hvc
      subst hva hvc
      have hTc : T ≤ tc := hgx.2.2.1
      have hTcI : (T : Int) ≤ (tc : Int) := by omega
      clear hgx hown5
      by_cases hkc : tc = lo
      · have hcutv : Bs V.drew (.slice (some ⟨gt, 0, none⟩) (T - lo) (tc - lo)) TL := by
          have h0 : TL = [] := List.eq_nil_of_length_eq_zero (by have := HTL.out.2; omega)
          rw [h0, show T - lo = 0 by omega]
          exact ⟨fun j => by simp, by simp, .inl ⟨_, _, rfl, rfl, fun e => (by cases e)⟩⟩
        have HCL := hid (bs_clone_own hcutv (by have := HTL.out.2; omega))
        have hkT : (tc = lo) = True := eq_true hkc
        clear hcutv hkc
        go_region_with (first
          | (go_at_call 22; refine HCL.out.mono ?_; rintro e w10 ⟨v10, rfl, hown10, hb10⟩; obtain ⟨a10, c10, rfl⟩ := slice_form hown10; obtain ⟨e8, f8, HF10⟩ := HGEN.out w10 _ hb10 hown10; clear hown10 hb10))
        all_goals
          go_wp2
          go_ret
          exact ⟨rfl, HF10.out⟩
      · have hcutv := HNB.out.cut (lo := lo) (hi := T) (by omega) (by have := HLO.out.1; omega) (by omega)
        rw [List.take_of_length_le (by have := HLO.out.1; omega), ← HTL.out.1, Nat.zero_add] at hcutv
        have HCL := hid (bs_clone_own hcutv.1 (by have := HTL.out.2; omega))
        have hkF : (tc = lo) = False := eq_false hkc
        clear hcutv hkc
        go_region_with (first
          | (go_at_call 22; refine HCL.out.mono ?_; rintro e w10 ⟨v10, rfl, hown10, hb10⟩; obtain ⟨a10, c10, rfl⟩ := slice_form hown10; obtain ⟨e8, f8, HF10⟩ := HGEN.out w10 _ hb10 hown10; clear hown10 hb10))
        all_goals
          go_wp2
          go_ret
          exact ⟨rfl, HF10.out⟩
  · have hltI : ¬ ((FL : Int) + 1 < (NX : Int)) := by omega
    obtain rfl := HSM.out hlt
    have HLc := hid hcc.out.1
    have HKc := hid hcc.out.2
    have c0 := HC0.out wc _ hcc.out.1
    have HFC := hid (HFF.out wc hcc.out.1 hcc.out.2)
    go_upto_region 9 with (first
      | (go_at_call 27; refine HFC.out.mono ?_; rintro e w3 ⟨rfl, HL3, HK3⟩; have HNX3 := hid (HNX.out w3 _ _ HL3.out rfl rfl))
      | (go_at_call 13; refine HNX3.out.mono ?_; rintro e w4 ⟨rfl, hqd⟩; have HL4 : Hid (LogIs w4 base L B n at' sc d1.flush g ∧ Kl base w w4) := (by obtain ⟨qd, rfl⟩ := hqd.out; exact ⟨HL3.out.below (below_drewN (Below.refl _ w3) qd), HK3.out.trans (Kl.fresh (below_drewN (Below.refl _ w3) qd) (Nat.le_trans hbase HK3.out.size))⟩); clear hqd; obtain ⟨c74, f74, ta, tc, c8, HL5, HK5, HO5⟩ := HS7.out w4 HL4.out.1 HL4.out.2))
    obtain ⟨V, hV⟩ : ∃ V, w4.setCell ⟨L, 7, none⟩ (.int .u64 ((NX - 1 : Nat) : Int)) = V := ⟨_, rfl⟩
    rw [hV] at c8 HL5 HK5 HO5 ⊢
    obtain ⟨TL, hTL⟩ : ∃ TL, TL = g.tail.drop lo := ⟨_, rfl⟩
    have hTLl : TL.length = T - lo := by rw [hTL, List.length_drop, ← HLO.out.1]
    have hTLb : By TL := by rw [hTL]; exact HBY.out.drop _
    have hgen : ∀ (w10 : World) (v10 : Value), Below V.drew.heap.size V.drew w10 → w10.ownsRow V.drew.heap.size 5 1 v10 TL.length (TL.map (Value.int .u8)) → w10.cell? ⟨L, 8, none⟩ = some (.slice ta T tc) ∧ w10.frozen? ⟨L, 8, none⟩ = false ∧ Hid (LogIs (w10.setCell ⟨L, 8, none⟩ v10) base L B n at' sc d1.flush g.flush ∧ Kl base w (w10.setCell ⟨L, 8, none⟩ v10)) := fun w10 v10 hb hown => by
      have hll := HL5.out.below (Below.refl _ V).drew
      obtain ⟨a1, k1⟩ := hll.retail hb hown hTLb (by omega)
      obtain ⟨_, _, _, _, hh1, _⟩ := (hll.below hb).form
      have e8 := (hb.cell (p := ⟨L, 8, none⟩) (lt_of_cell c8)).trans c8
      have hgf : g.flush = { g with flushed := NX - 1, tail := TL } := by rw [Lg.flush, hTL, HLO.out.2, HLO.out.1, HNO.out.1]
      rw [hgf]
      exact ⟨e8, (log_frozen hh1).2.2.2.2.2, a1, HK5.out.trans ((Kl.fresh (Below.refl _ V).drew (Nat.le_trans hbase HK5.out.size)).trans k1)⟩
    have HGEN := hid hgen
    have HTL := hid (And.intro hTL hTLl)
    obtain ⟨Q, hQ⟩ : ∃ Q, Q = T / 48 := ⟨_, rfl⟩
    have hQlo : lo = Q * 48 := by rw [HLO.out.2, hQ]
    have hq1 : (T : Int).tdiv 48 = (Q : Int) := by rw [Int.tdiv_eq_ediv_of_nonneg (by omega)]; omega
    have hq2 : (T : Int) / 48 = (Q : Int) := by omega
    have hq3 : IntKind.i64.wrap ((Q : Int) * 48) = (lo : Int) := by rw [IntKind.wrap_i64]; omega
    have hwq : IntKind.i64.wrap (Q : Int) = (Q : Int) := by rw [IntKind.wrap_i64]; omega
    have hq4 : (Q : Int) * 48 = (lo : Int) := by omega
    have hwlo : IntKind.i64.wrap (lo : Int) = (lo : Int) := by rw [IntKind.wrap_i64]; omega
    have hKH : (lo : Int) ≤ (T : Int) := by omega
    have hnb : NewBs base V.drew (.slice ta T tc) g.tail := newBs_own HO5.out HBY.out (by have := HLO.out.1; omega)
    have HNB := hid hnb
    have hmx : Tryd.prog.follows .mixedOrders = true := by kernel_rfl
    have hown5 := HO5.out
    clear hgen hTL hTLl hnb hQ hQlo hTLb
    rcases hown5.2 with ⟨hnil, h0'⟩ | ⟨gt, cap', cur, hvv, hgx⟩
    · injection hnil with e1 e2 e3
      subst e1 e2 e3
      obtain rfl : lo = 0 := by omega
      obtain rfl : Q = 0 := by omega
      have hcutv : Bs V.drew (.slice none 0 0) TL := by
        have h0 : TL = [] := List.eq_nil_of_length_eq_zero (by have := HTL.out.2; omega)
        rw [h0]
        exact ⟨fun j => by simp, by simp, .inl ⟨_, _, rfl, rfl, fun _ => rfl⟩⟩
      have HCL := hid (bs_clone_own hcutv (by have := HTL.out.2; omega))
      clear hcutv hown5 h0' hq1 hq2 hq3 hwq hq4 hwlo hKH
      go_region_with (first
        | (go_at_call 22; refine HCL.out.mono ?_; rintro e w10 ⟨v10, rfl, hown10, hb10⟩; obtain ⟨a10, c10, rfl⟩ := slice_form hown10; obtain ⟨e8, f8, HF10⟩ := HGEN.out w10 _ hb10 hown10; clear hown10 hb10))
      all_goals
        go_wp2
        go_ret
        exact ⟨rfl, HF10.out⟩
    · injection hvv with hva _ hvc
      subst hva hvc
      have hTc : T ≤ tc := hgx.2.2.1
      have hTcI : (T : Int) ≤ (tc : Int) := by omega
      clear hgx hown5
      by_cases hkc : tc = lo
      · have hcutv : Bs V.drew (.slice (some ⟨gt, 0, none⟩) (T - lo) (tc - lo)) TL := by
          have h0 : TL = [] := List.eq_nil_of_length_eq_zero (by have := HTL.out.2; omega)
          rw [h0, show T - lo = 0 by omega]
          exact ⟨fun j => by simp, by simp, .inl ⟨_, _, rfl, rfl, fun e => (by cases e)⟩⟩
        have HCL := hid (bs_clone_own hcutv (by have := HTL.out.2; omega))
        have hkT : (tc = lo) = True := eq_true hkc
        clear hcutv hkc
        go_region_with (first
          | (go_at_call 22; refine HCL.out.mono ?_; rintro e w10 ⟨v10, rfl, hown10, hb10⟩; obtain ⟨a10, c10, rfl⟩ := slice_form hown10; obtain ⟨e8, f8, HF10⟩ := HGEN.out w10 _ hb10 hown10; clear hown10 hb10))
        all_goals
          go_wp2
          go_ret
          exact ⟨rfl, HF10.out⟩
      · have hcutv := HNB.out.cut (lo := lo) (hi := T) (by omega) (by have := HLO.out.1; omega) (by omega)
        rw [List.take_of_length_le (by have := HLO.out.1; omega), ← HTL.out.1, Nat.zero_add] at hcutv
        have HCL := hid (bs_clone_own hcutv.1 (by have := HTL.out.2; omega))
        have hkF : (tc = lo) = False := eq_false hkc
        clear hcutv hkc
        go_region_with (first
          | (go_at_call 22; refine HCL.out.mono ?_; rintro e w10 ⟨v10, rfl, hown10, hb10⟩; obtain ⟨a10, c10, rfl⟩ := slice_form hown10; obtain ⟨e8, f8, HF10⟩ := HGEN.out w10 _ hb10 hown10; clear hown10 hb10))
        all_goals
          go_wp2
          go_ret
          exact ⟨rfl, HF10.out⟩
end Go.Proofs.YthhlbhnogcfnjaaDoor
