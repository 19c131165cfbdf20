/-
  Layer 3: what page.Write gives.
-/
import Derived.Test.YtkbnjniglngjgaaGreatDoorGNote
namespace Go.Proofs.YtkbnjniglngjgaaGreatDoor
open Go.RowKit

/-- Pages are written in place, till the disk dies. -/
def placeP (p0 : Nat) : Dk → List Pg → Dk × Int
  | d, [] => (d, 0)
  | d, p :: r => thenP (storeP d (p0 + p.no * 8) (cut64 8 (frameOf p))) (fun d' => placeP p0 d' r)
theorem placeP_snoc (p0 : Nat) (p : Pg) : ∀ (ps : List Pg) (d : Dk), placeP p0 d (ps ++ [p]) = thenP (placeP p0 d ps) (fun d' => storeP d' (p0 + p.no * 8) (cut64 8 (frameOf p)))
  | [], d => by
    rcases storeP_err (cut64 8 (frameOf p)) d (p0 + p.no * 8) with h | h <;> simp [placeP, thenP, h]
    exact Prod.ext rfl h.symm
  | x :: r, d => by
    simp only [List.cons_append, placeP]
    unfold thenP
    split
    · rename_i h; first | rfl | (rw [if_pos h])
    · exact placeP_snoc p0 p r _
theorem placeP_err (p0 : Nat) : ∀ (ps : List Pg) (d : Dk), (placeP p0 d ps).2 = 0 ∨ (placeP p0 d ps).2 = 50
  | [], d => .inl rfl
  | x :: r, d => by
    unfold placeP thenP
    split
    · exact storeP_err _ _ _
    · exact placeP_err p0 r _
theorem placeP_stop (p0 : Nat) : ∀ (ps t : List Pg) (d : Dk), (placeP p0 d ps).2 ≠ 0 → placeP p0 d (ps ++ t) = placeP p0 d ps
  | [], _, _, h => absurd rfl h
  | x :: r, t, d, h => by
    simp only [List.cons_append, placeP] at h ⊢
    unfold thenP at h ⊢
    split
    · rfl
    · rename_i h2
      rw [if_neg h2] at h
      exact placeP_stop p0 r t _ h
theorem placeP_wait (p0 : Nat) : ∀ (ps : List Pg) (d : Dk), (placeP p0 d ps).1.wait.length ≤ d.wait.length + 8 * ps.length ∧ (placeP p0 d ps).1.writes ≤ d.writes + 8 * ps.length
  | [], d => by simp [placeP]
  | x :: r, d => by
    have h1 := storeP_wait (cut64 8 (frameOf x)) d (p0 + x.no * 8)
    rw [cut64_len] at h1
    unfold placeP thenP
    split
    · simp only [List.length_cons]; omega
    · have := placeP_wait p0 r (storeP d (p0 + x.no * 8) (cut64 8 (frameOf x))).1
      simp only [List.length_cons]; omega
theorem noteP_wait (d : Dk) (jn : Nat) (ps : List Pg) : (noteP d jn ps).1.wait.length ≤ d.wait.length + (1 + 8 * ps.length) ∧ (noteP d jn ps).1.writes ≤ d.writes + (1 + 8 * ps.length) := by
  have h1 := storeP_wait (cut64 (1 + 8 * ps.length) (jBytes ps)) d jn
  rw [cut64_len] at h1
  have h2 := flushP_wait (storeP d jn (cut64 (1 + 8 * ps.length) (jBytes ps))).1
  unfold noteP thenP
  split <;> omega
theorem noteP_err (d : Dk) (jn : Nat) (ps : List Pg) : (noteP d jn ps).2 = 0 ∨ (noteP d jn ps).2 = 50 := by
  unfold noteP thenP
  split
  · exact storeP_err _ _ _
  · unfold flushP; split
    · exact .inr rfl
    · exact .inl rfl
/-- A Write of pages. -/
def writeP (p0 np : Nat) (d : Dk) (ps : List Pg) : Dk × Int := if ps = [] then (d, 0) else thenP (noteP d (p0 + np * 8) ps) (fun d1 => thenP (placeP p0 d1 ps) flushP)

theorem write_none {w : World} {base F B p0 np : Nat} {half : Bool} (hf : FileIs w base F B p0 np half) {v : Value} (hpg : Pgs w v []) :
    Calls Tryz.prog 63 #[.pointer (some ⟨F, 0, none⟩), v] w fun e w' => e = .returned (.int .i64 0) ∧ Below w.heap.size w w' := by
  have HA := hid (accept_any hf hpg ⟨by simp, by simp, by simp⟩)
  obtain ⟨ao, cap, rfl, hc, hpp⟩ := hpg
  simp only [List.length_nil] at HA ⊢
  clear hf hpp
  go_enter Tryz.func63, Tryz.ntmps63
  go_wp2_with (go_at_call 82; refine HA.out.mono ?_; rintro e w2 ⟨rfl, hb2⟩; have HB2 := hid hb2; clear hb2 HA)
  go_ret
  exact ⟨rfl, HB2.out⟩

set_option maxRecDepth 8000 in
set_option maxHeartbeats 2000000 in
theorem pwrite_any {w : World} {base n F B p0 np : Nat} {d : Dk} (hd : DiskIs w base B n d) (hf : FileIs w base F B p0 np false) (ht : TabOk w) (hg : 0 < base) (hp : p0 + np * 8 + 80 ≤ n) (hnp : np ≤ 4096) {v : Value} {ps : List Pg} (hpg : Pgs w v ps) (htk : takes np ps) (hne : ps ≠ []) (hwl : d.wait.length ≤ 700000) (hwr : d.writes ≤ 700000000) :
    Calls Tryz.prog 63 #[.pointer (some ⟨F, 0, none⟩), v] w fun e w' => e = .returned (.int .i64 (writeP p0 np d ps).2) ∧ DiskIs w' base B n (writeP p0 np d ps).1 ∧ (∃ half, FileIs w' base F B p0 np half ∧ ((writeP p0 np d ps).2 = 0 → half = false)) ∧ Kp base F w w' := by
  have hn := hd.2.1
  have hbase := hd.base_le
  have hl8 := htk.1
  have hl1 : 1 ≤ ps.length := by
    rcases Nat.eq_zero_or_pos ps.length with h | h
    · exact absurd (List.eq_nil_of_length_eq_zero h) hne
    · exact h
  have HA := hid (accept_any hf hpg htk)
  have hwp : writeP p0 np d ps = thenP (noteP d (p0 + np * 8) ps) (fun d1 => thenP (placeP p0 d1 ps) flushP) := by unfold writeP; rw [if_neg hne]
  have HWP := hid hwp
  have HTK := hid htk
  have HD := hid hd
  have HF := hid hf
  have HT := hid ht
  have HPG := hid hpg
  have hnw := noteP_wait d (p0 + np * 8) ps
  have hnerr := noteP_err d (p0 + np * 8) ps
  obtain ⟨ao, cap, rfl, hc, hpp⟩ := hpg
  obtain ⟨L, hL⟩ : ∃ L, L = ps.length := ⟨_, rfl⟩
  rw [← hL] at hc hl8 HPG hnw HA hl1 ⊢
  have HL := hid hL
  have hL0 : ((L : Int) == 0) = false := by simp; omega
  clear hpp hL hd hf ht htk hne hwp
  obtain ⟨d1, hd1⟩ : ∃ d1, d1 = (noteP d (p0 + np * 8) ps).1 := ⟨_, rfl⟩
  obtain ⟨e1, he1⟩ : ∃ e1, e1 = (noteP d (p0 + np * 8) ps).2 := ⟨_, rfl⟩
  have hpair : noteP d (p0 + np * 8) ps = (d1, e1) := by rw [hd1, he1]
  have HPAIR := hid hpair
  rw [← hd1] at hnw
  rw [← he1] at hnerr
  clear hd1 he1 hpair
  -- the note, whatever it comes to
  have HNO := hid (fun wx (hk : Kp base F w wx) (hdx : DiskIs wx base B n d) (hfx : FileIs wx base F B p0 np true) => HPAIR.out ▸ note_any hdx hfx (tab_kd HT.out hg hk.below) hp hnp (HPG.out.kp hk) HTK.out (by omega) (by omega))
  by_cases h0 : e1 = 0
  · subst h0
    clear hnerr
    have hwp2 : writeP p0 np d ps = thenP (placeP p0 d1 ps) flushP := by rw [HWP.out, HPAIR.out]; rfl
    have HW2 := hid hwp2
    clear hwp2
    go_enter Tryz.func63, Tryz.ntmps63
    go_wp2_with (first
      | (go_at_call 82; refine HA.out.mono ?_; rintro e w2 ⟨rfl, hb2⟩; have HK2 := hid (Kp.fresh (F := F) hb2 hbase); have HD2 := hid (HD.out.below hb2); have HF2 := hid (HF.out.below hb2); have HSE := hid (settle_no (HF.out.below hb2)); have f3 := frozen_of_row w2 F 3 _ _ HF2.out.2; obtain ⟨_, _, _, c3⟩ := HF2.out.cells; have HST := hid (file_set HD2.out HF2.out true); have HN2 := hid (HNO.out _ (HK2.out.trans HST.out.2.2) HST.out.2.1 HST.out.1); clear hb2 HA)
      | (go_at_call 25; refine HSE.out.mono ?_; rintro e w3 ⟨rfl, hw⟩; have hw' := hw.symm; clear hw HSE; subst hw')
      | (go_at_call 83; refine HN2.out.mono ?_; rintro e w4 ⟨rfl, hd4, hk4⟩; have HD4 := hid hd4; have HK4 := hid ((HK2.out.trans HST.out.2.2).trans (Kp.of_kd hk4)); have HF4 := hid (HST.out.1.kd hk4); have HP4 := hid (HPG.out.kp ((HK2.out.trans HST.out.2.2).trans (Kp.of_kd hk4))); clear hd4 hk4 HN2))
    go_loopw [9, 10, 39] (fun _ _ t wr => ∃ k : Nat, k ≤ L ∧ t = .int .i64 k ∧ (placeP p0 d1 (ps.take k)).2 = 0 ∧ DiskIs wr base B n (placeP p0 d1 (ps.take k)).1 ∧ FileIs wr base F B p0 np true ∧ Kp base F w wr ∧ Pgs wr (.slice ao L cap) ps) (fun _ _ t _ => L - (intOf t).toNat)
    case atStart => exact ⟨0, by omega, rfl, rfl, HD4.out, HF4.out, HK4.out, HP4.out⟩
    case round =>
      obtain ⟨k, hk, rfl, hz, hdk, hfk, hkk, hpk⟩ := hrel
      have hpw := placeP_wait p0 (ps.take k) d1
      have hlt' : (ps.take k).length ≤ 8 := by simp; have := HL.out; omega
      by_cases hlt : k < L
      · have hkl : k < ps.length := by have := HL.out; omega
        have hsn := placeP_snoc p0 ps[k] (ps.take k) d1
        rw [← List.take_succ_eq_append_getElem hkl] at hsn
        unfold thenP at hsn
        rw [if_neg (fun e => e hz)] at hsn
        have hst := placeP_stop p0 (ps.take (k + 1)) (ps.drop (k + 1)) d1
        rw [List.take_append_drop] at hst
        have HSN := hid hsn
        have HSTOP := hid hst
        have hpok := HTK.out.2.1 ps[k] (List.getElem_mem hkl)
        have HPK := hid hpk
        obtain ⟨ao', cap', hv, hcp, hpp⟩ := hpk
        injection hv with e1 e2 e3
        subst e1 e3
        obtain ⟨b, off, c, f, rfl, hh, hpp⟩ := hpp (by omega)
        obtain ⟨s, c0, c1, c2, hs⟩ := hpp k ps[k] (by simp [hkl])
        rw [hpok.len] at hs
        obtain ⟨aS, cS, rfl, _⟩ := own_any hs
        have hkI : (k : Int) < (L : Int) := by omega
        obtain ⟨pk, hpke⟩ : ∃ pk, pk = ps[k] := ⟨_, rfl⟩
        rw [← hpke] at c0 c1 hs hpok HSN
        obtain ⟨dk, hdke⟩ : ∃ dk, dk = (placeP p0 d1 (ps.take k)).1 := ⟨_, rfl⟩
        rw [← hdke] at hdk hpw HSN
        obtain ⟨wB, hwB⟩ : ∃ wB, wr.alloc (.cells #[.int .i64 pk.no, .int .u64 pk.lsn, .slice aS 480 cS] 40) = wB := ⟨_, rfl⟩
        have hbB : Below wr.heap.size wr wB := by rw [← hwB]; exact (Below.refl _ _).alloc (Nat.le_refl _) _
        have hbox : wB.heap[wr.heap.size]? = some (.cells #[.int .i64 pk.no, .int .u64 pk.lsn, .slice aS 480 cS] 40 (0, 0)) := by rw [← hwB]; exact heap_new wr _
        have HKB := hid (hkk.trans (Kp.fresh hbB hdk.base_le))
        have HFB := hid (hfk.below hbB)
        have HDB := hid (hdk.below hbB)
        have hno := hpok.no
        have HPL := hid (fun wx (hx : Below wB.heap.size wB wx) => place_any (HFB.out.below hx) (k := pk.no) (by omega) (by omega))
        have HBOX := hid hbox
        have HPGB := hid (HPK.out.below hbB)
        have HFR := hid (frame_any (w := wB.drew) hpok hnp (bs_own (own_below hs (hbB.trans ((Below.refl _ wB).drew.mono hbB.size))) hpok.byte (by rw [hpok.len]; omega)) (tab_kd HT.out hg (HKB.out.below.trans ((Below.refl base wB).drew))))
        have HFBY := hid (frameOf_by hpok hnp)
        have HCS := hid (And.intro (cell_of_row wB.drew wr.heap.size 0 _ _ _ hbox) (And.intro (cell_of_row wB.drew wr.heap.size 1 _ _ _ hbox) (cell_of_row wB.drew wr.heap.size 2 _ _ _ hbox)))
        have herr := storeP_err (cut64 8 (frameOf pk)) dk (p0 + pk.no * 8)
        clear e2 hcp hpke hdke hs hpp hh hdk hfk hkk hbB hbox hpok hsn hst hz
        by_cases hse : (storeP dk (p0 + pk.no * 8) (cut64 8 (frameOf pk))).2 = 0
        · have HSE0 := hid hse
          clear hse herr
          go_wp2
          go_region_held (fun w' => w'.cell? ⟨wr.heap.size, 0, none⟩ = some (.int .i64 pk.no) ∧ w'.cell? ⟨wr.heap.size, 1, none⟩ = some (.int .u64 pk.lsn) ∧ w'.cell? ⟨wr.heap.size, 2, none⟩ = some (.slice aS 480 cS)) (first | exact HCS.out | exact cS5 | exact cS7) (first
            | (go_at_call 45; refine (HPL.out wB.drew (Below.refl _ wB).drew).mono ?_; rintro e w5 ⟨rfl, hw⟩; have hw' := hw.symm; clear hw; subst hw')
            | (go_at_call 45; refine (HPL.out w5 HBW5.out).mono ?_; rintro e w6 ⟨rfl, hw⟩; have hw' := hw.symm; clear hw; subst hw')
            | (go_at_call 68; refine HFR.out.mono ?_; rintro e w5 ⟨v5, rfl, hown5, hb5⟩; obtain ⟨a5, k5, rfl, _⟩ := own_any hown5; have HBW5 := hid ((Below.refl _ wB).drew.trans hb5); have hbx5 := (HBW5.out.block _ (lt_of_heap HBOX.out)).trans HBOX.out; have cS5 := And.intro (cell_of_row w5 wr.heap.size 0 _ _ _ hbx5) (And.intro (cell_of_row w5 wr.heap.size 1 _ _ _ hbx5) (cell_of_row w5 wr.heap.size 2 _ _ _ hbx5)); have HD5 := hid (HDB.out.below HBW5.out); have HF5 := hid (HFB.out.below HBW5.out); have HK5 := hid (HKB.out.trans (Kp.fresh HBW5.out HDB.out.base_le)); have HPG5 := hid (HPGB.out.below HBW5.out); have HSTO := hid (store_any HD5.out HF5.out (i := p0 + pk.no * 8) (q := 8) (own_mono hown5 (Nat.zero_le _)) HFBY.out (by omega) (by omega) (by omega) (by omega)); rw [HSE0.out] at HSTO; clear hown5 hb5 hbx5)
            | (go_at_call 69; refine HSTO.out.mono ?_; rintro e w7 ⟨rfl, hd7, hk7⟩; have HD7 := hid hd7; have HK7 := hid (HK5.out.trans (Kp.of_kd hk7)); have HF7 := hid (HF5.out.kd hk7); have HPG7 := hid (HPG5.out.kd hk7); have cS7 := And.intro (cell_of_row w7 wr.heap.size 0 _ _ _ (hk7.keep' ((HBW5.out.block _ (lt_of_heap HBOX.out)).trans HBOX.out) nd_page)) (And.intro (cell_of_row w7 wr.heap.size 1 _ _ _ (hk7.keep' ((HBW5.out.block _ (lt_of_heap HBOX.out)).trans HBOX.out) nd_page)) (cell_of_row w7 wr.heap.size 2 _ _ _ (hk7.keep' ((HBW5.out.block _ (lt_of_heap HBOX.out)).trans HBOX.out) nd_page))); clear hd7 hk7))
          all_goals
            go_wp2
            go_roundw
            case rel => exact ⟨k + 1, by omega, by go_num, by rw [HSN.out]; exact HSE0.out, by rw [HSN.out]; exact HD7.out, HF7.out, HK7.out, HPG7.out⟩
            case measure => simp [intOf]; omega
        · have hse2 : (storeP dk (p0 + pk.no * 8) (cut64 8 (frameOf pk))).2 = 50 := by omega
          have HSE0 := hid hse2
          have hfin : writeP p0 np d ps = storeP dk (p0 + pk.no * 8) (cut64 8 (frameOf pk)) := by
            have h1 := HSTOP.out (by rw [HSN.out, hse2]; omega)
            rw [HW2.out, h1, HSN.out]
            unfold thenP
            rw [if_pos (by rw [hse2]; omega)]
          have HFIN := hid hfin
          clear hse herr hse2 hfin
          go_wp2
          go_region_held (fun w' => w'.cell? ⟨wr.heap.size, 0, none⟩ = some (.int .i64 pk.no) ∧ w'.cell? ⟨wr.heap.size, 1, none⟩ = some (.int .u64 pk.lsn) ∧ w'.cell? ⟨wr.heap.size, 2, none⟩ = some (.slice aS 480 cS)) (first | exact HCS.out | exact cS5 | exact cS7) (first
            | (go_at_call 45; refine (HPL.out wB.drew (Below.refl _ wB).drew).mono ?_; rintro e w5 ⟨rfl, hw⟩; have hw' := hw.symm; clear hw; subst hw')
            | (go_at_call 45; refine (HPL.out w5 HBW5.out).mono ?_; rintro e w6 ⟨rfl, hw⟩; have hw' := hw.symm; clear hw; subst hw')
            | (go_at_call 68; refine HFR.out.mono ?_; rintro e w5 ⟨v5, rfl, hown5, hb5⟩; obtain ⟨a5, k5, rfl, _⟩ := own_any hown5; have HBW5 := hid ((Below.refl _ wB).drew.trans hb5); have hbx5 := (HBW5.out.block _ (lt_of_heap HBOX.out)).trans HBOX.out; have cS5 := And.intro (cell_of_row w5 wr.heap.size 0 _ _ _ hbx5) (And.intro (cell_of_row w5 wr.heap.size 1 _ _ _ hbx5) (cell_of_row w5 wr.heap.size 2 _ _ _ hbx5)); have HD5 := hid (HDB.out.below HBW5.out); have HF5 := hid (HFB.out.below HBW5.out); have HK5 := hid (HKB.out.trans (Kp.fresh HBW5.out HDB.out.base_le)); have HPG5 := hid (HPGB.out.below HBW5.out); have HSTO := hid (store_any HD5.out HF5.out (i := p0 + pk.no * 8) (q := 8) (own_mono hown5 (Nat.zero_le _)) HFBY.out (by omega) (by omega) (by omega) (by omega)); rw [HSE0.out] at HSTO; clear hown5 hb5 hbx5)
            | (go_at_call 69; refine HSTO.out.mono ?_; rintro e w7 ⟨rfl, hd7, hk7⟩; have HD7 := hid hd7; have HK7 := hid (HK5.out.trans (Kp.of_kd hk7)); have HF7 := hid (HF5.out.kd hk7); have HPG7 := hid (HPG5.out.kd hk7); have cS7 := And.intro (cell_of_row w7 wr.heap.size 0 _ _ _ (hk7.keep' ((HBW5.out.block _ (lt_of_heap HBOX.out)).trans HBOX.out) nd_page)) (And.intro (cell_of_row w7 wr.heap.size 1 _ _ _ (hk7.keep' ((HBW5.out.block _ (lt_of_heap HBOX.out)).trans HBOX.out) nd_page)) (cell_of_row w7 wr.heap.size 2 _ _ _ (hk7.keep' ((HBW5.out.block _ (lt_of_heap HBOX.out)).trans HBOX.out) nd_page))); clear hd7 hk7))
          all_goals
            go_wp2
            go_ret
            rw [HFIN.out]
            exact ⟨by rw [HSE0.out]; rfl, HD7.out, ⟨true, HF7.out, fun h => by rw [HSE0.out] at h; simp at h⟩, HK7.out⟩
      · have hfull : ps.take k = ps := List.take_of_length_le (by have := HL.out; omega)
        rw [hfull] at hz hdk hpw
        have hfin : writeP p0 np d ps = flushP (placeP p0 d1 ps).1 := by
          rw [HW2.out]
          unfold thenP
          rw [if_neg (fun e => e hz)]
        have HFIN := hid hfin
        have HFLU := hid (flush_all hdk (by have := HL.out; omega))
        obtain ⟨cF, _, _, _⟩ := hfk.cells
        have HFK := hid hfk
        have HKK := hid hkk
        generalize (placeP p0 d1 ps).1 = dz at *
        clear hz hdk hfk hkk hfull hpk hfin
        by_cases hfe : dz.left = 0
        · have hfz : flushP dz = (dz, 50) := by unfold flushP; rw [if_pos hfe]
          rw [hfz] at HFIN HFLU
          clear hfz hfe
          go_wp2_with (go_at_call 55; refine HFLU.out.mono ?_; rintro e w5 ⟨rfl, hd5, hk5⟩; have HD5 := hid hd5; have HK5 := hid (HKK.out.trans (Kp.of_kd hk5)); have HF5 := hid (HFK.out.kd hk5); clear hd5 hk5 HFLU)
          go_ret
          rw [HFIN.out]
          exact ⟨rfl, HD5.out, ⟨true, HF5.out, fun h => by simp at h⟩, HK5.out⟩
        · have hfz : flushP dz = (dz.flush, 0) := by unfold flushP; rw [if_neg hfe]
          rw [hfz] at HFIN HFLU
          clear hfz hfe
          go_wp2_with (go_at_call 55; refine HFLU.out.mono ?_; rintro e w5 ⟨rfl, hd5, hk5⟩; have HK5 := hid (HKK.out.trans (Kp.of_kd hk5)); have hf5 := HFK.out.kd hk5; have f5 := frozen_of_row w5 F 3 _ _ hf5.2; obtain ⟨_, _, _, c5⟩ := hf5.cells; have HST5 := hid (file_set hd5 hf5 false); clear hd5 hk5 HFLU hf5)
          go_ret
          rw [HFIN.out]
          exact ⟨rfl, HST5.out.2.1, ⟨false, HST5.out.1, fun _ => rfl⟩, HK5.out.trans HST5.out.2.2⟩
  · have h50 : e1 = 50 := by omega
    subst h50
    have hfin : writeP p0 np d ps = (d1, 50) := by rw [HWP.out, HPAIR.out]; rfl
    rw [hfin]
    clear hfin h0 hnerr
    go_enter Tryz.func63, Tryz.ntmps63
    go_wp2_with (first
      | (go_at_call 82; refine HA.out.mono ?_; rintro e w2 ⟨rfl, hb2⟩; have HK2 := hid (Kp.fresh (F := F) hb2 hbase); have HD2 := hid (HD.out.below hb2); have HF2 := hid (HF.out.below hb2); have HSE := hid (settle_no (HF.out.below hb2)); have f3 := frozen_of_row w2 F 3 _ _ HF2.out.2; obtain ⟨_, _, _, c3⟩ := HF2.out.cells; have HST := hid (file_set HD2.out HF2.out true); have HN2 := hid (HNO.out _ (HK2.out.trans HST.out.2.2) HST.out.2.1 HST.out.1); clear hb2 HA)
      | (go_at_call 25; refine HSE.out.mono ?_; rintro e w3 ⟨rfl, hw⟩; have hw' := hw.symm; clear hw HSE; subst hw')
      | (go_at_call 83; refine HN2.out.mono ?_; rintro e w4 ⟨rfl, hd4, hk4⟩; have HD4 := hid hd4; have HK4 := hid ((HK2.out.trans HST.out.2.2).trans (Kp.of_kd hk4)); have HF4 := hid (HST.out.1.kd hk4); clear hd4 hk4 HN2))
    go_ret
    exact ⟨rfl, HD4.out, ⟨true, HF4.out, fun h => by simp at h⟩, HK4.out⟩
end Go.Proofs.YtkbnjniglngjgaaGreatDoor
