/-
  Layer 3: what page.redo and settle give, on a disk that does not die.
-/
import Derived.Test.YtafopokcfkgjiaaDoorGNoted
namespace Go.Proofs.YtafopokcfkgjiaaDoor
open Go.RowKit

theorem storeP_live : ∀ (ss : List (List Int)) (d : Dk) (i : Nat), d.left = -1 → (storeP d i ss).2 = 0 ∧ (storeP d i ss).1.left = -1
  | [], d, i, h => ⟨rfl, h⟩
  | s :: r, d, i, h => by
    have hb : (d.write i s).left = -1 := by simp [Dk.write, burn, h]
    have := storeP_live r (d.write i s) (i + 1) hb
    unfold storeP
    rw [if_neg (by omega)]
    exact this
/-- Pages are written where they are not in place. -/
def redoL (p0 : Nat) : Dk → Bool → List Pg → Dk × Bool
  | d, c, [] => (d, c)
  | d, c, p :: r => if secs d.now (p0 + p.no * 8) 8 = frameOf p then redoL p0 d c r else redoL p0 (storeP d (p0 + p.no * 8) (cut64 8 (frameOf p))).1 true r
theorem redoL_snoc (p0 : Nat) (p : Pg) : ∀ (ps : List Pg) (d : Dk) (c : Bool), redoL p0 d c (ps ++ [p]) = if secs (redoL p0 d c ps).1.now (p0 + p.no * 8) 8 = frameOf p then redoL p0 d c ps else ((storeP (redoL p0 d c ps).1 (p0 + p.no * 8) (cut64 8 (frameOf p))).1, true)
  | [], d, c => by
    by_cases h : secs d.now (p0 + p.no * 8) 8 = frameOf p <;> simp [redoL, h]
  | x :: r, d, c => by
    simp only [List.cons_append, redoL]
    split
    · exact redoL_snoc p0 p r d c
    · exact redoL_snoc p0 p r _ true
def redoP (p0 : Nat) (d : Dk) (ps : List Pg) : Dk := if (redoL p0 d false ps).2 = true then (redoL p0 d false ps).1.flush else (redoL p0 d false ps).1
theorem redoL_live (p0 : Nat) : ∀ (ps : List Pg) (d : Dk) (c : Bool), d.left = -1 → (redoL p0 d c ps).1.left = -1 ∧ (redoL p0 d c ps).1.wait.length ≤ d.wait.length + 8 * ps.length ∧ (redoL p0 d c ps).1.writes ≤ d.writes + 8 * ps.length
  | [], d, c, h => ⟨h, by simp [redoL], by simp [redoL]⟩
  | x :: r, d, c, h => by
    unfold redoL
    split
    · have := redoL_live p0 r d c h
      simp only [List.length_cons]
      omega
    · have h1 := storeP_live (cut64 8 (frameOf x)) d (p0 + x.no * 8) h
      have h2 := storeP_wait (cut64 8 (frameOf x)) d (p0 + x.no * 8)
      rw [cut64_len] at h2
      have := redoL_live p0 r _ true h1.2
      simp only [List.length_cons]
      omega
theorem tab_kd {w w' : World} {base : Nat} (ht : TabOk w) (hg : 0 < base) (hk : Below base w w') : TabOk w' := fun i hi => by
  rw [hk.cell (p := ⟨_, i, none⟩) hg]; exact ht i hi

set_option maxRecDepth 8000 in
set_option maxHeartbeats 1600000 in
theorem redo_any {w : World} {base n F B p0 np : Nat} {d : Dk} {half : Bool} (hd : DiskIs w base B n d) (hf : FileIs w base F B p0 np half) (hl : d.left = -1) (ht : TabOk w) (hg : 0 < base) (hp : p0 + np * 8 + 80 ≤ n) (hnp : np ≤ 4096) (hj : JOk d.now (p0 + np * 8) np) (hwl : d.wait.length ≤ 800000) (hwr : d.writes ≤ 800000000) :
    Calls Tryd.prog 31 #[.pointer (some ⟨F, 0, none⟩)] w fun e w' => e = .returned (.int .i64 0) ∧ DiskIs w' base B n (redoP p0 d (notedP d.now (p0 + np * 8))) ∧ Kd base w w' := by
  have hn := hd.2.1
  have hbase := hd.base_le
  have HNT := hid (noted_any hd hf (by omega) ht hp hj)
  have htk := hj.tk
  obtain ⟨ps, hps⟩ : ∃ ps, ps = notedP d.now (p0 + np * 8) := ⟨_, rfl⟩
  rw [← hps] at HNT htk ⊢
  have HTK := hid htk
  have HD := hid hd
  have HF := hid hf
  have HT := hid ht
  have hl8 := htk.1
  clear hd hf ht hj htk hps
  go_enter Tryd.func31, Tryd.ntmps31
  go_wp2_with (go_at_call 44; refine HNT.out.mono ?_; rintro e w1 ⟨v1, rfl, hpg1, hb1⟩; have HP1 := hid hpg1; obtain ⟨a1, k1, rfl, _⟩ := hpg1; have HK1 := hid (Kd.fresh hb1 hbase); have HD1 := hid (HD.out.below hb1); clear hb1 HNT)
  obtain ⟨L, hL⟩ : ∃ L, L = ps.length := ⟨_, rfl⟩
  rw [← hL] at hl8 HP1
  have HL := hid hL
  rw [← hL]
  clear hL
  go_loopw [5, 7, 8, 9, 10, 11, 22] (fun ch _ _ _ _ _ t wr => ∃ k : Nat, k ≤ L ∧ t = .int .i64 k ∧ ch = .bool (redoL p0 d false (ps.take k)).2 ∧ DiskIs wr base B n (redoL p0 d false (ps.take k)).1 ∧ Kd base w wr ∧ Pgs wr (.slice a1 L k1) ps) (fun _ _ _ _ _ _ t _ => L - (intOf t).toNat)
  case atStart => exact ⟨0, by omega, rfl, rfl, HD1.out, HK1.out, HP1.out⟩
  case round =>
    obtain ⟨k, hk, rfl, rfl, hdk, hkd, hpg⟩ := hrel
    have hlive := redoL_live p0 (ps.take k) d false hl
    have hlt' : (ps.take k).length ≤ 8 := by simp; omega
    by_cases hlt : k < L
    · have hkl : k < ps.length := by have := HL.out; omega
      have hsn := redoL_snoc p0 ps[k] (ps.take k) d false
      rw [← List.take_succ_eq_append_getElem hkl] at hsn
      have HSN := hid hsn
      have hpok := HTK.out.2.1 ps[k] (List.getElem_mem hkl)
      have HPG := hid hpg
      obtain ⟨ao, cap, hv, hcp, hpp⟩ := hpg
      injection hv with e1 e2 e3
      subst e1 e3
      obtain ⟨b, off, c, f, rfl, hh, hpp⟩ := hpp (by omega)
      clear e2 hcp
      obtain ⟨s, c0, c1, c2, hs⟩ := hpp k ps[k] (by simp [hkl])
      rw [hpok.len] at hs
      obtain ⟨aS, cS, rfl, _⟩ := own_any hs
      have hkI : (k : Int) < (L : Int) := by omega
      obtain ⟨pk, hpk⟩ : ∃ pk, pk = ps[k] := ⟨_, rfl⟩
      rw [← hpk] at c0 c1 hs hpok HSN
      obtain ⟨dk, hdke⟩ : ∃ dk, dk = (redoL p0 d false (ps.take k)).1 := ⟨_, rfl⟩
      obtain ⟨ch, hche⟩ : ∃ ch, ch = (redoL p0 d false (ps.take k)).2 := ⟨_, rfl⟩
      rw [← hdke] at hdk hlive HSN
      have hpair : redoL p0 d false (ps.take k) = (dk, ch) := by rw [hdke, hche]
      rw [hpair] at HSN
      rw [← hche]
      obtain ⟨wB, hwB⟩ : ∃ wB, wr.alloc (.cells #[.int .i64 pk.no, .int .u64 pk.lsn, .slice aS 480 cS] 33) = wB := ⟨_, rfl⟩
      have hbB : Below wr.heap.size wr wB := by rw [← hwB]; exact (Below.refl _ _).alloc (Nat.le_refl _) _
      have hbox : wB.heap[wr.heap.size]? = some (.cells #[.int .i64 pk.no, .int .u64 pk.lsn, .slice aS 480 cS] 33 (0, 0)) := by rw [← hwB]; exact heap_new wr _
      have hbaser : base ≤ wr.heap.size := hdk.base_le
      have hkB := hkd.trans (Kd.fresh hbB hbaser)
      have hfB := HF.out.kd hkB
      have HPL := hid (fun wx (hx : Kd base w wx) => place_any (HF.out.kd hx) (k := pk.no) (by omega) (by have := hpok.no; omega))
      have hno := hpok.no
      have HLD := hid (load_any (hdk.below hbB) hfB (by omega) (i := p0 + pk.no * 8) (K := 8) (by omega) (by omega))
      have q0 := cell_of_row wB wr.heap.size 0 _ _ _ hbox
      simp only [List.getElem?_toArray, List.getElem?_cons_zero] at q0
      have HBOX := hid hbox
      have HKB := hid hkB
      have HDB := hid (hdk.below hbB)
      have HSO := hid (own_below hs hbB)
      have HPO := hid hpok
      have HNB := hid hdk.ok.now_secs
      have HPGB := hid (HPG.out.below hbB)
      have hfl := frameOf_len hpok.len
      have hfby := frameOf_by hpok hnp
      have hsl : (secs dk.now (p0 + pk.no * 8) 8).length = 512 := by rw [secs_len hdk.ok.now_secs (by rw [hdk.ok.now_len]; omega)]
      have HFBY := hid hfby
      clear hpk hdke hche hpair hs hpp hh hdk hkd hbB hbox hkB hfB hpok hfby
      by_cases heq : secs dk.now (p0 + pk.no * 8) 8 = frameOf pk
      · have hsn2 := HSN.out
        rw [if_pos heq] at hsn2
        have HS2 := hid hsn2
        have hdec : decide (secs dk.now (p0 + pk.no * 8) 8 = frameOf pk) = true := by simpa using heq
        have HDE := hid hdec
        clear hsn2 HSN heq hdec
        generalize secs dk.now (p0 + pk.no * 8) 8 = SS at *
        go_wp2_with (first
          | (go_at_call 19; refine (HPL.out wB HKB.out).mono ?_; rintro e w2 ⟨rfl, hw⟩; have hw' := hw.symm; clear hw; subst hw')
          | (go_at_call 45; refine HLD.out.mono ?_; rintro e w2 ⟨v2, rfl, hown2, hb2⟩; obtain ⟨a2, c2', rfl, _⟩ := own_any hown2; have HO2 := hid hown2; have hbx2 := (hb2.block _ (lt_of_heap HBOX.out)).trans HBOX.out; have r0 := cell_of_row w2 wr.heap.size 0 _ _ _ hbx2; have r1 := cell_of_row w2 wr.heap.size 1 _ _ _ hbx2; have r2 := cell_of_row w2 wr.heap.size 2 _ _ _ hbx2; simp only [List.getElem?_toArray, List.getElem?_cons_succ, List.getElem?_cons_zero] at r0 r1 r2; have HK2 := hid (HKB.out.trans (Kd.fresh hb2 HDB.out.base_le)); have HD2 := hid (HDB.out.below hb2); have HPG2 := hid (HPGB.out.below hb2); have HFR := hid (frame_any HPO.out hnp (bs_own (own_below HSO.out hb2) HPO.out.byte (by rw [HPO.out.len]; omega)) (tab_kd HT.out hg HK2.out.below)); clear hown2 hb2 hbx2 HLD)
          | (go_at_call 20; refine HFR.out.mono ?_; rintro e w3 ⟨v3, rfl, hown3, hb3⟩; obtain ⟨a3, c3', rfl, _⟩ := own_any hown3; have HK3 := hid (HK2.out.trans (Kd.fresh hb3 HD2.out.base_le)); have HD3 := hid (HD2.out.below hb3); have HPG3 := hid (HPG2.out.below hb3); have HEQ := hid (equal_any (bs_own (own_below HO2.out hb3) (fun b hb => by have := HDE.out; have e := of_decide_eq_true this; rw [e] at hb; exact HFBY.out b hb) (by omega)) (bs_own hown3 HFBY.out (by omega))); rw [HDE.out] at HEQ; clear hown3 hb3 HFR)
          | (go_at_call 46; refine HEQ.out.mono ?_; rintro e w4 ⟨rfl, hw⟩; have hw' := hw.symm; clear hw HEQ; subst hw'))
        go_roundw
        case rel => exact ⟨k + 1, by omega, by go_num, by rw [HS2.out], by rw [HS2.out]; exact HD3.out, HK3.out, HPG3.out⟩
        case measure => simp [intOf]; omega
      · have hsn2 := HSN.out
        rw [if_neg heq] at hsn2
        have HS2 := hid hsn2
        have hdec : decide (secs dk.now (p0 + pk.no * 8) 8 = frameOf pk) = false := by simpa using heq
        have HDE := hid hdec
        have HSB := hid (secs_by (i := p0 + pk.no * 8) (k := 8) HNB.out)
        have hst0 := (storeP_live (cut64 8 (frameOf pk)) dk (p0 + pk.no * 8) hlive.1).1
        have HST0 := hid hst0
        clear hsn2 HSN heq hdec hst0
        generalize secs dk.now (p0 + pk.no * 8) 8 = SS at *
        go_wp2_with (first
          | (go_at_call 19; refine (HPL.out wB HKB.out).mono ?_; rintro e w2 ⟨rfl, hw⟩; have hw' := hw.symm; clear hw; subst hw')
          | (go_at_call 45; refine HLD.out.mono ?_; rintro e w2 ⟨v2, rfl, hown2, hb2⟩; obtain ⟨a2, c2', rfl, _⟩ := own_any hown2; have HO2 := hid hown2; have hbx2 := (hb2.block _ (lt_of_heap HBOX.out)).trans HBOX.out; have HBX2 := hid hbx2; have r0 := cell_of_row w2 wr.heap.size 0 _ _ _ hbx2; have r1 := cell_of_row w2 wr.heap.size 1 _ _ _ hbx2; have r2 := cell_of_row w2 wr.heap.size 2 _ _ _ hbx2; simp only [List.getElem?_toArray, List.getElem?_cons_succ, List.getElem?_cons_zero] at r0 r1 r2; have HK2 := hid (HKB.out.trans (Kd.fresh hb2 HDB.out.base_le)); have HD2 := hid (HDB.out.below hb2); have HPG2 := hid (HPGB.out.below hb2); have HFR := hid (frame_any HPO.out hnp (bs_own (own_below HSO.out hb2) HPO.out.byte (by rw [HPO.out.len]; omega)) (tab_kd HT.out hg HK2.out.below)); clear hown2 hb2 hbx2 HLD)
          | (go_at_call 20; refine HFR.out.mono ?_; rintro e w3 ⟨v3, rfl, hown3, hb3⟩; obtain ⟨a3, c3', rfl, _⟩ := own_any hown3; have hbx3 := (hb3.block _ (lt_of_heap HBX2.out)).trans HBX2.out; have t0 := cell_of_row w3 wr.heap.size 0 _ _ _ hbx3; simp only [List.getElem?_toArray, List.getElem?_cons_zero] at t0; have HK3 := hid (HK2.out.trans (Kd.fresh hb3 HD2.out.base_le)); have HD3 := hid (HD2.out.below hb3); have HPG3 := hid (HPG2.out.below hb3); have HEQ := hid (equal_any (bs_own (own_below HO2.out hb3) HSB.out (by omega)) (bs_own hown3 HFBY.out (by omega))); rw [HDE.out] at HEQ; have HP3 := hid (HPL.out w3 HK3.out); have HSTO := hid (store_any HD3.out (HF.out.kd HK3.out) (i := p0 + pk.no * 8) (q := 8) (own_mono hown3 (Nat.zero_le _)) HFBY.out (by omega) (by omega) (by omega) (by omega)); rw [HST0.out] at HSTO; clear hown3 hb3 HFR hbx3)
          | (go_at_call 46; refine HEQ.out.mono ?_; rintro e w4 ⟨rfl, hw⟩; have hw' := hw.symm; clear hw HEQ; subst hw')
          | (go_at_call 19; refine HP3.out.mono ?_; rintro e w4 ⟨rfl, hw⟩; have hw' := hw.symm; clear hw HP3; subst hw')
          | (go_at_call 18; refine HSTO.out.mono ?_; rintro e w5 ⟨rfl, hd5, hk5⟩; have HD5 := hid hd5; have HK5 := hid (HK3.out.trans hk5); have HPG5 := hid (HPG3.out.kd hk5); clear hd5 hk5 HSTO))
        go_roundw
        case rel => exact ⟨k + 1, by omega, by go_num, by rw [HS2.out], by rw [HS2.out]; exact HD5.out, HK5.out, HPG5.out⟩
        case measure => simp [intOf]; omega
    · have hfull : ps.take k = ps := List.take_of_length_le (by have := HL.out; omega)
      rw [hfull] at hdk hlive ⊢
      have HDK := hid hdk
      have HKD := hid hkd
      obtain ⟨cF, _, _, _⟩ := (HF.out.kd hkd).cells
      have hrp : redoP p0 d ps = if (redoL p0 d false ps).2 = true then (redoL p0 d false ps).1.flush else (redoL p0 d false ps).1 := rfl
      have HRP := hid hrp
      have HFL := hid (flush_any hdk (by omega) (by have := HL.out; omega))
      generalize (redoL p0 d false ps).2 = ch at *
      clear hdk hkd hpg hrp hfull
      cases ch with
      | true =>
        go_wp2_with (go_at_call 21; refine HFL.out.mono ?_; rintro e w5 ⟨rfl, hd5, hk5⟩; have HD5 := hid hd5; have HK5 := hid (HKD.out.trans hk5); clear hd5 hk5 HFL)
        go_ret
        refine ⟨rfl, ?_, HK5.out⟩
        rw [HRP.out]
        exact HD5.out
      | false =>
        go_wp2
        go_ret
        refine ⟨rfl, ?_, HKD.out⟩
        rw [HRP.out]
        exact HDK.out
end Go.Proofs.YtafopokcfkgjiaaDoor
