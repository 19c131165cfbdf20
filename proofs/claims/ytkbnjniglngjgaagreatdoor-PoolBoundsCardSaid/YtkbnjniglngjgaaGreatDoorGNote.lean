/-
  Layer 3: what page.note gives.
-/
import Derived.Test.YtkbnjniglngjgaaGreatDoorMI
namespace Go.Proofs.YtkbnjniglngjgaaGreatDoor
open Go.RowKit

/-- The journal's bytes over pages. -/
def jBytes (ps : List Pg) : List Int := headOf (framesOf ps) ++ framesOf ps
/-- The journal is written, and lasts; or the disk dies. -/
def noteP (d : Dk) (jn : Nat) (ps : List Pg) : Dk × Int := thenP (storeP d jn (cut64 (1 + 8 * ps.length) (jBytes ps))) flushP
theorem framesOf_snoc (ps : List Pg) (p : Pg) : framesOf (ps ++ [p]) = framesOf ps ++ frameOf p := by simp [framesOf]
theorem framesOf_by {ps : List Pg} {n : Nat} (h : ∀ p ∈ ps, p.Ok n) (hn : n ≤ 4096) : By (framesOf ps) := fun b hb => by
  obtain ⟨l, hl, hb⟩ := List.mem_flatten.1 hb
  obtain ⟨p, hp, rfl⟩ := List.mem_map.1 hl
  exact frameOf_by (h p hp) hn b hb
theorem flush_all {w : World} {base B n : Nat} {d : Dk} (h : DiskIs w base B n d) (hwl : d.wait.length ≤ 1000000) :
    Calls Tryz.prog 55 #[.pointer (some ⟨B, 0, none⟩)] w fun e w' => e = .returned (.int .i64 (flushP d).2) ∧ DiskIs w' base B n (flushP d).1 ∧ Kd base w w' := by
  unfold flushP
  by_cases hd : d.left = 0
  · rw [if_pos hd]
    exact (flush_dead h hd).mono fun e w' ⟨h1, h2⟩ => ⟨h1, h.below h2, Kd.fresh h2 h.base_le⟩
  · rw [if_neg hd]
    exact flush_any h hd hwl

set_option maxRecDepth 8000 in
set_option maxHeartbeats 800000 in
theorem note_any {w : World} {base n F B p0 np : Nat} {d : Dk} {half : Bool} (hd : DiskIs w base B n d) (hf : FileIs w base F B p0 np half) (ht : TabOk w) (hp : p0 + np * 8 + 80 ≤ n) (hnp : np ≤ 4096) {v : Value} {ps : List Pg} (hpg : Pgs w v ps) (htk : takes np ps) (hwl : d.wait.length ≤ 800000) (hwr : d.writes ≤ 800000000) :
    Calls Tryz.prog 83 #[.pointer (some ⟨F, 0, none⟩), v] w fun e w' => e = .returned (.int .i64 (noteP d (p0 + np * 8) ps).2) ∧ DiskIs w' base B n (noteP d (p0 + np * 8) ps).1 ∧ Kd base w w' := by
  have hn := hd.2.1
  have hbase := hd.base_le
  have hl8 := htk.1
  have HTK := hid htk
  have HD := hid hd
  have HF := hid hf
  have HT := hid ht
  have HPG := hid hpg
  obtain ⟨ao, cap, rfl, hc, hpp⟩ := hpg
  obtain ⟨L, hL⟩ : ∃ L, L = ps.length := ⟨_, rfl⟩
  rw [← hL] at hc hpp hl8 HPG ⊢
  have HPP := hid hpp
  have HL := hid hL
  clear hpp hL hd hf ht htk
  go_enter Tryz.func83, Tryz.ntmps83
  go_wp2
  go_loopw [5, 7, 11] (fun fr _ t wr => ∃ k : Nat, k ≤ L ∧ t = .int .i64 k ∧ wr.ownsRow w.heap.size 5 1 fr (512 * k) (secV (framesOf (ps.take k))) ∧ Below w.heap.size w wr) (fun _ _ t _ => L - (intOf t).toNat)
  case atStart => exact ⟨0, by omega, rfl, by simp [framesOf, secV]; exact World.ownsRow_nil _ _ _ _, Below.refl _ _⟩
  case round =>
    obtain ⟨k, hk, rfl, hown, hbr⟩ := hrel
    by_cases hlt : k < L
    · obtain ⟨b, off, c, f, rfl, hh, hp2⟩ := HPP.out (by omega)
      have hkl : k < ps.length := by have := HL.out; omega
      obtain ⟨s, c0, c1, c2, hs⟩ := hp2 k ps[k] (by simp [hkl])
      have hbb := lt_of_heap hh
      have d0 := (hbr.cell (p := ⟨b, off + k * 3, none⟩) hbb).trans c0
      have d1 := (hbr.cell (p := ⟨b, off + k * 3 + 1, none⟩) hbb).trans c1
      have d2 := (hbr.cell (p := ⟨b, off + k * 3 + 2, none⟩) hbb).trans c2
      have hpok := HTK.out.2.1 ps[k] (List.getElem_mem hkl)
      have hfs := framesOf_snoc (ps.take k) ps[k]
      rw [← List.take_succ_eq_append_getElem hkl] at hfs
      have HFS := hid hfs
      have hsr := own_below hs hbr
      rw [hpok.len] at hs hsr
      obtain ⟨aS, cS, rfl, _⟩ := own_any hs
      have hkI : (k : Int) < (L : Int) := by omega
      obtain ⟨pk, hpk⟩ : ∃ pk, pk = ps[k] := ⟨_, rfl⟩
      rw [← hpk] at d0 d1 hs hsr hpok HFS
      obtain ⟨wB, hwB⟩ : ∃ wB, wr.alloc (.cells #[.int .i64 pk.no, .int .u64 pk.lsn, .slice aS 480 cS] 40) = wB := ⟨_, rfl⟩
      have hbB : Below wr.heap.size wr wB := by rw [← hwB]; exact (Below.refl _ _).alloc (Nat.le_refl _) _
      have hbox : wB.heap[wr.heap.size]? = some (.cells #[.int .i64 pk.no, .int .u64 pk.lsn, .slice aS 480 cS] 40 (0, 0)) := by rw [← hwB]; exact heap_new wr _
      have q0 := cell_of_row wB wr.heap.size 0 _ _ _ hbox
      have q1 := cell_of_row wB wr.heap.size 1 _ _ _ hbox
      have q2 := cell_of_row wB wr.heap.size 2 _ _ _ hbox
      simp only [List.getElem?_toArray, List.getElem?_cons_succ, List.getElem?_cons_zero] at q0 q1 q2
      have HBB := hid (hbr.trans (hbB.mono hbr.size))
      have HFR := hid (frame_any hpok hnp (bs_own (own_below hsr hbB) hpok.byte (by rw [hpok.len]; omega)) (HT.out.below HBB.out (Nat.le_refl _)))
      have HOB := hid (own_below hown hbB)
      have HFB := hid (frameOf_by hpok hnp)
      have hfl := frameOf_len hpok.len
      clear hpk c0 c1 c2 hs hp2 hh hown hbr hbB hbox hpok hfs hsr
      go_wp2_with (first
        | (go_at_call 68; refine HFR.out.mono ?_; rintro e w2 ⟨v2, rfl, hown2, hb2⟩; have HB2 := hid (HBB.out.trans (hb2.mono HBB.out.size)); have HO2 := hid (own_below HOB.out hb2); have HV2 := hid (bs_own hown2 HFB.out (by omega)); clear hown2 hb2 HFR)
        | (at_builtin; refine wpList_append_bs rfl (.tmp 15) (.tmp 17) rfl w.heap.size _ _ _ rfl HO2.out _ _ rfl HV2.out (by omega) HB2.out.size ?_; intro v3 w3 hown3 hgrow3; have HB3 := hid (HB2.out.grown hgrow3 HB2.out.size (own_base HO2.out)); have HO3 := hid hown3; clear hown3 hgrow3))
      go_roundw
      case rel =>
        refine ⟨k + 1, by omega, by go_num, ?_, HB3.out⟩
        have h3 := HO3.out
        rw [hfl] at h3
        rw [HFS.out, secV_app, show 512 * (k + 1) = 512 * k + 512 by omega]
        exact h3
      case measure => simp [intOf]; omega
    · have hkL : k = L := by omega
      have hfull : ps.take k = ps := List.take_of_length_le (by have := HL.out; omega)
      rw [hfull, hkL] at hown
      have hFBY := framesOf_by HTK.out.2.1 hnp
      have hFL : (framesOf ps).length = 512 * L := by rw [framesOf_len (fun p hp => (HTK.out.2.1 p hp).len), ← HL.out]
      have HHD := hid (head_any (own_mono hown (Nat.zero_le _)) hFBY hl8)
      have HJN := hid (journal_any (HF.out.below hbr) (by omega) (by omega))
      have HO := hid hown
      have HBR := hid hbr
      have HFBY := hid hFBY
      have HFL := hid hFL
      have hnt : noteP d (p0 + np * 8) ps = thenP (storeP d (p0 + np * 8) (cut64 (1 + 8 * L) (jBytes ps))) flushP := by rw [HL.out]; rfl
      have HNT := hid hnt
      have hsw := storeP_wait (cut64 (1 + 8 * L) (jBytes ps)) d (p0 + np * 8)
      rw [cut64_len] at hsw
      have herr := storeP_err (cut64 (1 + 8 * L) (jBytes ps)) d (p0 + np * 8)
      obtain ⟨au, cu, rfl, hcu, _⟩ := own_any hown
      clear hown hbr hfull hFBY hFL hnt
      by_cases he0 : (storeP d (p0 + np * 8) (cut64 (1 + 8 * L) (jBytes ps))).2 = 0
      · have HE0 := hid he0
        clear herr he0
        go_wp2_with (first
          | (go_at_call 88; refine HJN.out.mono ?_; rintro e w2 ⟨rfl, hw⟩; have hw' := hw.symm; clear hw HJN; subst hw')
          | (go_at_call 90; refine HHD.out.mono ?_; rintro e w2 ⟨v2, rfl, hown2, hb2⟩; have HB2 := hid (HBR.out.trans (hb2.mono HBR.out.size)); have HO2 := hid (own_mono hown2 HBR.out.size); have HV2 := hid (bs_own (own_below HO.out hb2) HFBY.out (by rw [HFL.out]; omega)); clear hown2 hb2 HHD)
          | (at_builtin; refine wpList_append_bs rfl (.tmp 24) (.tmp 25) rfl w.heap.size _ _ _ rfl HO2.out _ _ rfl HV2.out (by rw [HFL.out]; omega) HB2.out.size ?_; intro v3 w3 hown3 hgrow3; have hB3 := HB2.out.grown hgrow3 HB2.out.size (own_base HO2.out); have hown3' : w3.ownsRow 0 5 1 v3 (64 * (1 + 8 * L)) (secV (jBytes ps)) := (by have h3 := hown3; rw [HFL.out, show 64 + 512 * L = 64 * (1 + 8 * L) by omega] at h3; rw [jBytes, secV_app]; exact own_mono h3 (Nat.zero_le _)); have HK3 := hid (Kd.fresh hB3 hbase); have HST := hid (store_any (HD.out.below hB3) (HF.out.below hB3) (i := p0 + np * 8) (q := 1 + 8 * L) hown3' ((headOf_by HFL.out hl8 HFBY.out).app HFBY.out) (by omega) (by omega) (by omega) (by omega)); rw [HE0.out] at HST; clear hown3 hown3' hgrow3 hB3)
          | (go_at_call 69; refine HST.out.mono ?_; rintro e w4 ⟨rfl, hd4, hk4⟩; have HK4 := hid (HK3.out.trans hk4); obtain ⟨cF, _, _, _⟩ := ((HF.out.kd HK3.out).kd hk4).cells; have HFLU := hid (flush_all hd4 (by omega)); clear hd4 hk4 HST)
          | (go_at_call 55; refine HFLU.out.mono ?_; rintro e w5 ⟨rfl, hd5, hk5⟩; have HD5 := hid hd5; have HK5 := hid (HK4.out.trans hk5); clear hd5 hk5 HFLU))
        go_ret
        rw [HNT.out]
        unfold thenP
        rw [if_neg (fun e => e HE0.out)]
        exact ⟨rfl, HD5.out, HK5.out⟩
      · have he50 : (storeP d (p0 + np * 8) (cut64 (1 + 8 * L) (jBytes ps))).2 = 50 := by omega
        have HE0 := hid he50
        clear herr he0 he50
        go_wp2_with (first
          | (go_at_call 88; refine HJN.out.mono ?_; rintro e w2 ⟨rfl, hw⟩; have hw' := hw.symm; clear hw HJN; subst hw')
          | (go_at_call 90; refine HHD.out.mono ?_; rintro e w2 ⟨v2, rfl, hown2, hb2⟩; have HB2 := hid (HBR.out.trans (hb2.mono HBR.out.size)); have HO2 := hid (own_mono hown2 HBR.out.size); have HV2 := hid (bs_own (own_below HO.out hb2) HFBY.out (by rw [HFL.out]; omega)); clear hown2 hb2 HHD)
          | (at_builtin; refine wpList_append_bs rfl (.tmp 24) (.tmp 25) rfl w.heap.size _ _ _ rfl HO2.out _ _ rfl HV2.out (by rw [HFL.out]; omega) HB2.out.size ?_; intro v3 w3 hown3 hgrow3; have hB3 := HB2.out.grown hgrow3 HB2.out.size (own_base HO2.out); have hown3' : w3.ownsRow 0 5 1 v3 (64 * (1 + 8 * L)) (secV (jBytes ps)) := (by have h3 := hown3; rw [HFL.out, show 64 + 512 * L = 64 * (1 + 8 * L) by omega] at h3; rw [jBytes, secV_app]; exact own_mono h3 (Nat.zero_le _)); have HK3 := hid (Kd.fresh hB3 hbase); have HST := hid (store_any (HD.out.below hB3) (HF.out.below hB3) (i := p0 + np * 8) (q := 1 + 8 * L) hown3' ((headOf_by HFL.out hl8 HFBY.out).app HFBY.out) (by omega) (by omega) (by omega) (by omega)); rw [HE0.out] at HST; clear hown3 hown3' hgrow3 hB3)
          | (go_at_call 69; refine HST.out.mono ?_; rintro e w4 ⟨rfl, hd4, hk4⟩; have HK4 := hid (HK3.out.trans hk4); have HD4 := hid hd4; clear hd4 hk4 HST))
        go_ret
        rw [HNT.out]
        unfold thenP
        rw [if_pos (by rw [HE0.out]; omega)]
        exact ⟨by rw [HE0.out]; rfl, HD4.out, HK4.out⟩
end Go.Proofs.YtkbnjniglngjgaaGreatDoor
