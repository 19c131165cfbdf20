/-
  Layer 5: what save of a Pool gives, where the page is dirty and its record does not last yet.
-/
import Derived.Test.YtkbnjniglngjgaaGreatDoorMQ
namespace Go.Proofs.YtkbnjniglngjgaaGreatDoor
open Go.RowKit

set_option maxRecDepth 8000 in
set_option maxHeartbeats 3200000 in
theorem save_dirty {w : World} {base P F L g k B n p0 np at' sc no : Nat} {d d1 d2 : Dk} {lg lg1 : Lg} {a : Bool} {lsn no2 lsn2 : Int} {s s2 : Value} {zs : List Int} (h : PW w base P F L g k B n p0 np at' sc d lg ⟨true, a, no, lsn, s, no2, lsn2, s2⟩) (hbg : base ≤ g) (hg : 0 < base) (hne : lsn ≠ lsn2) (hfl : (lg.flushed : Int) < lsn) (ho : w.ownsRow 0 5 1 s zs.length (secV zs)) (hs2 : ∃ x y z, s2 = .slice x y z)
    (hF : ∀ wx, LogIs wx base L B n at' sc d lg → TabOk wx → Calls Tryz.prog 62 #[.pointer (some ⟨L, 0, none⟩)] wx fun e w' => e = .returned (.int .i64 0) ∧ LogIs w' base L B n at' sc d1 lg1 ∧ Kf base L wx w')
    (hW : ∀ wx v, DiskIs wx base B n d1 → FileIs wx base F B p0 np false → TabOk wx → Pgs wx v [⟨no, lsn, zs⟩] → Calls Tryz.prog 63 #[.pointer (some ⟨F, 0, none⟩), v] wx fun e w' => e = .returned (.int .i64 0) ∧ DiskIs w' base B n d2 ∧ FileIs w' base F B p0 np false ∧ Kp base F wx w') :
    Calls Tryz.prog 35 #[.pointer (some ⟨P, 0, none⟩), .pointer (some ⟨g, 0, none⟩)] w fun e w' => e = .returned (.int .i64 0) ∧ (∃ f2, PlI w' P F L g k f2) ∧ (∃ f2, PW w' base P F L g k B n p0 np at' sc d2 lg1 f2) ∧ Kz base F L g w w' ∧ d1.Ok n := by
  obtain ⟨sa, sn, sc', rfl⟩ := own_slice ho
  obtain ⟨xa, xn, xc, rfl⟩ := hs2
  have HD := hid (dirty_yes h.pl hne)
  have HB := hid h.lo.1.base_le
  have H := hid h
  have HO := hid ho
  have HF := hid hF
  have HW := hid hW
  have HFD := hid (fun wx (hx : PW wx base P F L g k B n p0 np at' sc d lg ⟨true, a, no, lsn, .slice sa sn sc', no2, lsn2, .slice xa xn xc⟩) (q : Nat) => lflushed_any ((hx.drewN q).lo))
  generalize lg.flushed = FL at *
  have hfl' : ((FL : Int) < lsn) = True := eq_true hfl
  clear h ho hF hW hne
  go_enter Tryz.func35, Tryz.ntmps35
  go_upto_region 3 with (go_at_call 42; refine HD.out.mono ?_; rintro e w2 ⟨rfl, q, hw⟩; have H2 : Hid (PW w2 base P F L g k B n p0 np at' sc d lg ⟨true, a, no, lsn, .slice sa sn sc', no2, lsn2, .slice xa xn xc⟩) := (by rw [hw]; exact H.out.drewN q); have HB2 : Hid (Below w.heap.size w w2) := (by rw [hw]; exact below_drewN (Below.refl _ w) q); clear hw HD; obtain ⟨c0, c1, c2⟩ := H2.out.pl.cP; obtain ⟨a0, a1, a2, a3, a4, a5, a6, a7⟩ := H2.out.pl.cells; dsimp only at a0 a1 a2 a3 a4 a5 a6 a7)
  have HFD2 := hid (HFD.out w2 H2.out)
  go_quiet (first | (go_at_call 61; refine Calls.quiet_of_same (HFD2.out _)))
  obtain ⟨w3, hw3⟩ : ∃ w3, w2.drewN nq = w3 := ⟨_, rfl⟩
  have h3 : PW w3 base P F L g k B n p0 np at' sc d lg ⟨true, a, no, lsn, .slice sa sn sc', no2, lsn2, .slice xa xn xc⟩ := by rw [← hw3]; exact H2.out.drewN nq
  have hb3 : Below w.heap.size w w3 := by rw [← hw3]; exact below_drewN HB2.out nq
  rw [hw3]
  clear hw3 c0 c1 c2 a0 a1 a2 a3 a4 a5 a6 a7 HFD HFD2
  have HFL := hid (HF.out w3 h3.lo h3.tab)
  have HO3 := hid (own_bl HO.out hb3)
  obtain ⟨c0, c1, c2⟩ := h3.pl.cP
  have H3 := hid h3
  have HB3 := hid hb3
  clear h3 hb3
  go_upto_region 8 with (go_at_call 62; refine HFL.out.mono ?_; rintro e w4 ⟨rfl, hl4, hk4⟩; have hp4 := H3.out.pl.kf H3.out.lo hk4; obtain ⟨b0, b1, b2⟩ := hp4.cP; obtain ⟨a0, a1, a2, a3, a4, a5, a6, a7⟩ := hp4.cells; have z5 := hp4.frz 5; have z6 := hp4.frz 6; have z7 := hp4.frz 7; dsimp only at a0 a1 a2 a3 a4 a5 a6 a7; have HO4 := hid (own_kf HO3.out H3.out.lo hk4); have H4 : Hid (PW w4 base P F L g k B n p0 np at' sc d1 lg1 ⟨true, a, no, lsn, .slice sa sn sc', no2, lsn2, .slice xa xn xc⟩) := ⟨hp4, hl4, H3.out.fi.kf H3.out.lo hk4, tab_kd H3.out.tab hg hk4.below⟩; have HK4 := hid ((Kz.fresh (F := F) (L := L) (g := g) HB3.out HB.out).trans (Kz.kf hk4)); clear hl4 hk4 hp4 HFL c0 c1 c2)
  obtain ⟨w5, hw5⟩ : ∃ w5, ((w4.setCell ⟨g, 5, none⟩ (.int .i64 0)).setCell ⟨g, 6, none⟩ (.int .u64 0)).setCell ⟨g, 7, none⟩ (.slice none 0 0) = w5 := ⟨_, rfl⟩
  have hs5 := H4.out.pl.sav 0 0 (.slice none 0 0)
  have hz5 := Kz.cells (F := F) (L := L) hbg 5 [.int .i64 0, .int .u64 0, .slice none 0 0] w4
  have ho5 := own_kx HO4.out H4.out.pl hs5.2
  have h5 := H4.out.kx hs5.2 hs5.1
  rw [show w4.setCells g 5 [.int .i64 0, .int .u64 0, .slice none 0 0] = w5 from hw5] at hs5 hz5 ho5 h5
  rw [hw5]
  have HS1 := hid (fun wx (hb : Below w5.heap.size w5 wx) => And.intro ((h5.pl.below hb).cP).1 (And.intro ((h5.pl.below hb).at 2 _ rfl) (And.intro ((h5.pl.below hb).at 3 _ rfl) ((h5.pl.below hb).at 4 _ rfl))))
  have HWR : Hid (Calls Tryz.prog 63 #[.pointer (some ⟨F, 0, none⟩), .slice (some ⟨w5.heap.size, 0, none⟩) 1 1] (w5.drew.alloc (.cells #[.int .i64 no, .int .u64 lsn, .slice sa sn sc'] 40)) fun e w' => e = .returned (.int .i64 0) ∧ DiskIs w' base B n d2 ∧ FileIs w' base F B p0 np false ∧ Kp base F (w5.drew.alloc (.cells #[.int .i64 no, .int .u64 lsn, .slice sa sn sc'] 40)) w') := by
    have hbb : Below w5.heap.size w5 (w5.drew.alloc (.cells #[.int .i64 no, .int .u64 lsn, .slice sa sn sc'] 40)) := (Below.refl _ w5).drew.alloc (Nat.le_refl _) _
    have hh := h5.below hbb
    exact HW.out _ _ hh.lo.1 hh.fi hh.tab (pgs_single (w := w5.drew) (own_bl ho5 (Below.refl _ w5).drew))
  have S1 := HS1.out _ (Below.refl _ w5).drew
  have S1a := fun o => HS1.out (w5.drew.alloc o) ((Below.refl _ w5).drew.alloc (Nat.le_refl _) _)
  have H5 := hid h5
  have HOK1 := hid h5.lo.1.ok
  have HZ5 := hid (HK4.out.trans hz5)
  have HBA := hid (fun o => (show Below w5.heap.size w5 (w5.drew.alloc o) from (Below.refl _ w5).drew.alloc (Nat.le_refl _) _))
  clear hs5 hz5 ho5 h5 hw5 a0 a1 a2 a3 a4 a5 a6 a7 b0 b1 b2 z5 z6 z7
  dsimp only at S1 S1a
  go_region_held (fun w' => w'.cell? ⟨P, 0, none⟩ = some (.pointer (some ⟨F, 0, none⟩)) ∧ w'.cell? ⟨g, 2, none⟩ = some (.int .i64 no) ∧ w'.cell? ⟨g, 3, none⟩ = some (.int .u64 lsn) ∧ w'.cell? ⟨g, 4, none⟩ = some (.slice sa sn sc')) (first | exact S1 | exact S1a _ | exact S6) (first
    | (go_at_call 63; refine HWR.out.mono ?_; rintro e w6 ⟨rfl, hd6, hf6, hk6⟩; have h5a := H5.out.below (HBA.out (.cells #[.int .i64 no, .int .u64 lsn, .slice sa sn sc'] 40)); have H6 : Hid (PW w6 base P F L g k B n p0 np at' sc d2 lg1 ⟨true, a, no, lsn, .slice sa sn sc', 0, 0, .slice none 0 0⟩) := ⟨h5a.pl.kp hk6, h5a.lo.kp hd6 hk6, hf6, tab_kd h5a.tab hg hk6.below⟩; have HZ6 := hid (HZ5.out.trans ((Kz.fresh (F := F) (L := L) (g := g) (HBA.out _) H5.out.lo.1.base_le).trans (Kz.kp hk6))); have S6 := And.intro H6.out.pl.cP.1 (And.intro (H6.out.pl.at 2 (.int .i64 no) rfl) (And.intro (H6.out.pl.at 3 (.int .u64 lsn) rfl) (H6.out.pl.at 4 (.slice sa sn sc') rfl))); clear hd6 hf6 hk6 h5a HWR))
  all_goals
    obtain ⟨a0, a1, a2, a3, a4, a5, a6, a7⟩ := H6.out.pl.cells
    have z5 := H6.out.pl.frz 5
    have z6 := H6.out.pl.frz 6
    have z7 := H6.out.pl.frz 7
    dsimp only at a0 a1 a2 a3 a4 a5 a6 a7
    go_wp2
    go_ret
    have hs7 := H6.out.pl.sav no lsn (.slice sa sn sc')
    exact ⟨rfl, ⟨_, hs7.1⟩, ⟨_, H6.out.kx hs7.2 hs7.1⟩, HZ6.out.trans (Kz.cells hbg 5 [.int .i64 no, .int .u64 lsn, .slice sa sn sc'] w6), HOK1.out⟩
end Go.Proofs.YtkbnjniglngjgaaGreatDoor
