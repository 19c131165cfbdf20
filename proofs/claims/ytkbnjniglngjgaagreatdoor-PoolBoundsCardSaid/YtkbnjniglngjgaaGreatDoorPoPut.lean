/-
  Layer 5: what Put of a Pool gives.
-/
import Derived.Test.YtkbnjniglngjgaaGreatDoorMP
namespace Go.Proofs.YtkbnjniglngjgaaGreatDoor
open Go.RowKit

theorem PW.below {w w' : World} {base P F L g k B n p0 np at' sc : Nat} {d : Dk} {lg : Lg} {f : Fr} (h : PW w base P F L g k B n p0 np at' sc d lg f) (hb : Below w.heap.size w w') : PW w' base P F L g k B n p0 np at' sc d lg f := h.kx (Kx.fresh hb) (h.pl.below hb)
theorem own_page {w : World} {base g o n : Nat} {s : Value} {xs vs : List Value} {cc : Array Value} {ff : Nat × Nat} (h : w.ownsRow base 5 1 s n xs) (hg : w.heap[g]? = some (.cells cc 40 ff)) : (w.setCells g o vs).ownsRow base 5 1 s n xs :=
  own_same h fun k hk => (setCells_far g vs o w).2 k fun e => by
    obtain ⟨c, hc⟩ := own_heap h hk
    rw [e, hg] at hc
    injection hc with e1
    injection e1 with _ e2 _
    revert e2
    decide
/-- What Put refuses. -/
def putBad (np : Nat) (i : Int) (N : Nat) (lsn : Int) (X : Nat) : Prop := ¬ (0 ≤ i ∧ i < np) ∨ N ≠ 480 ∨ ¬ lsn < X
set_option maxHeartbeats 1600000 in
theorem put_bad {w : World} {base P F L g k B n p0 np at' sc : Nat} {d : Dk} {lg : Lg} {f : Fr} (h : PW w base P F L g k B n p0 np at' sc d lg f) {i lsn : Int} {a : Option Addr} {N c : Nat} (hN : N ≤ 65536) (hbad : putBad np i N lsn (lg.first + lg.recs.length)) :
    Calls Tryz.prog 6 #[.pointer (some ⟨P, 0, none⟩), .agg #[.int .i64 i, .int .u64 lsn, .slice a N c]] w fun e w' => e = .returned (.int .i64 1) ∧ Below w.heap.size w w' := by
  obtain ⟨wA, hwA⟩ : ∃ wA, w.alloc (.cells #[.int .i64 i, .int .u64 lsn, .slice a N c] 40) = wA := ⟨_, rfl⟩
  have hbx : Below w.heap.size w wA := by rw [← hwA]; exact (Below.refl _ _).alloc (Nat.le_refl _) _
  have hres : wA.heap[w.heap.size]? = some (.cells #[.int .i64 i, .int .u64 lsn, .slice a N c] 40 (0, 0)) := by rw [← hwA]; exact heap_new w _
  obtain ⟨d0, d1, d2, f0, f1, f2⟩ := box_cells hres
  have hA := h.below hbx
  have HH := hid (fun q => pohas_any (hA.pl.below (below_drewN (Below.refl _ wA) q)) (hA.fi.below (below_drewN (Below.refl _ wA) q)) i)
  have HX := hid (fun q => lnext_any (hA.lo.below (below_drewN (Below.refl _ wA) q)))
  obtain ⟨q0, q1, q2⟩ := hA.pl.cP
  have HB := hid hbx
  have HD := hid (fun q => HB.out.trans (below_drewN (Below.refl _ wA) q |>.mono HB.out.size))
  generalize lg.first + lg.recs.length = X at *
  clear h hA hbx hres
  by_cases h1 : 0 ≤ i ∧ i < (np : Int)
  · have hd : decide (0 ≤ i ∧ i < (np : Int)) = true := by simp only [decide_eq_true_eq]; exact h1
    rw [hd] at HH
    clear hd
    by_cases h2 : N = 480
    · have h3 : ¬ lsn < (X : Int) := by
        rcases hbad with hb | hb | hb
        · exact absurd h1 hb
        · exact absurd h2 hb
        · exact hb
      have h4 : (X : Int) ≤ lsn := by omega
      subst h2
      clear hbad h1
      go_enter Tryz.func6, Tryz.ntmps6
      go_wp2
      go_quiet (first | (go_at_call 14; refine Calls.quiet_of_same (HH.out _)) | (go_at_call 15; refine Calls.quiet_of (HX.out _)))
      go_wp2
      go_ret
      exact ⟨rfl, HD.out _⟩
    · have h3 : ((N : Int) != 480) = true := by simp; omega
      have h4 : decide ((N : Int) = 480) = false := by simp; omega
      have h5 : ¬ (N : Int) = 480 := by omega
      clear hbad h1
      go_enter Tryz.func6, Tryz.ntmps6
      go_wp2
      go_quiet (first | (go_at_call 14; refine Calls.quiet_of_same (HH.out _)) | (go_at_call 15; refine Calls.quiet_of (HX.out _)))
      go_wp2
      go_ret
      exact ⟨rfl, HD.out _⟩
  · have hd : decide (0 ≤ i ∧ i < (np : Int)) = false := by simp only [decide_eq_false_iff_not]; exact h1
    rw [hd] at HH
    clear hbad h1 hd
    go_enter Tryz.func6, Tryz.ntmps6
    go_wp2
    go_quiet (first | (go_at_call 14; refine Calls.quiet_of_same (HH.out _)) | (go_at_call 15; refine Calls.quiet_of (HX.out _)))
    go_wp2
    go_ret
    exact ⟨rfl, HD.out _⟩

set_option maxRecDepth 8000 in
set_option maxHeartbeats 3200000 in
theorem put_new {w : World} {base P F L g k B n p0 np at' sc : Nat} {d : Dk} {lg : Lg} {f : Fr} {no : Nat} {lsn : Int} {s : Value} {zs : List Int} (h : PW w base P F L g k B n p0 np at' sc d lg f) (hh : f.held = false) (hno : no < np) (hlsn : lsn < ((lg.first + lg.recs.length : Nat) : Int)) (hl : d.left ≠ 0) (hp : p0 + np * 8 ≤ n) (hok : OkAt (secs d.now (p0 + no * 8) 8) no) {pg : Pg} (hpg : fetchP (secs d.now (p0 + no * 8) 8) no = pg) (hs : Bs w s zs) (hlen : zs.length = 480) :
    Calls Tryz.prog 6 #[.pointer (some ⟨P, 0, none⟩), .agg #[.int .i64 no, .int .u64 lsn, s]] w fun e w' => ∃ s' s2, e = .returned (.int .i64 0) ∧ w'.ownsRow w.heap.size 5 1 s' 480 (secV zs) ∧ w'.ownsRow w.heap.size 5 1 s2 480 (secV pg.data) ∧ PW w' base P F L g k B n p0 np at' sc d lg ⟨true, true, no, lsn, s', pg.no, pg.lsn, s2⟩ ∧ Kx g w w' := by
  obtain ⟨a, c, rfl, _⟩ := hs.open
  rw [hlen]
  rw [hlen] at hs
  obtain ⟨wA, hwA⟩ : ∃ wA, w.alloc (.cells #[.int .i64 no, .int .u64 lsn, .slice a 480 c] 40) = wA := ⟨_, rfl⟩
  have hbx : Below w.heap.size w wA := by rw [← hwA]; exact (Below.refl _ _).alloc (Nat.le_refl _) _
  have hres : wA.heap[w.heap.size]? = some (.cells #[.int .i64 no, .int .u64 lsn, .slice a 480 c] 40 (0, 0)) := by rw [← hwA]; exact heap_new w _
  obtain ⟨d0, d1, d2, f0, f1, f2⟩ := box_cells hres
  have hA := h.below hbx
  have HH := hid (fun q => pohas_any (hA.pl.below (below_drewN (Below.refl _ wA) q)) (hA.fi.below (below_drewN (Below.refl _ wA) q)) (no : Int))
  have hd : decide (0 ≤ (no : Int) ∧ (no : Int) < (np : Int)) = true := by simp; omega
  rw [hd] at HH
  have HX := hid (fun q => lnext_any (hA.lo.below (below_drewN (Below.refl _ wA) q)))
  obtain ⟨q0, q1, q2⟩ := hA.pl.cP
  have HB := hid hbx
  have HRES := hid hres
  have H := hid h
  have HS := hid hs
  have HHH := hid hh
  have HOK := hid hok
  have HPG := hid hpg
  have hgw := h.pl.glt
  have h3 : ¬ ((lg.first + lg.recs.length : Nat) : Int) ≤ lsn := by omega
  generalize lg.first + lg.recs.length = X at *
  clear h hA hbx hres hs hh hok hpg hd hlsn
  go_enter Tryz.func6, Tryz.ntmps6
  go_wp2
  go_quiet (first | (go_at_call 14; refine Calls.quiet_of_same (HH.out _)) | (go_at_call 15; refine Calls.quiet_of (HX.out _)))
  obtain ⟨wD, hwD⟩ : ∃ wD, wA.drewN nq = wD := ⟨_, rfl⟩
  have hAD : Below wA.heap.size wA wD := by rw [← hwD]; exact below_drewN (Below.refl _ wA) nq
  have hBD := HB.out.trans (hAD.mono HB.out.size)
  have hD := H.out.below hBD
  have hRD := (hAD.block _ (lt_of_heap HRES.out)).trans HRES.out
  rw [hwD]
  have HF := hid (frameOf_no hD.pl HHH.out (no : Int))
  clear d0 d1 d2 f0 f1 f2 q0 q1 q2 HH HX hwD hwA
  obtain ⟨d0, d1, d2, f0, f1, f2⟩ := box_cells hRD
  obtain ⟨q0, q1, q2⟩ := hD.pl.cP
  have HD := hid hD
  have HBD := hid hBD
  have HRD := hid hRD
  clear hD hBD hRD hAD
  go_wp2_with (go_at_call 16; refine HF.out.mono ?_; rintro e w2 ⟨rfl, hw⟩; have hw' := hw.symm; clear hw HF; subst hw')
  have HS1 := hid (fun wx (hb : Below wD.heap.size wD wx) => And.intro (((HD.out.pl.below hb).cP).1) (box_cells ((hb.block _ (lt_of_heap HRD.out)).trans HRD.out)).1)
  have HR := hid (fun wx (hb : Below wD.heap.size wD wx) => HPG.out ▸ pread_any (HD.out.lo.1.below hb) (HD.out.fi.below hb) hl (HD.out.tab.below hb (Nat.le_refl _)) hp hno HOK.out)
  have S1 := HS1.out _ (Below.refl _ wD).drew
  have S1a := fun o => HS1.out (wD.drew.alloc o) ((Below.refl _ wD).drew.alloc (Nat.le_refl _) _)
  clear d0 d1 d2 q0 q1 q2
  go_cut [6, 7] from 43 to 52 (fun s6 s7 wx => ∃ m a2 c2, s6 = .pointer (some ⟨m, 0, none⟩) ∧ s7 = .int .i64 0 ∧ wD.heap.size ≤ m ∧ wx.heap[m]? = some (.cells #[.int .i64 pg.no, .int .u64 pg.lsn, .slice a2 480 c2] 40 (0, 0)) ∧ wx.ownsRow wD.heap.size 5 1 (.slice a2 480 c2) 480 (secV pg.data) ∧ Below wD.heap.size wD wx)
  case first =>
    go_region_held (fun w' => w'.cell? ⟨P, 0, none⟩ = some (.pointer (some ⟨F, 0, none⟩)) ∧ w'.cell? ⟨w.heap.size, 0, none⟩ = some (.int .i64 no)) (first | exact S1 | exact S1a _ | exact S5 | exact S5a _ | exact S5s) (first | (go_at_call 18; refine (HR.out _ (by first | exact (Below.refl _ wD).drew | exact (Below.refl _ wD).drew.alloc (Nat.le_refl _) _)).mono ?_; rintro e w5 ⟨s5, rfl, hown5, hb5⟩; obtain ⟨t5, c5, rfl, _⟩ := own_any hown5; have HB5 := hid (show Below wD.heap.size wD w5 by first | exact (Below.refl _ wD).drew.trans hb5 | exact ((Below.refl _ wD).drew.alloc (Nat.le_refl _) _).trans (hb5.mono (by simp))); have HO5 : Hid (w5.ownsRow wD.heap.size 5 1 (.slice t5 480 c5) 480 (secV pg.data)) := own_mono hown5 (by first | exact Nat.le_refl _ | simp); have S5 := HS1.out _ HB5.out; have S5a := fun o => HS1.out (w5.alloc o) (HB5.out.alloc HB5.out.size _); have S5s := HS1.out _ (((HB5.out.setCell (p := ⟨wD.heap.size, 0, none⟩) (Nat.le_refl _) (.int .i64 pg.no)).setCell (p := ⟨wD.heap.size, 1, none⟩) (Nat.le_refl _) (.int .u64 pg.lsn)).setCell (p := ⟨wD.heap.size, 2, none⟩) (Nat.le_refl _) (.slice t5 480 c5)); first | (have hPB : w5.heap[wD.heap.size]? = some (.cells #[.int .i64 0, .int .u64 0, .slice none 0 0] 40 (0, 0)) := (hb5.block _ (by simp)).trans (heap_new wD.drew _); have HPB := hid hPB; obtain ⟨p0, p1, p2, p3, p4, p5⟩ := box_cells hPB; clear hPB hb5 hown5) | clear hb5 hown5))
    all_goals
      go_wp2
      go_meet
      case rel => first
        | exact ⟨_, t5, c5, rfl, rfl, HB5.out.size, heap_new _ _, own_bl HO5.out ((Below.refl _ _).alloc (Nat.le_refl _) _), HB5.out.alloc HB5.out.size _⟩
        | exact ⟨_, t5, c5, rfl, rfl, Nat.le_refl _, row_set (i := 2) (row_set (i := 1) (row_set (i := 0) (cs := [.int .i64 0, .int .u64 0, .slice none 0 0]) HPB.out _) _) _, own_page (o := 0) (vs := [.int .i64 pg.no, .int .u64 pg.lsn, .slice t5 480 c5]) HO5.out HPB.out, ((HB5.out.setCell (p := ⟨wD.heap.size, 0, none⟩) (Nat.le_refl _) _).setCell (p := ⟨wD.heap.size, 1, none⟩) (Nat.le_refl _) _).setCell (p := ⟨wD.heap.size, 2, none⟩) (Nat.le_refl _) _⟩
  case rest =>
    obtain ⟨m, a2, c2, rfl, rfl, hm, hbm, hom, hbc⟩ := hcut
    have hlt : w.heap.size < wD.heap.size := lt_of_heap HRD.out
    have hbw := HBD.out.trans (hbc.mono HBD.out.size)
    have hbn := (hbc.block _ hlt).trans HRD.out
    have HC := hid (hlen ▸ copyOf_any (w := wc.drew) (no : Int) lsn (HS.out.below hbw.drew))
    have HC' : Hid (Calls Tryz.prog 17 #[.agg #[.int .i64 no, .int .u64 lsn, .slice a 480 c]] wc.drew fun e w' => ∃ s', e = .returned (.agg #[.int .i64 no, .int .u64 lsn, s']) ∧ w'.ownsRow wc.heap.size 5 1 s' 480 (secV zs) ∧ Below wc.heap.size wc.drew w') := HC.out
    have HQ := hid (fun (wx : World) (hk : ∀ i, i < wc.heap.size → i ≠ g → wx.heap[i]? = wc.heap[i]?) => And.intro (box_cells ((hk _ (lt_of_heap hbn) (by omega)).trans hbn)) (box_cells ((hk _ (lt_of_heap hbm) (by omega)).trans hbm)))
    have HOM := hid hom
    have HPC := hid (HD.out.pl.below hbc)
    have HKC := hid (Kx.fresh (g := g) hbw)
    have HWW := hid hbw
    have S1 := HQ.out wc.drew (fun _ _ _ => rfl)
    clear hom hbc hbn hbm hbw HC HR HS1 f0 f1 f2 S1a
    go_wp2
    go_region_held (fun w' => (w'.cell? ⟨w.heap.size, 0, none⟩ = some (.int .i64 no) ∧ w'.cell? ⟨w.heap.size, 1, none⟩ = some (.int .u64 lsn) ∧ w'.cell? ⟨w.heap.size, 2, none⟩ = some (.slice a 480 c) ∧ w'.frozen? ⟨w.heap.size, 0, none⟩ = false ∧ w'.frozen? ⟨w.heap.size, 1, none⟩ = false ∧ w'.frozen? ⟨w.heap.size, 2, none⟩ = false) ∧ (w'.cell? ⟨m, 0, none⟩ = some (.int .i64 pg.no) ∧ w'.cell? ⟨m, 1, none⟩ = some (.int .u64 pg.lsn) ∧ w'.cell? ⟨m, 2, none⟩ = some (.slice a2 480 c2) ∧ w'.frozen? ⟨m, 0, none⟩ = false ∧ w'.frozen? ⟨m, 1, none⟩ = false ∧ w'.frozen? ⟨m, 2, none⟩ = false)) (first | exact S1 | exact S6 | exact S7) (first
      | (go_at_call 17; refine HC'.out.mono ?_; rintro e w6 ⟨s6, rfl, hown6, hb6⟩; obtain ⟨t6, c6, rfl, _⟩ := own_any hown6; have S6 := HQ.out w6 (fun i hi _ => hb6.block i hi); have hb6' : Below wc.heap.size wc w6 := (Below.refl _ wc).drew.trans hb6; have HP6 := hid (HPC.out.below hb6'); have HK6 := hid (HKC.out.trans (Kx.fresh hb6')); have HO6 := hid hown6; have HM6 := hid (own_bl HOM.out hb6'); have HH6 := hid (hold_any HP6.out HHH.out (no : Int) lsn (pg.no : Int) pg.lsn ⟨t6, 480, c6, rfl⟩ ⟨a2, 480, c2, rfl⟩); have HQ6 := hid (show ∀ i, i < wc.heap.size → w6.heap[i]? = wc.heap[i]? from fun i hi => hb6.block i hi); have HS6 := hid hb6'.size; clear hown6 hb6 hb6' HC')
      | (go_at_call 19; refine HH6.out.mono ?_; rintro e w7 ⟨rfl, hp7, hk7⟩; have S7 := HQ.out w7 (fun i hi hg => (hk7.keep i (Nat.lt_of_lt_of_le hi HS6.out) hg).trans (HQ6.out i hi)); have HP7 := hid hp7; have HK7 := hid hk7; clear hp7 hk7 HH6))
    all_goals
      go_wp2
      go_ret
      exact ⟨_, _, rfl, own_mono (own_kx HO6.out HP6.out HK7.out) HWW.out.size, own_mono (own_kx HM6.out HP6.out HK7.out) HBD.out.size, H.out.kx (HK6.out.trans HK7.out) HP7.out, HK6.out.trans HK7.out⟩
end Go.Proofs.YtkbnjniglngjgaaGreatDoor
