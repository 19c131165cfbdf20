/-
  Layer 4: what wal's Append gives where there is room and the disk lives.
-/
import Derived.Test.YthhlbhnogcfnjaaDoorWGrow
import Derived.Test.YthhlbhnogcfnjaaDoorME
import Derived.Test.YthhlbhnogcfnjaaDoorWReadRecs
import Derived.Deep.RegionLaw
namespace Go.Proofs.YthhlbhnogcfnjaaDoor
open Go.RowKit Go.Shelf

/-- The Log behind an Append. -/
def Lg.add (g : Lg) (rec : List Int) : Lg := { g with recs := g.recs ++ [rec], stop := g.stop + (rec.length + 16), tail := g.tail ++ frameL (g.first + g.recs.length) rec }
/-- Bytes that are handed in: nothing of a Log's that stood when the heap ended at N. -/
def ArgBs (N : Nat) (w : World) (v : Value) (zs : List Int) : Prop := Bs w v zs ∧ ∀ b, v.ownBlock = some b → N ≤ b ∧ b < w.heap.size
theorem ArgBs.below {N : Nat} {w w' : World} {v : Value} {zs : List Int} (h : ArgBs N w v zs) (hb : Below w.heap.size w w') : ArgBs N w' v zs := ⟨h.1.below hb, fun b e => ⟨(h.2 b e).1, Nat.lt_of_lt_of_le (h.2 b e).2 hb.size⟩⟩
theorem load_bytes (w : World) (a : Addr) (v : Value) (h : w.cell? a = some v) : (Instr.loadAt 32 (.pointer (some a))).run Tryd.prog w = .ok v w := by
  go_simp

set_option maxRecDepth 8000 in
set_option maxHeartbeats 3200000 in
theorem append_any {w0 w : World} {base L B n at' sc : Nat} {d : Dk} {g : Lg} (h0 : LogIs w0 base L B n at' sc d g) (hb0 : Below w0.heap.size w0 w) (hl : d.left ≠ 0) (ht : TabOk w) (_hg : 0 < base)
    {v : Value} {rec : List Int} (hv : ArgBs w0.heap.size w v rec) (hrl : rec.length ≤ 2000) (ho : g.start ≤ g.stop) (hroom : rec.length + 16 + (g.stop - g.start) ≤ 48 * (sc - 8))
    (hb1 : g.first + g.recs.length ≤ 4900000000000000000) (hb2 : g.stop ≤ 4900000000000000000) (hb3 : g.recs.length ≤ 900000) (hb4 : g.tail.length ≤ 1900000) :
    Calls Tryd.prog 6 #[.pointer (some ⟨L, 0, none⟩), v] w fun e w' => e = .returned (.tuple #[.int .u64 ((g.first + g.recs.length : Nat) : Int), .int .i64 0]) ∧ LogIs w' base L B n at' sc d (g.add rec) ∧ Kl base w w' := by
  have h := h0.below hb0
  have hsc := h.2.2.1
  have hbase : base ≤ w.heap.size := by have := h.lt; have := h.2.1; omega
  -- the tail's block is not the record's
  have hTB : ∀ ra rc ta tc, w.heap[L]? = some (.cells #[.pointer (some ⟨B, 0, none⟩), .int .i64 at', .int .i64 sc, .int .u64 g.first, .slice ra g.recs.length rc, .int .u64 g.start, .int .u64 g.stop, .int .u64 g.flushed, .slice ta g.tail.length tc] 50 (0, 0)) → ∀ b, Value.ownBlock (.slice ta g.tail.length tc) = some b → b < w0.heap.size := fun ra rc ta tc hh b e => by
    obtain ⟨ra', rc', ta', tc', hh', hto', _⟩ := h0.form
    rw [(hb0.block L (lt_of_heap hh')).trans hh'] at hh
    injection hh with e1
    injection e1 with e1 _ _
    simp at e1
    obtain ⟨_, rfl, rfl⟩ := e1
    exact (hto'.lt b e).2
  have hL0 := h0.lt
  obtain ⟨au, cu, rfl, _⟩ := hv.1.open
  obtain ⟨R, hR⟩ : ∃ R, R = rec.length := ⟨_, rfl⟩
  rw [← hR] at hv hrl hroom ⊢
  have HRM := hid (lroom_any h ho (by omega))
  obtain ⟨ZR, hZR⟩ : ∃ ZR, ZR = 48 * (sc - 8) - (g.stop - g.start) := ⟨_, rfl⟩
  rw [← hZR] at HRM
  have hZ1 : R + 16 ≤ ZR ∧ ZR ≤ 2000000 := by omega
  obtain ⟨lsn, hlsn⟩ : ∃ lsn, lsn = g.first + g.recs.length := ⟨_, rfl⟩
  have HNX := hid (fun q => lnext_any (h.below (below_drewN (Below.refl _ w) q)))
  rw [← hlsn] at HNX ⊢
  have HDE := hid (fun q => dead_any (h.1.below (below_drewN (Below.refl _ w) q)))
  have hde : (d.left == 0) = false := by simpa using hl
  rw [hde] at HDE
  have hc0 : ∀ q, (w.drewN q).cell? ⟨L, 0, none⟩ = some (.pointer (some ⟨B, 0, none⟩)) := fun q => by
    obtain ⟨_, _, _, _, hh2, _⟩ := (h.below (below_drewN (Below.refl _ w) q)).form
    exact (log_cells hh2).1
  have H := hid h
  have HV := hid hv
  have HT := hid ht
  have HTB := hid hTB
  have HR := hid hR
  have HLS := hid hlsn
  have hR2 : decide ((2000 : Int) < (R : Int)) = false := by simp; omega
  have hR3 : decide ((ZR : Int) < (R : Int) + 16) = false := by simp; omega
  have hw16 : IntKind.i64.wrap ((R : Int) + 16) = (R : Int) + 16 := by rw [IntKind.wrap_i64]; omega
  clear h h0 hv ht hTB hR hlsn hZR hde
  go_enter Tryd.func6, Tryd.ntmps6
  go_upto_region 8 with (first
    | (go_at_call 19; refine HRM.out.mono ?_; rintro e w1 ⟨rfl, q1, hw1⟩; have hw1' := hw1.symm; clear hw1 HRM; have hcq := hc0 q1; rw [hw1'] at hcq)
    | (go_at_call 20; rw [← hw1']; refine (HDE.out _).mono ?_; rintro e w2 ⟨rfl, hw2⟩; rw [hw1'] at hw2; have hw2' := hw2.symm; clear hw2; subst hw2')
    | (go_at_call 13; rw [← hw1']; refine (HNX.out _).mono ?_; rintro e w3 ⟨rfl, q3, hw3⟩; have HW3 := hid hw3; clear hw3))
  have hb3' : Below w.heap.size w w3 := by rw [HW3.out]; exact below_drewN (below_drewN (Below.refl _ w) _) _
  have hbd : Below w.heap.size w w3.drew := hb3'.drew
  obtain ⟨T, hT⟩ : ∃ T, T = g.tail.length := ⟨_, rfl⟩
  obtain ⟨zs, hzs⟩ : ∃ zs, zs = frameL lsn rec := ⟨_, rfl⟩
  obtain ⟨ra, rc, ta, tc, hh, _⟩ := H.out.form
  have hhd := (hbd.block L (lt_of_heap hh)).trans hh
  have hfr : Calls Tryd.prog 21 #[.int .u64 lsn, .slice au R cu] w3.drew fun e w5 => ∃ gz cz ao cap w6, e = .returned (.slice (some ⟨gz, 0, none⟩) (R + 16) cz) ∧ Hid ((Builtin.append_ #[32, 32] 32 #[.slice ta T tc, .slice (some ⟨gz, 0, none⟩) (R + 16) cz]).run Tryd.prog w5 = .ok (.slice ao (T + (R + 16)) cap) w6) ∧ w5.cell? ⟨L, 8, none⟩ = some (.slice ta T tc) ∧ w6.cell? ⟨L, 8, none⟩ = some (.slice ta T tc) ∧ w6.frozen? ⟨L, 8, none⟩ = false ∧
      Hid (LogIs (w6.setCell ⟨L, 8, none⟩ (.slice ao (T + (R + 16)) cap)) base L B n at' sc d { g with tail := g.tail ++ zs } ∧ Kl base w (w6.setCell ⟨L, 8, none⟩ (.slice ao (T + (R + 16)) cap)) ∧ ArgBs w0.heap.size (w6.setCell ⟨L, 8, none⟩ (.slice ao (T + (R + 16)) cap)) (.slice au R cu) rec) := by
    have hvd := HV.out.below hbd
    refine (frameOf_any hvd.1 (HT.out.below hbd (Nat.le_refl _)) (by rw [← HR.out]; exact hrl) lsn (by rw [HLS.out]; omega)).mono ?_
    rintro e w5 ⟨v5, rfl, hown5, hby5, hlen5, hb5⟩
    rw [← HR.out] at hown5 hlen5
    obtain ⟨gz, cz, rfl, _⟩ := own_src hown5 (by omega)
    have hb5' : Below w.heap.size w w5 := hbd.trans (hb5.mono hbd.size)
    have hh5 := (hb5'.block L (lt_of_heap hh)).trans hh
    obtain ⟨ao, cap, w6, hrun, hL6, hlog6, hkl6, hfar6⟩ := (H.out.below hb5').grow hh5 hown5 hby5 (by omega)
    have hh6 := hL6.trans hh5
    rw [← hzs] at hlog6
    rw [← hT] at hrun hlog6 hkl6 hfar6 hh5 hh6
    refine ⟨gz, cz, ao, cap, w6, rfl, hrun, (log_cells hh5).2.2.2.2.2.2.2.2, (log_cells hh6).2.2.2.2.2.2.2.2, (log_frozen hh6).2.2.2.2.2, hlog6, (Kl.fresh hb5' hbase).trans hkl6, ?_⟩
    have hsame : ∀ b, Value.ownBlock (.slice au R cu) = some b → (w6.setCell ⟨L, 8, none⟩ (.slice ao (T + (R + 16)) cap)).heap[b]? = w5.heap[b]? := fun b e => by
      obtain ⟨q1, q2⟩ := (HV.out.below hb5').2 b e
      refine hfar6 b _ (by simp [q2] : w5.heap[b]? = some w5.heap[b]) (fun e' => ?_) (fun e' => by omega)
      have := HTB.out ra rc ta tc hh b (by rw [← hT]; exact e')
      omega
    exact ⟨(HV.out.below hb5').1.same hsame, fun b e => ⟨((HV.out.below hb5').2 b e).1, Nat.lt_of_lt_of_le ((HV.out.below hb5').2 b e).2 hkl6.size⟩⟩
  have HFR := hid hfr
  have cT : w3.drew.cell? ⟨L, 8, none⟩ = some (.slice ta T tc) := by rw [hT]; exact (log_cells hhd).2.2.2.2.2.2.2.2
  have hTb : T ≤ 1900000 := by omega
  have HTT := hid (And.intro hT hzs)
  clear hfr hh hhd hT hzs hb3' hbd
  go_cut [23] from 24 to 33 (fun _ wx => LogIs wx base L B n at' sc d { g with tail := g.tail ++ zs } ∧ Kl base w wx ∧ ArgBs w0.heap.size wx (.slice au R cu) rec)
  case first =>
    go_region_law (first
      | (refine step_run (v := .slice ao6 (T + (R + 16)) cap6) (w' := w6) rfl (exec_append (v := .slice ta T tc) (u := .slice (some ⟨gz, 0, none⟩) (R + 16) cz) (.tmp 27) (.tmp 30) 32 rfl rfl rfl hrun6.out) ?_)
      | (go_simp; go_at_call 21; refine HFR.out.mono ?_; rintro e w5 ⟨gz, cz, ao6, cap6, w6, rfl, hrun6, cT5, cT6, fT6, hfin6⟩; dsimp only))
    all_goals
      go_wp2
      go_meet
      exact hfin6.out
  case rest =>
  obtain ⟨hl9, hk9, hv9⟩ := hcut
  clear HFR cT
  -- the record
  obtain ⟨N, hN⟩ : ∃ N, N = g.recs.length := ⟨_, rfl⟩
  have hdr : Below wc.heap.size wc wc.drew := (Below.refl _ wc).drew
  obtain ⟨ra9, rc9, ta9, tc9, hh9, hto9, _⟩ := (hl9.below hdr).form
  dsimp only at hh9
  have hcl : Calls Tryd.prog 22 #[.slice au R cu] wc.drew fun e w5 => ∃ a5 c5 ao cap w6, e = .returned (.slice a5 R c5) ∧ Hid ((Builtin.append_ #[48, 48] 48 #[.slice ra9 N rc9, .slice (some ⟨w5.heap.size, 0, none⟩) 1 1]).run Tryd.prog (w5.alloc (.cells #[.slice a5 R c5] 32)) = .ok (.slice ao (N + 1) cap) w6) ∧ w5.cell? ⟨L, 4, none⟩ = some (.slice ra9 N rc9) ∧ (w5.alloc (.cells #[.slice a5 R c5] 32)).cell? ⟨L, 4, none⟩ = some (.slice ra9 N rc9) ∧ w6.cell? ⟨L, 4, none⟩ = some (.slice ra9 N rc9) ∧ w6.frozen? ⟨L, 4, none⟩ = false ∧
      Hid (LogIs (w6.setCell ⟨L, 4, none⟩ (.slice ao (N + 1) cap)) base L B n at' sc d { g with recs := g.recs ++ [rec], tail := g.tail ++ zs } ∧ Kl base w (w6.setCell ⟨L, 4, none⟩ (.slice ao (N + 1) cap))) := by
    refine (bs_clone_own (hv9.below hdr).1 (by rw [← HR.out]; omega)).mono ?_
    rintro e w5 ⟨v5, rfl, hown5, hb5⟩
    rw [← HR.out] at hown5
    obtain ⟨a5, c5, rfl⟩ := slice_form hown5
    have hb5' : Below wc.heap.size wc w5 := hdr.trans hb5
    have hh5 := (hb5.block L (lt_of_heap hh9)).trans hh9
    have hnb : NewBs wc.heap.size w5 (.slice a5 R c5) rec := newBs_own hown5 HV.out.1.byte (by rw [← HR.out]; omega)
    obtain ⟨ao, cap, w6, hrun, hL6, hlog6, hkl6, _, _, _⟩ := (hl9.below hb5').push hh5 (by dsimp only; omega) (by dsimp only; omega) (hnb.mono (Nat.le_trans hbase hk9.size)) (fun b e1 e2 => by
      have h1 := (hto9.lt b e1).2
      have h2 := (hnb.2 b e2).1
      have h3 : b < wc.heap.size := h1
      omega)
    have hh6 := hL6.trans hh5
    dsimp only at hrun hlog6 hkl6
    rw [← hN] at hrun hlog6 hkl6 hh5 hh6
    have hal : Below w5.heap.size w5 (w5.alloc (.cells #[.slice a5 R c5] 32)) := (Below.refl _ _).alloc (Nat.le_refl _) _
    have c45 := (log_cells hh5).2.2.2.2.1
    refine ⟨a5, c5, ao, cap, w6, rfl, hrun, c45, (hal.cell (p := ⟨L, 4, none⟩) (lt_of_heap hh5)).trans c45, (log_cells hh6).2.2.2.2.1, (log_frozen hh6).2.1, hlog6, ?_⟩
    exact hk9.trans ((Kl.fresh hb5' (Nat.le_trans hbase hk9.size)).trans hkl6)
  have HCL := hid hcl
  have cR : wc.drew.cell? ⟨L, 4, none⟩ = some (.slice ra9 N rc9) := by rw [hN]; exact (log_cells hh9).2.2.2.2.1
  have hNb : N ≤ 900000 := by omega
  have HNN := hid hN
  clear hcl hh9 hto9 hN hl9 hk9 hv9 hdr
  go_upto_region 9 with fail
  go_cut [34] from 35 to 44 (fun _ wx => LogIs wx base L B n at' sc d { g with recs := g.recs ++ [rec], tail := g.tail ++ zs } ∧ Kl base w wx)
  case first =>
    go_region_law (first
      | (refine step_run (v := .slice ao6 (N + 1) cap6) (w' := w6) rfl (exec_append (v := .slice ra9 N rc9) (u := .slice (some ⟨w5.heap.size, 0, none⟩) 1 1) (.tmp 38) (.tmp 41) 48 rfl rfl rfl hrun6.out) ?_)
      | (go_simp; go_at_call 22; refine HCL.out.mono ?_; rintro e w5 ⟨a5, c5, ao6, cap6, w6, rfl, hrun6, cR5, cR5a, cR6, fR6, hfin6⟩; dsimp only))
    all_goals
      go_wp2
      go_meet
      exact hfin6.out
  case rest =>
  obtain ⟨hl10, hk10⟩ := hcut
  clear HCL cR
  obtain ⟨ra10, rc10, ta10, tc10, hh10, _⟩ := (hl10.below (Below.refl _ wc).drew).form
  dsimp only at hh10
  obtain ⟨E, hE⟩ : ∃ E, E = g.stop := ⟨_, rfl⟩
  have c6 : wc.drew.cell? ⟨L, 6, none⟩ = some (.int .u64 E) := by rw [hE]; exact (log_cells hh10).2.2.2.2.2.2.1
  have f6 : wc.drew.frozen? ⟨L, 6, none⟩ = false := (log_frozen hh10).2.2.2.1
  have HLN := hid (fun wx => lengthOf_any au R cu wx (by omega))
  have hwE : IntKind.u64.wrap ((E : Int) + ((R : Int) + 16)) = ((E + (R + 16) : Nat) : Int) := by rw [PlainAid.u64_nonneg (by omega) (by omega)]; omega
  have hfin : LogIs (wc.setCell ⟨L, 6, none⟩ (.int .u64 ((E + (R + 16) : Nat) : Int))).drew base L B n at' sc d (g.add rec) ∧ Kl base w (wc.setCell ⟨L, 6, none⟩ (.int .u64 ((E + (R + 16) : Nat) : Int))).drew := by
    have hgg : ({ first := g.first, recs := g.recs ++ [rec], start := g.start, stop := E + (R + 16), flushed := g.flushed, tail := g.tail ++ zs } : Lg) = g.add rec := by
      rw [Lg.add, HTT.out.2, HLS.out, hE, HR.out]
    obtain ⟨a1, k1⟩ := hl10.store (g' := { first := g.first, recs := g.recs ++ [rec], start := g.start, stop := E + (R + 16), flushed := g.flushed, tail := g.tail ++ zs }) 6 (.int .u64 ((E + (R + 16) : Nat) : Int)) rfl rfl (fun _ _ => rfl) ⟨hl10.2.2.2.1.1, hl10.2.2.2.1.2.1, by dsimp only; omega, hl10.2.2.2.1.2.2.2.1⟩
    rw [hgg] at a1
    have hk := hk10.trans k1
    exact ⟨a1.below (Below.refl _ _).drew, hk.trans (Kl.fresh (Below.refl _ _).drew (Nat.le_trans hbase hk.size))⟩
  have HFIN := hid hfin
  clear hfin hh10 hE hl10 hk10
  go_upto_region 10 with fail
  go_cut [45] from 46 to 53 (fun _ wx => LogIs wx base L B n at' sc d (g.add rec) ∧ Kl base w wx)
  case first =>
    go_region_law (first
      | (go_simp; go_at_call 23; refine (HLN.out _).mono ?_; rintro e w5 ⟨rfl, hw5⟩; have hw5' := hw5.symm; clear hw5; subst hw5'; dsimp only))
    all_goals
      go_wp2
      go_meet
      first
        | exact HFIN.out
        | (rw [hwE]; exact HFIN.out)
        | (rw [show ((E : Int) + ((R : Int) + 16)) = ((E + (R + 16) : Nat) : Int) by omega]; exact HFIN.out)
  case rest =>
  obtain ⟨hl11, hk11⟩ := hcut
  have HL11 := hid (And.intro hl11 hk11)
  clear hl11 hk11
  go_wp2
  go_ret2
  exact ⟨rfl, HL11.out.1, HL11.out.2⟩
end Go.Proofs.YthhlbhnogcfnjaaDoor
