/-
  Layer 4: what wal.clearRest gives where nothing is to be cleared.
-/
import Derived.Test.YthhlbhnogcfnjaaDoorWStream
import Derived.Test.YthhlbhnogcfnjaaDoorDFlushWalk
namespace Go.Proofs.YthhlbhnogcfnjaaDoor
open Go.RowKit Go.Shelf

set_option maxRecDepth 8000 in
set_option maxHeartbeats 3200000 in
theorem clear_none {w : World} {base L B n at' sc : Nat} {d : Dk} {g : Lg} (h : LogIs w base L B n at' sc d g) (hl : d.left ≠ 0) (ht : TabOk w) (hwl : d.wait.length ≤ 1000000)
    (hcl : ∀ i, at' + 1 ≤ i → i < at' + sc → pcOk (d.now.getD i []) = false ∨ pcNo (d.now.getD i []) < ((g.stop / 48 : Nat) : Int)) :
    Calls Tryd.prog 18 #[.pointer (some ⟨L, 0, none⟩)] w fun e w' => e = .returned (.int .i64 0) ∧ LogIs w' base L B n at' sc d.flush g ∧ Kl base w w' := by
  obtain ⟨ra, rc, ta, tc, hh, _⟩ := h.form
  obtain ⟨c0, c1, c2, c3, c4, c5, c6, c7, c8⟩ := log_cells hh
  have hsc := h.2.2.1
  have hnum := h.2.2.2.1
  have hdn := h.1.2.1
  have hbase : base ≤ w.heap.size := by have := h.lt; have := h.2.1; omega
  have hsec : ∀ i, i < n → Sec (d.now.getD i []) := fun i hi => h.1.ok.now_secs _ (by simp [List.getD, h.1.ok.now_len, hi])
  have HSEC := hid hsec
  have H := hid h
  have HL := hid hl
  have HT := hid ht
  have HCL := hid hcl
  have hq : ((g.stop : Int) / 48) = ((g.stop / 48 : Nat) : Int) := by omega
  obtain ⟨P, hP⟩ : ∃ P, P = g.stop / 48 := ⟨_, rfl⟩
  have hP1 : P ≤ 200000000000000000 := by omega
  rw [← hP] at hq HCL
  obtain ⟨G, hG⟩ : ∃ G, G = g.stop := ⟨_, rfl⟩
  rw [← hG] at c6 hq
  have HQ := hid hq
  have hcells : ∀ wx, Below w.heap.size w wx → wx.cell? ⟨L, 0, none⟩ = some (.pointer (some ⟨B, 0, none⟩)) ∧ wx.cell? ⟨L, 1, none⟩ = some (.int .i64 at') ∧ wx.cell? ⟨L, 2, none⟩ = some (.int .i64 sc) := fun wx hb => by
    obtain ⟨ra2, rc2, ta2, tc2, hh2, _⟩ := (H.out.below hb).form
    obtain ⟨q0, q1, q2, _⟩ := log_cells hh2
    exact ⟨q0, q1, q2⟩
  have HC := hid hcells
  have hat : at' ≤ 65536 := by omega
  clear h hl ht hh hq hP hG hcl hsec hcells c0 c2 c3 c4 c5 c7 c8
  go_enter Tryd.func18, Tryd.ntmps18
  go_wp2
  rw [HQ.out, wrap_u64 (by omega)]
  go_loopw [4, 5, 6, 7, 8, 9, 10, 11] (fun t _ _ _ _ _ _ _ wr => ∃ (i : Nat), at' + 1 ≤ i ∧ i ≤ at' + sc ∧ t = .int .i64 i ∧ Below w.heap.size w wr) (fun t _ _ _ _ _ _ _ _ => at' + sc - (intOf t).toNat)
  case atStart => exact ⟨at' + 1, by omega, by omega, by go_num, Below.refl _ _⟩
  case round =>
    obtain ⟨i, hi1, hi2, rfl, hbr⟩ := hrel
    have HBR := hid hbr
    obtain ⟨e0, e1, e2⟩ := HC.out wr hbr
    have hwa : IntKind.i64.wrap ((at' : Int) + (sc : Int)) = ((at' + sc : Nat) : Int) := by rw [IntKind.wrap_i64]; omega
    clear hbr
    by_cases hlt : i < at' + sc
    · have hltI : (i : Int) < ((at' + sc : Nat) : Int) := by omega
      obtain ⟨s, hs⟩ : ∃ s, s = d.now.getD i [] := ⟨_, rfl⟩
      have hss : Sec s := hs ▸ HSEC.out i (by omega)
      have hcase := HCL.out i hi1 hlt
      rw [← hs] at hcase
      have HRDA : Hid (∀ q, Calls Tryd.prog 34 #[.pointer (some ⟨B, 0, none⟩), .int .i64 (i : Int)] (wr.drewN q) fun e w3 => ∃ a3 k3, e = .returned (.tuple #[.slice a3 64 k3, .int .i64 0]) ∧ Hid (Calls Tryd.prog 38 #[.slice a3 64 k3] w3 fun e w' => ∃ v', e = .returned (.tuple #[.int .u64 (pcNo s), v', .bool (pcOk s)]) ∧ NewBs w3.heap.size w' v' (pcBy s) ∧ Below w3.heap.size w3 w') ∧ Hid (Below w.heap.size w w3)) := fun q => by
        have hb : Below w.heap.size w (wr.drewN q) := below_drewN HBR.out q
        refine (read_any (H.out.1.below hb) (i := i) (by omega) HL.out).mono ?_
        rintro e w3 ⟨v3, rfl, hown3, hb3⟩
        obtain ⟨a3, k3, rfl⟩ := slice_form hown3
        have hb3' : Below w.heap.size w w3 := hb.trans (hb3.mono hb.size)
        have hown4 : w3.ownsRow (wr.drewN q).heap.size 5 1 (.slice a3 64 k3) 64 (s.map (Value.int .u8)) := by rw [hs]; exact hown3
        have hbs := bs_of_own hown4 hss.2 (by rw [hss.1]; omega)
        exact ⟨a3, k3, rfl, pieceIn_any hbs (HT.out.below hb3' (Nat.le_refl _)) hss.1, hb3'⟩
      clear hs hss
      rcases hcase with hno | hno
      · rw [hno] at HRDA
        clear hno
        go_wp2
        go_quiet (fail)
        go_wp2_with (first
          | (go_at_call 34; refine (HRDA.out _).mono ?_; rintro e w3 ⟨a3, k3, rfl, hP3, hb3⟩; clear HRDA)
          | (go_at_call 38; refine hP3.out.mono ?_; rintro e w4 ⟨v4, rfl, hN4, hb4⟩; clear hP3; have HB4 := hid (hb3.out.trans (hb4.mono hb3.out.size)); clear hN4 hb4))
        go_roundw
        case rel => exact ⟨i + 1, by omega, by omega, by go_num, HB4.out⟩
        case measure => simp [intOf]; omega
      · by_cases hok : pcOk s = true
        · rw [hok] at HRDA
          generalize pcNo s = Q at HRDA hno
          clear hok
          go_wp2
          go_quiet (fail)
          go_wp2_with (first
            | (go_at_call 34; refine (HRDA.out _).mono ?_; rintro e w3 ⟨a3, k3, rfl, hP3, hb3⟩; clear HRDA)
            | (go_at_call 38; refine hP3.out.mono ?_; rintro e w4 ⟨v4, rfl, hN4, hb4⟩; clear hP3; have HB4 := hid (hb3.out.trans (hb4.mono hb3.out.size)); clear hN4 hb4))
          go_roundw
          case rel => exact ⟨i + 1, by omega, by omega, by go_num, HB4.out⟩
          case measure => simp [intOf]; omega
        · have hok' : pcOk s = false := by simpa using hok
          rw [hok'] at HRDA
          clear hok hok' hno
          go_wp2
          go_quiet (fail)
          go_wp2_with (first
            | (go_at_call 34; refine (HRDA.out _).mono ?_; rintro e w3 ⟨a3, k3, rfl, hP3, hb3⟩; clear HRDA)
            | (go_at_call 38; refine hP3.out.mono ?_; rintro e w4 ⟨v4, rfl, hN4, hb4⟩; clear hP3; have HB4 := hid (hb3.out.trans (hb4.mono hb3.out.size)); clear hN4 hb4))
          go_roundw
          case rel => exact ⟨i + 1, by omega, by omega, by go_num, HB4.out⟩
          case measure => simp [intOf]; omega
    · obtain rfl : i = at' + sc := by omega
      have hltI : decide (((at' + sc : Nat) : Int) < ((at' + sc : Nat) : Int)) = false := by simp
      have HFL := hid (fun q => flush_any (H.out.1.below (below_drewN HBR.out q)) HL.out hwl)
      have hcq : ∀ q, (wr.drewN q).cell? ⟨L, 0, none⟩ = some (.pointer (some ⟨B, 0, none⟩)) := fun q => (HC.out _ (below_drewN HBR.out q)).1
      go_wp2
      go_quiet (fail)
      go_wp2_with (go_at_call 27; refine (HFL.out _).mono ?_; rintro e w5 ⟨rfl, hd5, hk5⟩)
      go_ret
      refine ⟨rfl, (H.out.below (below_drewN HBR.out _)).kd hd5 hk5, (Kl.fresh (below_drewN HBR.out _) hbase).trans (Kl.of_kd (hk5.mono (Nat.le_refl _)))⟩
end Go.Proofs.YthhlbhnogcfnjaaDoor
