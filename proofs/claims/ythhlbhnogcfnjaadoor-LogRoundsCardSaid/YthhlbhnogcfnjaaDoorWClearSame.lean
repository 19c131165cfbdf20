/-
  Layer 4: what wal.clearRest gives where nothing is to be cleared: the last piece may stand there as it is.
-/
import Derived.Test.YthhlbhnogcfnjaaDoorWClear
import Derived.Test.YthhlbhnogcfnjaaDoorWBack
import Derived.Test.YthhlbhnogcfnjaaDoorDFlushWalk
namespace Go.Proofs.YthhlbhnogcfnjaaDoor
open Go.RowKit Go.Shelf

set_option maxRecDepth 8000 in
set_option maxHeartbeats 3200000 in
theorem clear_same {w : World} {base L B n at' sc : Nat} {d : Dk} {g : Lg} (h : LogIs w base L B n at' sc d g) (hl : d.left ≠ 0) (ht : TabOk w) (hwl : d.wait.length ≤ 1000000)
    (hcl : ∀ i, at' + 1 ≤ i → i < at' + sc → pcOk (d.now.getD i []) = false ∨ pcNo (d.now.getD i []) < ((g.stop / 48 : Nat) : Int) ∨ (g.tail.length ≤ 48 ∧ d.now.getD i [] = secL (g.stop / 48) g.tail)) :
    Calls Tryd.prog 18 #[.pointer (some ⟨L, 0, none⟩)] w fun e w' => e = .returned (.int .i64 0) ∧ LogIs w' base L B n at' sc d.flush g ∧ Kl base w w' := by
  obtain ⟨ra, rc, ta, tc, hh, hh0, _⟩ := h.form
  obtain ⟨c0, c1, c2, c3, c4, c5, c6, c7, c8⟩ := log_cells hh
  have hsc := h.2.2.1
  have hnum := h.2.2.2.1
  have hdn := h.1.2.1
  have hbase : base ≤ w.heap.size := by have := h.lt; have := h.2.1; omega
  have hsec : ∀ i, i < n → Sec (d.now.getD i []) := fun i hi => h.1.ok.now_secs _ (by simp [List.getD, h.1.ok.now_len, hi])
  have HSEC := hid hsec
  have H := hid h
  have HL := hid hl
  have HT := hid ht
  have HCL := hid hcl
  have hq : ((g.stop : Int) / 48) = ((g.stop / 48 : Nat) : Int) := by omega
  obtain ⟨T, hT⟩ : ∃ T, T = g.tail.length := ⟨_, rfl⟩
  rw [← hT] at c8
  have HTT := hid hT
  have HBT := hid h.2.2.2.2.1
  have HOT := hid hh0
  obtain ⟨P, hP⟩ : ∃ P, P = g.stop / 48 := ⟨_, rfl⟩
  have hP1 : P ≤ 200000000000000000 := by omega
  rw [← hP] at hq HCL
  obtain ⟨G, hG⟩ : ∃ G, G = g.stop := ⟨_, rfl⟩
  rw [← hG] at c6 hq
  have HQ := hid hq
  have hcells : ∀ wx, Below w.heap.size w wx → wx.cell? ⟨L, 0, none⟩ = some (.pointer (some ⟨B, 0, none⟩)) ∧ wx.cell? ⟨L, 1, none⟩ = some (.int .i64 at') ∧ wx.cell? ⟨L, 2, none⟩ = some (.int .i64 sc) ∧ wx.cell? ⟨L, 8, none⟩ = some (.slice ta T tc) := fun wx hb => by
    obtain ⟨ra2, rc2, ta2, tc2, hh2, _⟩ := (H.out.below hb).form
    obtain ⟨q0, q1, q2, _⟩ := log_cells hh2
    exact ⟨q0, q1, q2, (hb.cell (p := ⟨L, 8, none⟩) (lt_of_cell c8)).trans c8⟩
  have HC := hid hcells
  have hat : at' ≤ 65536 := by omega
  obtain ⟨Z, hZ⟩ : ∃ Z, Z = List.replicate 64 (Value.int .u8 0) := ⟨_, rfl⟩
  have hmk : ∀ wx : World, (Instr.makeSlice 32 (.int .i64 64) (.int .i64 64)).run Tryd.prog wx = .ok (.slice (some ⟨wx.heap.size, 0, none⟩) 64 64) (wx.alloc (.cells Z.toArray 5)) := fun wx => by rw [hZ]; exact make_bytes 64 (by omega) wx
  clear h hl ht hh hh0 hq hP hG hcl hsec hcells c0 c2 c3 c4 c5 c7 c8 hT hZ
  go_enter Tryd.func18, Tryd.ntmps18
  go_wp2
  rw [HQ.out, wrap_u64 (by omega)]
  go_loopw [4, 5, 6, 7, 8, 9, 10, 11] (fun t _ _ _ _ _ _ _ wr => ∃ (i : Nat), at' + 1 ≤ i ∧ i ≤ at' + sc ∧ t = .int .i64 i ∧ Below w.heap.size w wr) (fun t _ _ _ _ _ _ _ _ => at' + sc - (intOf t).toNat)
  case atStart => exact ⟨at' + 1, by omega, by omega, by go_num, Below.refl _ _⟩
  case round =>
    obtain ⟨i, hi1, hi2, rfl, hbr⟩ := hrel
    have HBR := hid hbr
    obtain ⟨e0, e1, e2, e8⟩ := HC.out wr hbr
    have hwa : IntKind.i64.wrap ((at' : Int) + (sc : Int)) = ((at' + sc : Nat) : Int) := by rw [IntKind.wrap_i64]; omega
    clear hbr
    by_cases hlt : i < at' + sc
    · have hltI : (i : Int) < ((at' + sc : Nat) : Int) := by omega
      obtain ⟨s, hs⟩ : ∃ s, s = d.now.getD i [] := ⟨_, rfl⟩
      have hss : Sec s := hs ▸ HSEC.out i (by omega)
      have hcase := HCL.out i hi1 hlt
      rw [← hs] at hcase
      have HRDA : Hid (∀ q, Calls Tryd.prog 34 #[.pointer (some ⟨B, 0, none⟩), .int .i64 (i : Int)] (wr.drewN q) fun e w3 => ∃ a3 k3, e = .returned (.tuple #[.slice a3 64 k3, .int .i64 0]) ∧ Hid (Calls Tryd.prog 38 #[.slice a3 64 k3] w3 fun e w' => ∃ v', e = .returned (.tuple #[.int .u64 (pcNo s), v', .bool (pcOk s)]) ∧ NewBs w3.heap.size w' v' (pcBy s) ∧ Below w3.heap.size w3 w') ∧ Hid (Below w.heap.size w w3) ∧ Hid (Bs w3 (.slice a3 64 k3) s)) := fun q => by
        have hb : Below w.heap.size w (wr.drewN q) := below_drewN HBR.out q
        refine (read_any (H.out.1.below hb) (i := i) (by omega) HL.out).mono ?_
        rintro e w3 ⟨v3, rfl, hown3, hb3⟩
        obtain ⟨a3, k3, rfl⟩ := slice_form hown3
        have hb3' : Below w.heap.size w w3 := hb.trans (hb3.mono hb.size)
        have hown4 : w3.ownsRow (wr.drewN q).heap.size 5 1 (.slice a3 64 k3) 64 (s.map (Value.int .u8)) := by rw [hs]; exact hown3
        have hbs := bs_of_own hown4 hss.2 (by rw [hss.1]; omega)
        exact ⟨a3, k3, rfl, pieceIn_any hbs (HT.out.below hb3' (Nat.le_refl _)) hss.1, hb3', hbs⟩
      clear hs hss
      rcases hcase with hno | hno | ⟨hT48, hsP⟩
      · rw [hno] at HRDA
        clear hno
        go_wp2
        go_quiet (fail)
        go_wp2_with (first
          | (go_at_call 34; refine (HRDA.out _).mono ?_; rintro e w3 ⟨a3, k3, rfl, hP3, hb3, hO3⟩; clear HRDA)
          | (go_at_call 38; refine hP3.out.mono ?_; rintro e w4 ⟨v4, rfl, hN4, hb4⟩; clear hP3; have HB4 := hid (hb3.out.trans (hb4.mono hb3.out.size)); clear hN4 hb4))
        go_roundw
        case rel => exact ⟨i + 1, by omega, by omega, by go_num, HB4.out⟩
        case measure => simp [intOf]; omega
      · by_cases hok : pcOk s = true
        · rw [hok] at HRDA
          generalize pcNo s = Q at HRDA hno
          clear hok
          go_wp2
          go_quiet (fail)
          go_wp2_with (first
            | (go_at_call 34; refine (HRDA.out _).mono ?_; rintro e w3 ⟨a3, k3, rfl, hP3, hb3, hO3⟩; clear HRDA)
            | (go_at_call 38; refine hP3.out.mono ?_; rintro e w4 ⟨v4, rfl, hN4, hb4⟩; clear hP3; have HB4 := hid (hb3.out.trans (hb4.mono hb3.out.size)); clear hN4 hb4))
          go_roundw
          case rel => exact ⟨i + 1, by omega, by omega, by go_num, HB4.out⟩
          case measure => simp [intOf]; omega
        · have hok' : pcOk s = false := by simpa using hok
          rw [hok'] at HRDA
          clear hok hok' hno
          go_wp2
          go_quiet (fail)
          go_wp2_with (first
            | (go_at_call 34; refine (HRDA.out _).mono ?_; rintro e w3 ⟨a3, k3, rfl, hP3, hb3, hO3⟩; clear HRDA)
            | (go_at_call 38; refine hP3.out.mono ?_; rintro e w4 ⟨v4, rfl, hN4, hb4⟩; clear hP3; have HB4 := hid (hb3.out.trans (hb4.mono hb3.out.size)); clear hN4 hb4))
          go_roundw
          case rel => exact ⟨i + 1, by omega, by omega, by go_num, HB4.out⟩
          case measure => simp [intOf]; omega
      · rw [← HTT.out] at hT48
        obtain ⟨p1, p2, _⟩ := pc_sec (no := P) (ps := g.tail) (by omega) HBT.out (by have := HTT.out; omega)
        rw [← hsP] at p1 p2
        rw [p1, p2] at HRDA
        have HSP := hid hsP
        have hgen : ∀ (w4 : World), Below w.heap.size w w4 → w4.cell? ⟨L, 8, none⟩ = some (.slice ta T tc) ∧ Hid (Calls Tryd.prog 39 #[.int .u64 (P : Int), .slice ta T tc] w4 fun e w5 => ∃ a5 c5, e = .returned (.slice a5 64 c5) ∧ Hid (Below w4.heap.size w4 w5) ∧ Hid (Bs w5 (.slice a5 64 c5) s)) := fun w4 hb => by
          refine ⟨(HC.out w4 hb).2.2.2, ?_⟩
          have hown := own_below HOT.out hb
          rw [← HTT.out] at hown
          refine (sectorOf_any (bs_of_own hown HBT.out (by have := HTT.out; omega)) (HT.out.below hb (Nat.le_refl _)) (by have := HTT.out; omega) P (by omega)).mono ?_
          rintro e w5 ⟨v5, rfl, hown5, hby5, hl5, hb5⟩
          have hbs5 := bs_of_own hown5 hby5 (by omega)
          rw [← hl5] at hown5
          obtain ⟨a5, c5, rfl⟩ := slice_form hown5
          rw [hl5] at hbs5 ⊢
          exact ⟨a5, c5, rfl, hb5, by rw [HSP.out]; exact hbs5⟩
        have hgen2 : ∀ (w3 w4 : World) (a3 : Option Addr) (k3 : Nat), Below w.heap.size w w3 → Bs w3 (.slice a3 64 k3) s → Below w3.heap.size w3 w4 → Hid (Below w.heap.size w (w4.alloc (.cells Z.toArray 5))) ∧ (w4.alloc (.cells Z.toArray 5)).cell? ⟨L, 8, none⟩ = some (.slice ta T tc) ∧ Hid (Calls Tryd.prog 39 #[.int .u64 (P : Int), .slice ta T tc] (w4.alloc (.cells Z.toArray 5)) fun e w5 => ∃ a5 c5, e = .returned (.slice a5 64 c5) ∧ Hid (Below (w4.alloc (.cells Z.toArray 5)).heap.size (w4.alloc (.cells Z.toArray 5)) w5) ∧ Hid (Bs w5 (.slice a5 64 c5) s)) ∧ Hid (Bs (w4.alloc (.cells Z.toArray 5)) (.slice a3 64 k3) s) := fun w3 w4 a3 k3 h3 hb3 h4 => by
          have ha : Below w3.heap.size w3 (w4.alloc (.cells Z.toArray 5)) := h4.alloc h4.size _
          have hB := h3.trans (ha.mono h3.size)
          obtain ⟨g1, g2⟩ := hgen _ hB
          exact ⟨hB, g1, g2, hb3.below ha⟩
        have HG2 := hid hgen2
        clear p1 p2 hsP hgen hgen2
        go_wp2
        go_quiet (fail)
        go_wp2_with (first
          | (go_at_call 34; refine (HRDA.out _).mono ?_; rintro e w3 ⟨a3, k3, rfl, hP3, hb3, hO3⟩; clear HRDA)
          | (go_at_call 38; refine hP3.out.mono ?_; rintro e w4 ⟨v4, rfl, hN4, hb4⟩; clear hP3; have HB4 := hid (hb3.out.trans (hb4.mono hb3.out.size)); obtain ⟨HB4a, c84, HS4, HO4⟩ := HG2.out w3 w4 a3 k3 hb3.out hO3.out hb4; clear hN4 hb4)
          | (go_at_call 39; refine HS4.out.mono ?_; rintro e w5 ⟨a5, c5, rfl, HB5, HS5⟩; have HEQ := hid (equal_any (HO4.out.below HB5.out) HS5.out); have HB6 := hid (HB4a.out.trans (HB5.out.mono HB4a.out.size)))
          | (go_at_call 40; refine HEQ.out.mono ?_; rintro e w6 ⟨rfl, hw⟩; have hw' := hw.symm; clear hw; subst hw'))
        go_roundw
        case rel => exact ⟨i + 1, by omega, by omega, by go_num, HB6.out⟩
        case measure => simp [intOf]; omega
    · obtain rfl : i = at' + sc := by omega
      have hltI : decide (((at' + sc : Nat) : Int) < ((at' + sc : Nat) : Int)) = false := by simp
      have HFL := hid (fun q => flush_any (H.out.1.below (below_drewN HBR.out q)) HL.out hwl)
      have hcq : ∀ q, (wr.drewN q).cell? ⟨L, 0, none⟩ = some (.pointer (some ⟨B, 0, none⟩)) := fun q => (HC.out _ (below_drewN HBR.out q)).1
      go_wp2
      go_quiet (fail)
      go_wp2_with (go_at_call 27; refine (HFL.out _).mono ?_; rintro e w5 ⟨rfl, hd5, hk5⟩)
      go_ret
      refine ⟨rfl, (H.out.below (below_drewN HBR.out _)).kd hd5 hk5, (Kl.fresh (below_drewN HBR.out _) hbase).trans (Kl.of_kd (hk5.mono (Nat.le_refl _)))⟩
end Go.Proofs.YthhlbhnogcfnjaaDoor
