/-
  Layer 4: what wal.clearRest gives where nothing is to be cleared.
-/
import Derived.Test.YtkbnjniglngjgaaGreatDoorWStream
import Derived.Test.YtkbnjniglngjgaaGreatDoorMD
import Derived.Test.YtkbnjniglngjgaaGreatDoorWReadRecs
namespace Go.Proofs.YtkbnjniglngjgaaGreatDoor
open Go.RowKit Go.Shelf

set_option maxRecDepth 8000 in
set_option maxHeartbeats 3200000 in
theorem clear_none {w : World} {base L B n at' sc : Nat} {d : Dk} {g : Lg} (h : LogIs w base L B n at' sc d g) (hl : d.left ≠ 0) (ht : TabOk w) (hwl : d.wait.length ≤ 1000000)
    (hcl : ∀ i, at' + 1 ≤ i → i < at' + sc → pcOk (d.now.getD i []) = false ∨ pcNo (d.now.getD i []) < ((g.stop / 48 : Nat) : Int)) :
    Calls Tryz.prog 29 #[.pointer (some ⟨L, 0, none⟩)] w fun e w' => e = .returned (.int .i64 0) ∧ LogIs w' base L B n at' sc d.flush g ∧ Kl base w w' := by
  obtain ⟨ra, rc, ta, tc, hh, _⟩ := h.form
  obtain ⟨c0, c1, c2, c3, c4, c5, c6, c7, c8⟩ := log_cells hh
  have hsc := h.2.2.1
  have hnum := h.2.2.2.1
  have hdn := h.1.2.1
  have hbase : base ≤ w.heap.size := by have := h.lt; have := h.2.1; omega
  have hsec : ∀ i, i < n → Sec (d.now.getD i []) := fun i hi => h.1.ok.now_secs _ (by simp [List.getD, h.1.ok.now_len, hi])
  have HSEC := hid hsec
  have H := hid h
  have HL := hid hl
  have HT := hid ht
  have HCL := hid hcl
  have hq : ((g.stop : Int) / 48) = ((g.stop / 48 : Nat) : Int) := by omega
  obtain ⟨P, hP⟩ : ∃ P, P = g.stop / 48 := ⟨_, rfl⟩
  have hP1 : P ≤ 200000000000000000 := by omega
  rw [← hP] at hq HCL
  obtain ⟨G, hG⟩ : ∃ G, G = g.stop := ⟨_, rfl⟩
  rw [← hG] at c6 hq
  have HQ := hid hq
  have hcells : ∀ wx, Below w.heap.size w wx → wx.cell? ⟨L, 0, none⟩ = some (.pointer (some ⟨B, 0, none⟩)) ∧ wx.cell? ⟨L, 1, none⟩ = some (.int .i64 at') ∧ wx.cell? ⟨L, 2, none⟩ = some (.int .i64 sc) := fun wx hb => by
    obtain ⟨ra2, rc2, ta2, tc2, hh2, _⟩ := (H.out.below hb).form
    obtain ⟨q0, q1, q2, _⟩ := log_cells hh2
    exact ⟨q0, q1, q2⟩
  have HC := hid hcells
  have hat : at' ≤ 65536 := by omega
  clear h hl ht hh hq hP hG hcl hsec hcells c0 c2 c3 c4 c5 c7 c8
  go_enter Tryz.func29, Tryz.ntmps29
  go_wp2
  rw [HQ.out, wrap_u64 (by omega)]
  go_loopw [4, 5, 6, 7, 8, 9, 10, 11] (fun t _ _ _ _ _ _ _ wr => ∃ (i : Nat), at' + 1 ≤ i ∧ i ≤ at' + sc ∧ t = .int .i64 i ∧ Below w.heap.size w wr) (fun t _ _ _ _ _ _ _ _ => at' + sc - (intOf t).toNat)
  case atStart => exact ⟨at' + 1, by omega, by omega, by go_num, Below.refl _ _⟩
  case round =>
    obtain ⟨i, hi1, hi2, rfl, hbr⟩ := hrel
    have HBR := hid hbr
    obtain ⟨e0, e1, e2⟩ := HC.out wr hbr
    have hwa : IntKind.i64.wrap ((at' : Int) + (sc : Int)) = ((at' + sc : Nat) : Int) := by rw [IntKind.wrap_i64]; omega
    clear hbr
    by_cases hlt : i < at' + sc
    · have hltI : (i : Int) < ((at' + sc : Nat) : Int) := by omega
      obtain ⟨s, hs⟩ : ∃ s, s = d.now.getD i [] := ⟨_, rfl⟩
      have hss : Sec s := hs ▸ HSEC.out i (by omega)
      have hcase := HCL.out i hi1 hlt
      rw [← hs] at hcase
      have HRDA : Hid (∀ q, Calls Tryz.prog 44 #[.pointer (some ⟨B, 0, none⟩), .int .i64 (i : Int)] (wr.drewN q) fun e w3 => ∃ a3 k3, e = .returned (.tuple #[.slice a3 64 k3, .int .i64 0]) ∧ Hid (Calls Tryz.prog 51 #[.slice a3 64 k3] w3 fun e w' => ∃ v', e = .returned (.tuple #[.int .u64 (pcNo s), v', .bool (pcOk s)]) ∧ NewBs w3.heap.size w' v' (pcBy s) ∧ Below w3.heap.size w3 w') ∧ Hid (Below w.heap.size w w3)) := fun q => by
        have hb : Below w.heap.size w (wr.drewN q) := below_drewN HBR.out q
        refine (read_any (H.out.1.below hb) (i := i) (by omega) HL.out).mono ?_
        rintro e w3 ⟨v3, rfl, hown3, hb3⟩
        obtain ⟨a3, k3, rfl⟩ := slice_form hown3
        have hb3' : Below w.heap.size w w3 := hb.trans (hb3.mono hb.size)
        have hown4 : w3.ownsRow (wr.drewN q).heap.size 5 1 (.slice a3 64 k3) 64 (s.map (Value.int .u8)) := by rw [hs]; exact hown3
        have hbs := bs_of_own hown4 hss.2 (by rw [hss.1]; omega)
        exact ⟨a3, k3, rfl, pieceIn_any hbs (HT.out.below hb3' (Nat.le_refl _)) hss.1, hb3'⟩
      clear hs hss
      rcases hcase with hno | hno
      · rw [hno] at HRDA
        clear hno
        go_wp2
        go_quiet (fail)
        go_wp2_with (first
          | (go_at_call 44; refine (HRDA.out _).mono ?_; rintro e w3 ⟨a3, k3, rfl, hP3, hb3⟩; clear HRDA)
          | (go_at_call 51; refine hP3.out.mono ?_; rintro e w4 ⟨v4, rfl, hN4, hb4⟩; clear hP3; have HB4 := hid (hb3.out.trans (hb4.mono hb3.out.size)); clear hN4 hb4))
        go_roundw
        case rel => exact ⟨i + 1, by omega, by omega, by go_num, HB4.out⟩
        case measure => simp [intOf]; omega
      · by_cases hok : pcOk s = true
        · rw [hok] at HRDA
          generalize pcNo s = Q at HRDA hno
          clear hok
          go_wp2
          go_quiet (fail)
          go_wp2_with (first
            | (go_at_call 44; refine (HRDA.out _).mono ?_; rintro e w3 ⟨a3, k3, rfl, hP3, hb3⟩; clear HRDA)
            | (go_at_call 51; refine hP3.out.mono ?_; rintro e w4 ⟨v4, rfl, hN4, hb4⟩; clear hP3; have HB4 := hid (hb3.out.trans (hb4.mono hb3.out.size)); clear hN4 hb4))
          go_roundw
          case rel => exact ⟨i + 1, by omega, by omega, by go_num, HB4.out⟩
          case measure => simp [intOf]; omega
        · have hok' : pcOk s = false := by simpa using hok
          rw [hok'] at HRDA
          clear hok hok' hno
          go_wp2
          go_quiet (fail)
          go_wp2_with (first
            | (go_at_call 44; refine (HRDA.out _).mono ?_; rintro e w3 ⟨a3, k3, rfl, hP3, hb3⟩; clear HRDA)
            | (go_at_call 51; refine hP3.out.mono ?_; rintro e w4 ⟨v4, rfl, hN4, hb4⟩; clear hP3; have HB4 := hid (hb3.out.trans (hb4.mono hb3.out.size)); clear hN4 hb4))
          go_roundw
          case rel => exact ⟨i + 1, by omega, by omega, by go_num, HB4.out⟩
          case measure => simp [intOf]; omega
    · obtain rfl : i = at' + sc := by omega
      have hltI : decide (((at' + sc : Nat) : Int) < ((at' + sc : Nat) : Int)) = false := by simp
      have HFL := hid (fun q => flush_any (H.out.1.below (below_drewN HBR.out q)) HL.out hwl)
      have hcq : ∀ q, (wr.drewN q).cell? ⟨L, 0, none⟩ = some (.pointer (some ⟨B, 0, none⟩)) := fun q => (HC.out _ (below_drewN HBR.out q)).1
      go_wp2
      go_quiet (fail)
      go_wp2_with (go_at_call 55; refine (HFL.out _).mono ?_; rintro e w5 ⟨rfl, hd5, hk5⟩)
      go_ret
      refine ⟨rfl, (H.out.below (below_drewN HBR.out _)).kd hd5 hk5, (Kl.fresh (below_drewN HBR.out _) hbase).trans (Kl.of_kd (hk5.mono (Nat.le_refl _)))⟩
end Go.Proofs.YtkbnjniglngjgaaGreatDoor

namespace Go.Proofs.YtkbnjniglngjgaaGreatDoor
open Go.RowKit Go.Shelf

theorem lopen_bad {w : World} {base B n : Nat} {d : Dk} (h : DiskIs w base B n d) {at' sc : Int} (hb : ¬ (16 ≤ sc ∧ sc ≤ 32768 ∧ 0 ≤ at' ∧ at' ≤ n - sc)) :
    Calls Tryz.prog 13 #[.pointer (some ⟨B, 0, none⟩), .int .i64 at', .int .i64 sc] w fun e w' => e = .returned (.tuple #[.pointer none, .int .i64 1]) ∧ w' = w := by
  have HS := hid (sectors_any h)
  have hn := h.2.1
  clear h
  by_cases h1 : sc < 16
  · clear hb
    go_enter Tryz.func13, Tryz.ntmps13
    go_wp2
    go_ret2
    exact ⟨rfl, rfl⟩
  have h1' : decide (sc < 16) = false := by simpa using h1
  by_cases h2 : 32768 < sc
  · clear hb h1
    go_enter Tryz.func13, Tryz.ntmps13
    go_wp2
    go_ret2
    exact ⟨rfl, rfl⟩
  have h2' : decide (32768 < sc) = false := by simpa using h2
  by_cases h3 : at' < 0
  · clear hb h1 h2
    go_enter Tryz.func13, Tryz.ntmps13
    go_wp2
    go_ret2
    exact ⟨rfl, rfl⟩
  have h3' : decide (at' < 0) = false := by simpa using h3
  have hw : IntKind.i64.wrap ((n : Int) - sc) = (n : Int) - sc := by rw [IntKind.wrap_i64]; omega
  have h4 : (n : Int) - sc < at' := by omega
  clear hb h1 h2 h3
  go_enter Tryz.func13, Tryz.ntmps13
  go_wp2_with (go_at_call 24; refine HS.out.mono ?_; rintro e w2 ⟨rfl, hw2⟩; have hw2' := hw2.symm; clear hw2; subst hw2')
  go_ret2
  exact ⟨rfl, rfl⟩

theorem headF_bounds (s : List Int) : 1 ≤ headF s ∧ headF s ≤ 4611686018427387904 ∧ headS s ≤ 4611686018427387904 := by
  by_cases h : hdOk s = true
  · obtain ⟨_, _, h1, h2, h3⟩ := hd_nat h
    exact ⟨h1, h2, h3⟩
  · rw [headF, headS, if_neg h, if_neg h]
    omega
/-- A Log that is just laid. -/
theorem log_new {w : World} {base B n at' sc : Nat} {d : Dk} (h : DiskIs w base B n d) (hsc : 16 ≤ sc ∧ sc ≤ 32768 ∧ at' + sc ≤ n) :
    LogIs (w.alloc (.cells #[.pointer (some ⟨B, 0, none⟩), .int .i64 at', .int .i64 sc, .int .u64 0, .slice none 0 0, .int .u64 0, .int .u64 0, .int .u64 0, .slice none 0 0] 80)) base w.heap.size B n at' sc d { first := 0, recs := [], start := 0, stop := 0, flushed := 0, tail := [] } := by
  refine ⟨h.below ((Below.refl _ w).alloc (Nat.le_refl _) _), h.base_le, hsc, by simp, fun x hx => by simp at hx, .slice none 0 0, .slice none 0 0, heap_new w _, World.ownsRow_nil _ _ _ _, [], rfl, World.ownsRow_nil _ _ _ _, fun k r u hr _ => by simp at hr⟩

/-- The Log that stands on a disk. -/
def openG (now : List (List Int)) (at' sc : Nat) : Lg := readG now at' sc (headF (now.getD at' [])) (headS (now.getD at' []))
set_option maxHeartbeats 1600000 in
theorem lopen_good {w : World} {base B n at' sc : Nat} {d : Dk} (h : DiskIs w base B n d) (hsc : 16 ≤ sc ∧ sc ≤ 32768 ∧ at' + sc ≤ n) (hl : d.left ≠ 0) (ht : TabOk w) (hg : 0 < base) (hwl : d.wait.length ≤ 1000000)
    (hcl : ∀ i, at' + 1 ≤ i → i < at' + sc → pcOk (d.now.getD i []) = false ∨ pcNo (d.now.getD i []) < (((openG d.now at' sc).stop / 48 : Nat) : Int)) :
    Calls Tryz.prog 13 #[.pointer (some ⟨B, 0, none⟩), .int .i64 at', .int .i64 sc] w fun e w' => ∃ L, e = .returned (.tuple #[.pointer (some ⟨L, 0, none⟩), .int .i64 0]) ∧ LogIs w' base L B n at' sc d.flush (openG d.now at' sc) ∧ Kl base w w' ∧ w.heap.size ≤ L := by
  have HS := hid (sectors_any h)
  have hn := h.2.1
  have hbase := h.base_le
  have h0 := log_new h hsc
  obtain ⟨W0, hW0⟩ : ∃ W0, w.alloc (.cells #[.pointer (some ⟨B, 0, none⟩), .int .i64 at', .int .i64 sc, .int .u64 0, .slice none 0 0, .int .u64 0, .int .u64 0, .int .u64 0, .slice none 0 0] 80) = W0 := ⟨_, rfl⟩
  rw [hW0] at h0
  have hb0 : Below w.heap.size w W0 := by rw [← hW0]; exact (Below.refl _ w).alloc (Nat.le_refl _) _
  have ht0 : TabOk W0 := ht.below hb0 (Nat.le_refl _)
  obtain ⟨hf1, hf2, hf3⟩ := headF_bounds (d.now.getD at' [])
  have H1 := hid (readHead_any h0 hl ht0 hg)
  have H2 : Hid (∀ w1, LogIs w1 base w.heap.size B n at' sc d { first := headF (d.now.getD at' []), recs := [], start := headS (d.now.getD at' []), stop := 0, flushed := 0, tail := [] } → Kl base W0 w1 → Calls Tryz.prog 28 #[.pointer (some ⟨w.heap.size, 0, none⟩)] w1 fun e w' => e = .returned (.int .i64 0) ∧ LogIs w' base w.heap.size B n at' sc d (openG d.now at' sc) ∧ Kl base w1 w') := fun w1 hl1 hk1 =>
    readRecs_any hl1 hl (ht0.base hk1.below hg) hg rfl rfl hf1 (by dsimp only; omega) (by dsimp only; omega)
  have H3 : Hid (∀ w2, LogIs w2 base w.heap.size B n at' sc d (openG d.now at' sc) → Kl base W0 w2 → Calls Tryz.prog 29 #[.pointer (some ⟨w.heap.size, 0, none⟩)] w2 fun e w' => e = .returned (.int .i64 0) ∧ LogIs w' base w.heap.size B n at' sc d.flush (openG d.now at' sc) ∧ Kl base w2 w') := fun w2 hl2 hk2 =>
    clear_none hl2 hl (ht0.base hk2.below hg) hwl hcl
  have HK0 := hid (Kl.fresh hb0 hbase)
  have HW0 := hid hW0
  have hL : w.heap.size ≤ w.heap.size := Nat.le_refl _
  obtain ⟨L, hLL⟩ : ∃ L, w.heap.size = L := ⟨_, rfl⟩
  have g1 : decide ((sc : Int) < 16) = false := by simp; omega
  have g2 : decide ((32768 : Int) < (sc : Int)) = false := by simp; omega
  have g3 : decide ((at' : Int) < 0) = false := by simp
  have hw : IntKind.i64.wrap ((n : Int) - (sc : Int)) = (n : Int) - (sc : Int) := by rw [IntKind.wrap_i64]; omega
  have g4 : decide ((n : Int) - (sc : Int) < (at' : Int)) = false := by simp; omega
  have HLL := hid hLL
  clear h h0 ht ht0 hb0 hW0 hcl hf1 hf2 hf3 hL hLL
  go_enter Tryz.func13, Tryz.ntmps13
  go_wp2_with (first
    | (go_at_call 24; refine HS.out.mono ?_; rintro e w2 ⟨rfl, hw2⟩; have hw2' := hw2.symm; clear hw2; subst hw2')
    | (go_at_call 27; rw [HW0.out]; refine H1.out.mono ?_; rintro e w3 ⟨rfl, hl3, hk3⟩; have HL3 := hid (And.intro hl3 hk3); clear H1 hl3 hk3)
    | (go_at_call 28; refine (H2.out _ HL3.out.1 HL3.out.2).mono ?_; rintro e w4 ⟨rfl, hl4, hk4⟩; have HL4 := hid (And.intro hl4 (HL3.out.2.trans hk4)); clear H2 hl4 hk4)
    | (go_at_call 29; refine (H3.out _ HL4.out.1 HL4.out.2).mono ?_; rintro e w5 ⟨rfl, hl5, hk5⟩; have HL5 := hid (And.intro hl5 (HL4.out.2.trans hk5)); clear H3 hl5 hk5))
  go_ret2
  exact ⟨_, rfl, HL5.out.1, HK0.out.trans HL5.out.2, Nat.le_refl _⟩
end Go.Proofs.YtkbnjniglngjgaaGreatDoor

namespace Go.Proofs.YtkbnjniglngjgaaGreatDoor
open Go.RowKit Go.Shelf

theorem nought_not : pcOk nought = false := by decide +kernel
theorem hd_not : hdOk nought = false := by
  have := nought_not
  simp [hdOk, this]
theorem new_at (n i : Nat) (h : i < n) : (Dk.new n).now.getD i [] = nought := by
  simp [Dk.new, Dk.now, app, List.getD, h]
def Lg.fresh : Lg := { first := 1, recs := [], start := 0, stop := 0, flushed := 0, tail := [] }
theorem fresh_open {n at' sc : Nat} (hsc : 16 ≤ sc ∧ at' + sc ≤ n) : openG (Dk.new n).now at' sc = Lg.fresh := by
  have h1 : headF ((Dk.new n).now.getD at' []) = 1 := by rw [new_at n at' (by omega), headF, hd_not]; rfl
  have h2 : headS ((Dk.new n).now.getD at' []) = 0 := by rw [new_at n at' (by omega), headS, hd_not]; rfl
  have h3 : strm (Dk.new n).now at' sc 0 = [] := by
    have hlt : 0 % (sc - 1) < sc - 1 := Nat.mod_lt _ (by omega)
    rw [strm, show sc - 1 = sc - 2 + 1 by omega, strmF, sectAt, new_at n _ (by omega), if_neg (by rw [nought_not]; simp)]
  have h4 : strmB (Dk.new n).now at' sc 0 = [] := by
    rw [strmB, Nat.zero_div, h3]
    rfl
  have h5 : strmZ (Dk.new n).now at' sc 0 = [] := by rw [strmZ, h4]; simp
  have h6 : recsP [] 1 = [] := by
    refine recsP_no ?_
    simp [rcOk, dec]
  rw [openG, h1, h2]
  show ({ first := 1, recs := recsP (strmZ (Dk.new n).now at' sc 0) ((1 : Nat) : Int), start := 0, stop := 0 + bulkOf (recsP (strmZ (Dk.new n).now at' sc 0) ((1 : Nat) : Int)), flushed := 1 + (recsP (strmZ (Dk.new n).now at' sc 0) ((1 : Nat) : Int)).length - 1, tail := ((strmB (Dk.new n).now at' sc 0).take (0 % 48 + bulkOf (recsP (strmZ (Dk.new n).now at' sc 0) ((1 : Nat) : Int)))).drop ((0 % 48 + bulkOf (recsP (strmZ (Dk.new n).now at' sc 0) ((1 : Nat) : Int))) / 48 * 48) } : Lg) = _
  rw [h5, h4, show ((1 : Nat) : Int) = 1 from rfl, h6]
  rfl
theorem fresh_clear {n at' sc : Nat} (hsc : at' + sc ≤ n) (k : Nat) : ∀ i, at' + 1 ≤ i → i < at' + sc → pcOk ((Dk.new n).now.getD i []) = false ∨ pcNo ((Dk.new n).now.getD i []) < (k : Int) := fun i _ h2 => .inl (by rw [new_at n i (by omega)]; exact nought_not)
/-- A Log on a new disk. -/
theorem lopen_new {w : World} {base B n at' sc : Nat} (h : DiskIs w base B n (Dk.new n)) (hsc : 16 ≤ sc ∧ sc ≤ 32768 ∧ at' + sc ≤ n) (ht : TabOk w) (hg : 0 < base) :
    Calls Tryz.prog 13 #[.pointer (some ⟨B, 0, none⟩), .int .i64 at', .int .i64 sc] w fun e w' => ∃ L, e = .returned (.tuple #[.pointer (some ⟨L, 0, none⟩), .int .i64 0]) ∧ LogIs w' base L B n at' sc (Dk.new n).flush Lg.fresh ∧ Kl base w w' ∧ w.heap.size ≤ L := by
  have := lopen_good h hsc (by simp [Dk.new]) ht hg (by simp [Dk.new]) (fresh_clear hsc.2.2 _)
  rw [fresh_open ⟨hsc.1, hsc.2.2⟩] at this
  exact this

theorem conv_same (w : World) (C : Array Value) (n c : Nat) : (convert 38 38 (.slice (some ⟨w.heap.size, 0, none⟩) n c)).run Tryz.prog (w.alloc (.cells C 5)) =
    .ok (.slice (some ⟨w.heap.size, 0, none⟩) n c) (w.alloc (.cells C 5 (C.size, C.size + 1))) := by
  have hsh : (w.alloc (.cells C 5)).shape? w.heap.size = some (5, C.size) := by
    have : (w.alloc (.cells C 5)).heap[w.heap.size]? = some (.cells C 5) := by
      show (w.heap.push (.cells C 5))[w.heap.size]? = _
      simp
    unfold World.shape?
    rw [this]
  have hfr : (w.alloc (.cells C 5)).freeze ⟨w.heap.size, C.size, none⟩ 1 = w.alloc (.cells C 5 (C.size, C.size + 1)) := by
    have hm : ∀ (a : Array Obj) (x : Obj) (f : Obj → Obj), (a.push x).modify a.size f = a.push (f x) := by
      intro a x f
      apply Array.ext
      · simp
      · intro i h1 h2
        simp only [Array.getElem_modify, Array.getElem_push]
        by_cases h : a.size = i
        · subst h
          simp
        · have hi : i < a.size := by simp at h1; omega
          simp [h, hi]
    unfold World.freeze
    rw [if_neg (by decide)]
    show ({ w.alloc (.cells C 5) with heap := (w.heap.push (.cells C 5)).modify w.heap.size _ } : World) = _
    rw [hm]
    rfl
  simp [convert, run_underlying Tryz.underlying38, run_underlying Tryz.underlying5, markStringish, hsh]
  exact hfr
end Go.Proofs.YtkbnjniglngjgaaGreatDoor
