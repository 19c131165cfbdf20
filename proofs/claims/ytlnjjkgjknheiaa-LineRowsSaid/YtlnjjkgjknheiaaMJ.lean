/-
  slices.Grow of no points; slices.Concat of two slices of points.
-/
import Derived.Test.YtlnjjkgjknheiaaLSplit
import Derived.Lib.AppendZeros
namespace Go.Proofs.Ytlnjjkgjknheiaa
open Go.RowKit Go.Sort

/-- Room for n points, none of them there yet. -/
theorem PtRow.room (w : World) (n : Nat) (h0 : 0 < n) (hn : n ≤ 1000000) :
    ∃ g cap w', (Builtin.append_ #[25, 3] 25 #[.slice none 0 0, .int .i64 n]).run Try.prog w = .ok (.slice (some ⟨g, 0, none⟩) n cap) w' ∧ n ≤ cap ∧
      PtRow w' w.heap.size (.slice (some ⟨g, 0, none⟩) 0 cap) [] ∧ Below w.heap.size w w' := by
  obtain ⟨i0, hi, hz0, hz1, hz2⟩ := info_parts infoPt
  have hge := grownCap_ge w n 0 24
  refine ⟨w.heap.size, _, _, Lib.run_append_nil_zeros (P := Try.prog) w 25 3 25 24 i0 _ .i64 .i64 Try.underlying25 Try.underlying3 hi hz0 n h0 (by rw [hz1]; decide) (by omega) (by rw [hz2]; omega), hge, ⟨rfl, .inr ⟨w.heap.size, grownCap w n 0 24, Builtin.zeroCells (Value.agg #[.int .i64 0, .int .i64 0]).cells n ++ Builtin.zeroCells (Value.agg #[.int .i64 0, .int .i64 0]).cells (grownCap w n 0 24 - n), rfl, Nat.le_refl _, ?_, Nat.zero_le _, grownCap_le_maxLen _ _ _ _ (by unfold maxLen; omega), ?_, ?_⟩⟩, ?_⟩
  · show (w.heap.push _)[w.heap.size]? = some _
    exact Array.getElem?_push_size
  · rw [Array.size_append, size_zeroCells, size_zeroCells]
    show n * 2 + (grownCap w n 0 24 - n) * 2 = _
    omega
  · simp [ptCells]
  · exact ((Below.refl _ _).drew).alloc (Nat.le_refl _) _

set_option maxHeartbeats 1600000 in
theorem grow_any (n : Nat) (w : World) (hn : n ≤ 1000000) :
    Calls Try.prog 57 #[.slice none 0 0, .int .i64 n] w fun e w' => (∃ ao cap, e = .returned (.slice ao 0 cap) ∧ PtRow w' w.heap.size (.slice ao 0 cap) []) ∧ Below w.heap.size w w' := by
  by_cases h0 : 0 < n
  · obtain ⟨g, cap, w1, hrun, hcap, hrow, hb⟩ := PtRow.room w n h0 hn
    have HRUN := hid hrun
    have HROW := hid hrow
    have HB := hid hb
    have h0I : (0 : Int) < (n : Int) := by omega
    have h1I : ¬ (n : Int) < 0 := by omega
    clear hrun hrow hb
    go_enter Try.func57, Try.ntmps57
    go_wp2_with (at_builtin; refine Lib.wpList_append_run _ rfl (.tmp 20) (.tmp 21) 25 3 rfl _ _ rfl rfl _ _ HRUN.out ?_)
    go_ret
    exact ⟨⟨_, _, rfl, HROW.out⟩, HB.out⟩
  · obtain rfl : n = 0 := by omega
    go_enter Try.func57, Try.ntmps57
    go_wp2
    go_ret
    exact ⟨⟨_, _, rfl, PtRow.nil _ _⟩, Below.refl _ _⟩
end Go.Proofs.Ytlnjjkgjknheiaa

namespace Go.Proofs.Ytlnjjkgjknheiaa
open Go.RowKit Go.Sort

set_option maxHeartbeats 3200000 in
theorem concat_any (u v : Value) (ps qs : List Pp) (g : Nat) (w : World) (hu : Src w u ps) (hv : Src w v qs) (hh : w.heap[g]? = some (.cells #[u, v] 25)) (hl : ps.length ≤ 1000) (hm : qs.length ≤ 1000) :
    Calls Try.prog 41 #[.slice (some ⟨g, 0, none⟩) 2 2] w fun e w' => (∃ x, e = .returned x ∧ PtRow w' w.heap.size x (ps ++ qs)) ∧ Below w.heap.size w w' := by
  obtain ⟨ao, ca, e1, _⟩ := hu.pts
  obtain ⟨bo, cb, e2, _⟩ := hv.pts
  subst e1 e2
  obtain ⟨n, hn⟩ : ∃ n, ps.length = n := ⟨_, rfl⟩
  obtain ⟨m, hmm⟩ : ∃ m, qs.length = m := ⟨_, rfl⟩
  have HN := hid hn
  have HM := hid hmm
  rw [hn] at hl hu hh
  rw [hmm] at hm hv hh
  have HU := hid hu
  have HV := hid hv
  have hgl : g < w.heap.size := lt_of_heap hh
  have c0 : w.cell? ⟨g, 0, none⟩ = some (.slice ao n ca) := by simp [World.cell?, hh]
  have c1 : w.cell? ⟨g, 1, none⟩ = some (.slice bo m cb) := by simp [World.cell?, hh]
  have HG := hid (grow_any (n + m) w (by omega))
  have hnm : (((n + m : Nat)) : Int) = (n : Int) + (m : Int) := by omega
  rw [hnm] at HG
  clear hu hv hn hmm hh hnm
  go_enter Try.func41, Try.ntmps41
  go_wp2
  go_loopw [3, 11] (fun sv iv wr => wr = w ∧ ((iv = .int .i64 0 ∧ sv = .int .i64 0) ∨ (iv = .int .i64 1 ∧ sv = .int .i64 n) ∨ (iv = .int .i64 2 ∧ sv = .int .i64 ((n : Int) + (m : Int))))) (fun _ iv _ => 2 - (intOf iv).toNat)
  case atStart => exact ⟨rfl, .inl ⟨rfl, rfl⟩⟩
  case round =>
    obtain ⟨hwr, h⟩ := hrel
    have hwr' := hwr.symm
    clear hwr
    subst hwr'
    rcases h with ⟨rfl, rfl⟩ | ⟨rfl, rfl⟩ | ⟨rfl, rfl⟩
    · have h0 : ¬ (n : Int) < 0 := by omega
      go_wp2
      go_roundw
      case rel => exact ⟨trivial, .inr (.inl ⟨by go_num, by go_num⟩)⟩
      case measure => simp [intOf]
    · have h0 : ¬ (n : Int) + (m : Int) < 0 := by omega
      go_wp2
      go_roundw
      case rel => exact ⟨trivial, .inr (.inr ⟨by go_num, by go_num⟩)⟩
      case measure => simp [intOf]
    · go_wp2_with (go_at_call 57; refine HG.out.mono ?_; rintro e w1 ⟨⟨so, sc, rfl, hr1⟩, hb1⟩; have HR1 := hid hr1; have HB1 := hid hb1; clear hr1 hb1 HG)
      go_loopw [6, 27] (fun rv iv wx => ∃ (L : List Pp) (xo : Option Addr) (l xc : Nat), rv = .slice xo l xc ∧ PtRow wx w.heap.size (.slice xo l xc) L ∧ Below w.heap.size w wx ∧ ((iv = .int .i64 0 ∧ L = []) ∨ (iv = .int .i64 1 ∧ L = ps) ∨ (iv = .int .i64 2 ∧ L = ps ++ qs))) (fun _ iv _ => 2 - (intOf iv).toNat)
      case atStart => exact ⟨[], so, 0, sc, rfl, HR1.out, HB1.out, .inl ⟨rfl, rfl⟩⟩
      case round =>
        obtain ⟨L, xo, l, xc, rfl, hrow, hbx, h⟩ := hrel
        clear HR1 HB1
        have HROW := hid hrow
        have HBX := hid hbx
        rcases h with ⟨rfl, rfl⟩ | ⟨rfl, rfl⟩ | ⟨rfl, rfl⟩
        · have d0 := (hbx.cell (p := ⟨g, 0, none⟩) hgl).trans c0
          obtain ⟨v', w', hrun, hrow', hb', _⟩ := hrow.add (HU.out.below hbx) hbx.size (by rw [HN.out]; simp; omega)
          rw [List.nil_append] at hrow'
          obtain ⟨yo, yc, rfl⟩ := hrow'.form
          have HRUN := hid hrun
          have HROW' := hid hrow'
          have HB' := hid (hbx.trans hb')
          clear hrow hbx hrun hrow' hb' c0 c1
          go_wp2_with (at_builtin; refine wpList_append_run rfl (.tmp 31) (.tmp 32) 25 rfl rfl rfl HRUN.out ?_)
          go_roundw
          case rel => exact ⟨_, _, _, _, rfl, HROW'.out, HB'.out, .inr (.inl ⟨by go_num, rfl⟩)⟩
          case measure => simp [intOf]
        · have d1 := (hbx.cell (p := ⟨g, 1, none⟩) hgl).trans c1
          obtain ⟨v', w', hrun, hrow', hb', _⟩ := hrow.add (HV.out.below hbx) hbx.size (by rw [HN.out, HM.out]; omega)
          obtain ⟨yo, yc, rfl⟩ := hrow'.form
          have HRUN := hid hrun
          have HROW' := hid hrow'
          have HB' := hid (hbx.trans hb')
          clear hrow hbx hrun hrow' hb' c0 c1
          go_wp2_with (at_builtin; refine wpList_append_run rfl (.tmp 31) (.tmp 32) 25 rfl rfl rfl HRUN.out ?_)
          go_roundw
          case rel => exact ⟨_, _, _, _, rfl, by rw [← List.length_append]; exact HROW'.out, HB'.out, .inr (.inr ⟨by go_num, rfl⟩)⟩
          case measure => simp [intOf]
        · clear hrow hbx
          go_wp2
          go_ret
          exact ⟨⟨_, rfl, HROW.out⟩, HBX.out⟩
end Go.Proofs.Ytlnjjkgjknheiaa
