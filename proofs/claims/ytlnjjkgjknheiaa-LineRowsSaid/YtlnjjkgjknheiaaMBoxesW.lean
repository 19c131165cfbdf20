/-
  The boxes of a line's segments.
-/
import Derived.Test.YtlnjjkgjknheiaaMBoxes
import Derived.Test.YtlnjjkgjknheiaaHTail
namespace Go.Proofs.Ytlnjjkgjknheiaa
open Go.RowKit Go.Sort

/-- Two points of a line, one behind the other. -/
theorem Src.two {w : World} {b off n cap : Nat} {ps : List Pp} (h : Src w (.slice (some ⟨b, off, none⟩) n cap) ps) {i : Nat} (hi : i + 1 < ps.length) : Pts w (.slice (some ⟨b, off + i * 2, none⟩) 2 (cap - i)) [lpt ps i, lpt ps (i + 1)] := by
  rcases h with ⟨e, _⟩ | ⟨b', off', cap', e, hc1, hc⟩
  · cases e
  · injection e with e1 e2 e3
    injection e1 with e1
    injection e1 with e1 e4 _
    subst e1 e3 e4
    refine ⟨_, _, rfl, fun _ => ⟨b, off + i * 2, rfl, fun k p hk => ?_⟩⟩
    match k, hk with
    | 0, hk => simp at hk; subst hk; have := hc i (lpt ps i) (at_lpt (by omega)); simpa using this
    | 1, hk =>
      simp at hk
      subst hk
      have := hc (i + 1) (lpt ps (i + 1)) (at_lpt hi)
      rw [show off + i * 2 + 1 * 2 = off + (i + 1) * 2 by omega]
      exact this
    | k + 2, hk => simp at hk

set_option maxRecDepth 100000 in
set_option maxHeartbeats 6400000 in
theorem boxes_any (u : Value) (ps : List Pp) (w : World) (hs : Src w u ps) (h1 : 1 ≤ ps.length) (hl : ps.length ≤ 100000) :
    Calls Try.prog 12 #[u] w fun e w' => ∃ g, e = .returned (.slice (some ⟨g, 0, none⟩) (ps.length - 1) (ps.length - 1)) ∧ w.heap.size ≤ g ∧ BxR w' g (ps.length - 1) (ps.length - 1) ps ∧ Below w.heap.size w w' := by
  obtain ⟨b, off, cap, rfl, hcap⟩ : ∃ b off cap, u = .slice (some ⟨b, off, none⟩) ps.length cap ∧ ps.length ≤ cap := by
    rcases hs with ⟨_, e⟩ | ⟨b, off, cap, e, hc, _⟩
    · rw [e] at h1; simp at h1
    · exact ⟨b, off, cap, e, hc⟩
  have HS := hid hs
  obtain ⟨n, hn⟩ : ∃ n, ps.length = n := ⟨_, rfl⟩
  rw [hn] at HS hl hcap ⊢
  have HN := hid hn
  obtain ⟨N, hN⟩ : ∃ N, n - 1 = N := ⟨_, rfl⟩
  have HSG := hid (segments_any (some ⟨b, off, none⟩) n cap w hl)
  rw [hN] at HSG ⊢
  have hNn : N + 1 = n := by omega
  obtain ⟨C, hmkD⟩ := make_boxes N (by omega) ps
  have hmk := fun wx => (hmkD wx).1
  have HMD := hid (fun wx => (hmkD wx).2)
  clear hmkD hs h1 hn hN
  go_enter Try.func12, Try.ntmps12
  go_wp2_with (go_at_call 24; refine HSG.out.mono ?_; rintro e w1 ⟨rfl, hb1⟩; have HB := hid hb1; clear hb1 HSG)
  have HI := hid (HMD.out w1)
  obtain ⟨g, hg⟩ : ∃ g, w1.heap.size = g := ⟨_, rfl⟩
  obtain ⟨W3, hW3⟩ : ∃ W3, w1.alloc (.cells C 32) = W3 := ⟨_, rfl⟩
  have HB3 := hid (show Below w.heap.size w W3 by rw [← hW3]; exact HB.out.trans ((Below.refl _ w1).alloc HB.out.size _))
  have HG := hid (show w.heap.size ≤ g by rw [← hg]; exact HB.out.size)
  rw [hg, hW3] at HI
  rw [hg, hW3]
  clear HMD hmk hg hW3 HB
  go_loopw [4, 10] (fun _ iv wr => ∃ i : Nat, i ≤ N ∧ iv = .int .i64 (i : Int) ∧ BxR wr g N i ps ∧ Below w.heap.size w wr) (fun _ iv _ => N - (intOf iv).toNat)
  case atStart => exact ⟨0, Nat.zero_le _, rfl, HI.out, HB3.out⟩
  case round =>
    obtain ⟨i, hi, rfl, hR, hbr⟩ := hrel
    by_cases hlt : i < N
    · have hltI : (i : Int) < (N : Int) := by omega
      have HR := hid hR
      have HBR := hid hbr
      have hci : ¬ cap = i := by omega
      have hcI : (i : Int) + 2 ≤ (cap : Int) := by omega
      have cb := boxOf_any (.slice (some ⟨b, off + i * 2, none⟩) 2 (cap - i)) [lpt ps i, lpt ps (i + 1)] wr ((HS.out.below HBR.out).two (by have := HN.out; omega)) (by simp)
      obtain ⟨B, hB⟩ : ∃ B, boxL [lpt ps i, lpt ps (i + 1)] = B := ⟨_, rfl⟩
      rw [hB] at cb
      obtain ⟨x, y, z, t⟩ := B
      dsimp only at cb
      have HBX := hid hB
      have HCB := hid cb
      clear hR hbr hB cb
      go_wp2_with (go_at_call 10; refine HCB.out.mono ?_; rintro e W8 ⟨rfl, hb⟩; have HR8 := hid (HR.out.below hb HR.out.lt); have HB8 := hid (HBR.out.trans (hb.mono HBR.out.size)); obtain ⟨x', y', z', t', c0, c1, c2, c3, _⟩ := HR8.out.cells hlt; have f0 := HR8.out.frz (i * 4); have f1 := HR8.out.frz (i * 4 + 1); have f2 := HR8.out.frz (i * 4 + 2); have f3 := HR8.out.frz (i * 4 + 3); have HFIN := hid (And.intro (HR8.out.put hlt HBX.out.symm) ((((HB8.out.setCell (p := ⟨g, i * 4, none⟩) HG.out (.int .i64 x)).setCell (p := ⟨g, i * 4 + 1, none⟩) HG.out (.int .i64 y)).setCell (p := ⟨g, i * 4 + 2, none⟩) HG.out (.int .i64 z)).setCell (p := ⟨g, i * 4 + 3, none⟩) HG.out (.int .i64 t))); clear hb HCB)
      go_roundw
      case rel => exact ⟨i + 1, by omega, by go_num, HFIN.out⟩
      case measure => simp [intOf]; omega
    · have hltI : ¬ (i : Int) < (N : Int) := by omega
      obtain rfl : i = N := by omega
      have HFIN := hid (And.intro hR hbr)
      clear hR hbr
      go_wp2
      go_ret
      exact ⟨g, rfl, HG.out, HFIN.out.1, HFIN.out.2⟩
end Go.Proofs.Ytlnjjkgjknheiaa
