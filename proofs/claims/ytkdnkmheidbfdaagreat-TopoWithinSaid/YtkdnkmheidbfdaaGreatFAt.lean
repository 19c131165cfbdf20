/-
  Layer 15: the region in which a point lies; the region at a border's left.
-/
import Derived.Test.YtkdnkmheidbfdaaGreatFLeast
namespace Go.Proofs.YtkdnkmheidbfdaaGreat
open Go.RowKit Go.Sort

set_option maxRecDepth 100000 in
set_option maxHeartbeats 3200000 in
theorem surveyAt_any {w : World} {b off n cap : Nat} {ao : Option Addr} {os : List (Bd × List Pp)} (h : BrE w b off n ao os) (bo : Option Addr) (bl bc : Nat) (qx qy : Int) :
    Calls Tryz.prog 61 #[.agg #[.slice bo bl bc, .slice ao n cap], pv qx qy] w fun e w' => e = .returned (.int .i64 (leastF (fun _ => true) (qx, qy) os)) ∧ Below w.heap.size w w' := by
  obtain ⟨wA, hwA⟩ : ∃ wA, w.alloc (.cells #[.slice bo bl bc, .slice ao n cap] 101) = wA := ⟨_, rfl⟩
  have hbA : Below w.heap.size w wA := by rw [← hwA]; exact (Below.refl _ w).alloc (Nat.le_refl _) _
  have hhA : wA.heap[w.heap.size]? = some (.cells #[.slice bo bl bc, .slice ao n cap] 101 (0, 0)) := by rw [← hwA]; exact World.alloc_heap_new w _
  obtain ⟨wB, hwB⟩ : ∃ wB, wA.alloc (.cells #[.int .i64 qx, .int .i64 qy] 23) = wB := ⟨_, rfl⟩
  have hbB : Below wA.heap.size wA wB := by rw [← hwB]; exact (Below.refl _ wA).alloc (Nat.le_refl _) _
  have hhB : wB.heap[wA.heap.size]? = some (.cells #[.int .i64 qx, .int .i64 qy] 23 (0, 0)) := by rw [← hwB]; exact World.alloc_heap_new wA _
  have hh2 := (hbB.block _ (lt_of_heap hhA)).trans hhA
  have hb : Below w.heap.size w wB := hbA.trans (hbB.mono hbA.size)
  have s0 : wB.cell? ⟨w.heap.size, 0, none⟩ = some (.slice bo bl bc) := by simp [World.cell?, hh2]
  have s1 : wB.cell? ⟨w.heap.size, 1, none⟩ = some (.slice ao n cap) := by simp [World.cell?, hh2]
  have p0 : wB.cell? ⟨wA.heap.size, 0, none⟩ = some (.int .i64 qx) := by simp [World.cell?, hhB]
  have p1 : wB.cell? ⟨wA.heap.size, 1, none⟩ = some (.int .i64 qy) := by simp [World.cell?, hhB]
  have HL := hid (least_at (cap := cap) (h.below hb) (.slice bo bl bc) qx qy)
  have HB := hid hb
  clear h hbA hhA hbB hhB hh2 hb
  go_enter Tryz.func61, Tryz.ntmps61
  go_wp2_with (first
    | (go_at_call 95; refine HL.out.mono ?_; rintro e w1 ⟨rfl, hb1⟩; have H1 := hid (HB.out.trans (hb1.mono HB.out.size)); clear hb1 HL))
  go_ret
  exact ⟨rfl, H1.out⟩

/-- The number of the region at a border's left. -/
def regionF (x : Bd) (ps : List Pp) (os : List (Bd × List Pp)) : Int :=
  if 0 < x.ar then x.nr else match ps with
    | [] => 0
    | p :: _ => leastF (fun z => !(z.pt == x.pt)) p os

set_option maxRecDepth 100000 in
set_option maxHeartbeats 3200000 in
theorem region_any {w : World} {b off n cap : Nat} {ao : Option Addr} {os : List (Bd × List Pp)} (h : BrE w b off n ao os) (bo : Option Addr) (bl bc : Nat) (x : Bd) {ps : List Pp} (hs : Src w (.slice x.po x.pl x.pc) ps) :
    Calls Tryz.prog 63 #[.agg #[.slice bo bl bc, .slice ao n cap], bdV x] w fun e w' => e = .returned (.int .i64 (regionF x ps os)) ∧ Below w.heap.size w w' := by
  obtain ⟨wA, hwA⟩ : ∃ wA, w.alloc (.cells #[.slice bo bl bc, .slice ao n cap] 101) = wA := ⟨_, rfl⟩
  have hbA : Below w.heap.size w wA := by rw [← hwA]; exact (Below.refl _ w).alloc (Nat.le_refl _) _
  have hhA : wA.heap[w.heap.size]? = some (.cells #[.slice bo bl bc, .slice ao n cap] 101 (0, 0)) := by rw [← hwA]; exact World.alloc_heap_new w _
  obtain ⟨wB, hwB⟩ : ∃ wB, wA.alloc (bdO x) = wB := ⟨_, rfl⟩
  have hbB : Below wA.heap.size wA wB := by rw [← hwB]; exact (Below.refl _ wA).alloc (Nat.le_refl _) _
  have hhB : wB.heap[wA.heap.size]? = some (bdO x) := by rw [← hwB]; exact bd_new wA x
  have hh2 := (hbB.block _ (lt_of_heap hhA)).trans hhA
  have hb : Below w.heap.size w wB := hbA.trans (hbB.mono hbA.size)
  obtain ⟨y0, y1, y2, y3, y4, y5, y6, y7, y8⟩ := bd_cells hhB
  have HO := hid (outer_any x wB)
  have HB := hid (And.intro hb (And.intro hh2 (And.intro hhB (And.intro h hs))))
  unfold regionF
  clear h hs hbA hhA hbB hhB hh2 hb
  by_cases har : 0 < x.ar
  · rw [if_pos har]
    rw [show decide (0 < x.ar) = true by simpa using har] at HO
    clear har
    go_enter Tryz.func63, Tryz.ntmps63
    go_wp2_with (first
      | (go_at_call 64; refine HO.out.mono ?_; rintro e w1 ⟨rfl, hb1⟩; have hh1 := (hb1.block _ (lt_of_heap HB.out.2.2.1)).trans HB.out.2.2.1; clear y0 y1 y2 y3 y4 y5 y6 y7 y8; obtain ⟨y0, y1, y2, y3, y4, y5, y6, y7, y8⟩ := bd_cells hh1; have H1 := hid (HB.out.1.trans (hb1.mono HB.out.1.size)); clear hb1 hh1 HO))
    go_ret
    exact ⟨rfl, H1.out⟩
  · rw [if_neg har]
    rw [show decide (0 < x.ar) = false by simpa using har] at HO
    clear har
    cases hps : ps with
    | nil =>
      have HZ := hid (show x.pl = 0 by
        obtain ⟨ua, uc, hpo, _, _⟩ := Src.last HB.out.2.2.2.2
        injection hpo with _ hpl _
        rw [hpl, hps]
        rfl)
      clear hps
      go_enter Tryz.func63, Tryz.ntmps63
      go_wp2_with (first
        | (go_at_call 64; refine HO.out.mono ?_; rintro e w1 ⟨rfl, hb1⟩; have hh1 := (hb1.block _ (lt_of_heap HB.out.2.2.1)).trans HB.out.2.2.1; have hh0 := (hb1.block _ (lt_of_heap HB.out.2.1)).trans HB.out.2.1; clear y0 y1 y2 y3 y4 y5 y6 y7 y8; obtain ⟨y0, y1, y2, y3, y4, y5, y6, y7, y8⟩ := bd_cells hh1; have hzI := HZ.out; have H1 := hid (HB.out.1.trans (hb1.mono HB.out.1.size)); have HB1 := hid hb1; clear hb1 hh1 hh0 HO))
      go_ret
      exact ⟨rfl, H1.out⟩
    | cons p ps' =>
      obtain ⟨L, pb, pf, pc, hF, hL, hc0, hc1⟩ : ∃ (L : Nat) (pb pf pc : Nat), Value.slice x.po x.pl x.pc = .slice (some ⟨pb, pf, none⟩) L pc ∧ 1 ≤ L ∧ wB.cell? ⟨pb, pf, none⟩ = some (.int .i64 p.1) ∧ wB.cell? ⟨pb, pf + 1, none⟩ = some (.int .i64 p.2) := by
        rcases HB.out.2.2.2.2 with ⟨_, he⟩ | ⟨pb, pf, pc, hf, _, hc⟩
        · rw [he] at hps; cases hps
        · obtain ⟨c0, c1⟩ := hc 0 p (by rw [hps]; rfl)
          exact ⟨ps.length, pb, pf, pc, hf, by rw [hps]; exact Nat.succ_pos _, cell_below c0 HB.out.1 (lt_of_cell c0), cell_below c1 HB.out.1 (lt_of_cell c1)⟩
      have HF := hid (And.intro hF (And.intro hL (And.intro hc0 hc1)))
      have HL := hid (fun W (hW : Below wB.heap.size wB W) => least_rg (cap := cap) (HB.out.2.2.2.1.below (HB.out.1.trans (hW.mono HB.out.1.size))) (.slice bo bl bc) ((hW.block _ (lt_of_heap HB.out.2.2.1)).trans HB.out.2.2.1) p.1 p.2)
      obtain ⟨px, py⟩ := p
      dsimp only at HL HF
      obtain ⟨Z, hZ⟩ : ∃ Z, leastF (fun z => !(z.pt == x.pt)) (px, py) os = Z := ⟨_, rfl⟩
      rw [hZ] at HL
      dsimp only
      rw [hZ]
      clear hF hL hc0 hc1 hps hZ
      go_enter Tryz.func63, Tryz.ntmps63
      go_wp2_with (first
        | (go_at_call 64; refine HO.out.mono ?_; rintro e w1 ⟨rfl, hb1⟩; have hh1 := (hb1.block _ (lt_of_heap HB.out.2.2.1)).trans HB.out.2.2.1; have hh0 := (hb1.block _ (lt_of_heap HB.out.2.1)).trans HB.out.2.1; clear y0 y1 y2 y3 y4 y5 y6 y7 y8; obtain ⟨y0, y1, y2, y3, y4, y5, y6, y7, y8⟩ := bd_cells hh1; rw [HF.out.1] at y1; have hL1 := HF.out.2.1; have hLb : (((L : Nat) : Int) == 0) = false := (beq_eq_false_iff_ne.2 (by omega)); have s0 : w1.cell? ⟨w.heap.size, 0, none⟩ = some (.slice bo bl bc) := (by simp [World.cell?, hh0]); have s1 : w1.cell? ⟨w.heap.size, 1, none⟩ = some (.slice ao n cap) := (by simp [World.cell?, hh0]); have q0 := cell_below HF.out.2.2.1 hb1 (lt_of_cell HF.out.2.2.1); have q1 := cell_below HF.out.2.2.2 hb1 (lt_of_cell HF.out.2.2.2); have H1 := hid (HB.out.1.trans (hb1.mono HB.out.1.size)); have HB1 := hid hb1; clear hb1 hh1 hh0 HO))
      have k0 := cell_regrown s0
      have k1 := cell_regrown s1
      have k2 := cell_regrown y1
      have k3 := cell_regrown q0
      have k4 := cell_regrown q1
      have cq := fun d os => HL.out (grow (redrawn w1 d) os) (HB1.out.trans ((below_regrown w1 d os).mono HB1.out.size))
      refine wp_region_quiet_below (by kernel_rfl) (by kernel_rfl) ?_
      go_big_quiet_step (fail)
      go_big_quiet_step (fail)
      go_big_quiet_step (fail)
      go_big_quiet_step (fail)
      go_big_quiet_step (fail)
      go_big_quiet_step (fail)
      go_big_quiet_step (exact Calls.regrown_of (cq _ _))
      go_big_quiet_step (fail)
      refine wpQuiet_nil ?_
      intro W hW'
      obtain ⟨⟨dq, osq⟩, hW⟩ := hW'
      have HBW := hid (H1.out.trans ((show Below w1.heap.size w1 W by rw [hW]; exact below_regrown _ _ _).mono H1.out.size))
      clear hW k0 k1 k2 k3 k4 cq s0 s1 y0 y1 y2 y3 y4 y5 y6 y7 y8 q0 q1
      go_wp2
      go_ret
      exact ⟨rfl, HBW.out⟩
end Go.Proofs.YtkdnkmheidbfdaaGreat
