/-
  Layer 13: RingBoxes.
-/
import Derived.Test.YtepnjknblppfcaaRMove
import Derived.Test.YtepnjknblppfcaaRBox
namespace Go.Proofs.Ytepnjknblppfcaa
open Go.RowKit Go.Sort

theorem and511_ring (n : Int) : bits .and .i64 n 511 = n % 512 := by
  have h31 : (BitVec.ofInt 64 511).toNat = 2 ^ 9 - 1 := by decide
  have key : (BitVec.ofInt 64 n &&& BitVec.ofInt 64 511).toNat = (n % ((2 ^ 64 : Nat) : Int)).toNat % 2 ^ 9 := by
    rw [BitVec.toNat_and, BitVec.toNat_ofInt, h31, Nat.and_two_pow_sub_one_eq_mod]
  show IntKind.i64.wrap ((BitVec.ofInt 64 n &&& BitVec.ofInt 64 511).toNat : Nat) = n % 512
  rw [key, IntKind.wrap_i64]
  omega
/-- A box, as a list of points. -/
def boxP (a b c d : Int) : List Pp := [(a, b), (c, b), (c, d), (a, d)]
def whereP (a b c d px py : Int) : Int := if a < px ∧ px < c ∧ b < py ∧ py < d then 1 else if px < a ∨ c < px ∨ py < b ∨ d < py then -1 else 0
theorem boxP_gl {a b c d : Int} (h : Sm 1000 (a, b)) (h' : Sm 1000 (c, d)) : Gl (boxP a b c d) := by
  intro p hp
  unfold boxP at hp
  unfold Sm at h h'
  dsimp only at h h'
  simp only [List.mem_cons, List.not_mem_nil, or_false] at hp
  rcases hp with rfl | rfl | rfl | rfl <;> exact clP_small (b := 1000) (by unfold Sm; dsimp only; omega) (by decide)
theorem boxP_q {a b c d : Int} (h : Sm 1000 (a, b)) (h' : Sm 1000 (c, d)) : ∀ i, i < 4 → ringQ (boxP a b c d) i = boxQ a b c d i := by
  intro i hi
  have hg := boxP_gl h h'
  unfold ringQ
  match i, hi with
  | 0, _ => exact hg (a, b) (by simp [boxP])
  | 1, _ => exact hg (c, b) (by simp [boxP])
  | 2, _ => exact hg (c, d) (by simp [boxP])
  | 3, _ => exact hg (a, d) (by simp [boxP])
theorem boxP_inside {a b c d px py : Int} (h : Sm 1000 (a, b)) (h' : Sm 1000 (c, d)) (hp : Sm 1000 (px, py)) (hac : a < c) (hbd : b < d) : insideL (boxP a b c d) (px, py) = whereP a b c d px py := by
  unfold insideL
  rw [show (boxP a b c d).length = 4 from rfl, insideQ_congr _ (boxP_q h h'), clP_small hp (by decide)]
  exact box_inside hac hbd px py
theorem boxP_area {w h : Int} (hw : 0 ≤ w ∧ w ≤ 1000) (hh : 0 ≤ h ∧ h ≤ 1000) : areaL (boxP 0 0 w h) = 2 * w * h := by
  unfold areaL
  rw [show (boxP 0 0 w h).length = 4 from rfl, areaQ_congr (boxP_q (by unfold Sm; dsimp only; omega) (by unfold Sm; dsimp only; omega)), box_area, Int.mul_assoc]
theorem where_in {a b c d px py : Int} (h : a < px ∧ px < c ∧ b < py ∧ py < d) : whereP a b c d px py = 1 := by unfold whereP; rw [if_pos h]
theorem where_out {a b c d px py : Int} (h : ¬ (a < px ∧ px < c ∧ b < py ∧ py < d)) (h' : px < a ∨ c < px ∨ py < b ∨ d < py) : whereP a b c d px py = -1 := by unfold whereP; rw [if_neg h, if_pos h']
theorem where_on {a b c d px py : Int} (h : ¬ (a < px ∧ px < c ∧ b < py ∧ py < d)) (h' : ¬ (px < a ∨ c < px ∨ py < b ∨ d < py)) : whereP a b c d px py = 0 := by unfold whereP; rw [if_neg h, if_neg h']
theorem holds_boxes {w h : Int} (hw : 3 ≤ w ∧ w ≤ 258) (hh : 3 ≤ h ∧ h ≤ 258) : holdsL (boxP 0 0 w h) (boxP 1 1 (w - 1) (h - 1)) = true ∧ holdsL (boxP 1 1 (w - 1) (h - 1)) (boxP 0 0 w h) = false ∧ holdsL (boxP 0 0 w h) (boxP 0 0 w h) = false := by
  have s0 : Sm 1000 (0, 0) := by unfold Sm; dsimp only; omega
  have s1 : Sm 1000 (w, h) := by unfold Sm; dsimp only; omega
  have s2 : Sm 1000 (1, 1) := by unfold Sm; dsimp only; omega
  have s3 : Sm 1000 (w - 1, h - 1) := by unfold Sm; dsimp only; omega
  have s4 : Sm 1000 (w - 1, 1) := by unfold Sm; dsimp only; omega
  have s5 : Sm 1000 (1, h - 1) := by unfold Sm; dsimp only; omega
  refine ⟨?_, ?_, ?_⟩
  · rw [holdsL_yes]
    · rfl
    · intro i hi
      match i, hi with
      | 0, _ => exact (boxP_inside s0 s1 s2 (by omega) (by omega)).trans (where_in (by omega))
      | 1, _ => exact (boxP_inside s0 s1 s4 (by omega) (by omega)).trans (where_in (by omega))
      | 2, _ => exact (boxP_inside s0 s1 s3 (by omega) (by omega)).trans (where_in (by omega))
      | 3, _ => exact (boxP_inside s0 s1 s5 (by omega) (by omega)).trans (where_in (by omega))
  · refine holdsL_no (k := 0) (show 0 < 4 by decide) ?_
    show insideL (boxP 1 1 (w - 1) (h - 1)) (0, 0) ≠ 1
    rw [boxP_inside s2 s3 s0 (by omega) (by omega), where_out (by omega) (by omega)]
    decide
  · refine holdsL_no (k := 0) (show 0 < 4 by decide) ?_
    show insideL (boxP 0 0 w h) (0, 0) ≠ 1
    rw [boxP_inside s0 s1 s0 (by omega) (by omega), where_on (by omega) (by omega)]
    decide


set_option maxHeartbeats 1600000 in
theorem boxFn_any (a b c d : Int) (w : World) :
    Calls Try.prog 14 #[.int .i64 a, .int .i64 b, .int .i64 c, .int .i64 d] w fun e w' => e = .returned (.slice (some ⟨w.heap.size, 0, none⟩) 4 4) ∧ w' = w.alloc (.cells #[.int .i64 a, .int .i64 b, .int .i64 c, .int .i64 b, .int .i64 c, .int .i64 d, .int .i64 a, .int .i64 d] 24) := by
  go_enter Try.func14, Try.ntmps14
  go_wp2
  go_ret
  exact ⟨rfl, rfl⟩

set_option maxHeartbeats 6400000 in
theorem whereFn_any (a b c d px py : Int) (B : Nat) (w : World) (hp : Pt w B px py) :
    Calls Try.prog 15 #[.int .i64 a, .int .i64 b, .int .i64 c, .int .i64 d, .pointer (some ⟨B, 0, none⟩)] w fun e w' => e = .returned (.int .i64 (whereP a b c d px py)) ∧ w' = w := by
  have q0 := hp.c0; have q1 := hp.c1
  have HI := hid (where_in (a := a) (b := b) (c := c) (d := d) (px := px) (py := py))
  have HO := hid (where_out (a := a) (b := b) (c := c) (d := d) (px := px) (py := py))
  have HN := hid (where_on (a := a) (b := b) (c := c) (d := d) (px := px) (py := py))
  generalize whereP a b c d px py = R at *
  clear hp
  by_cases h1 : a < px
  · have g1 : decide (a < px) = true := decide_eq_true h1
    have g5 : decide (px < a) = false := decide_eq_false (by omega)
    by_cases h2 : px < c
    · have g2 : decide (px < c) = true := decide_eq_true h2
      have g6 : decide (c < px) = false := decide_eq_false (by omega)
      by_cases h3 : b < py
      · have g3 : decide (b < py) = true := decide_eq_true h3
        have g7 : decide (py < b) = false := decide_eq_false (by omega)
        by_cases h4 : py < d
        · have g4 : decide (py < d) = true := decide_eq_true h4
          have HR := hid (HI.out ⟨h1, h2, h3, h4⟩)
          go_enter Try.func15, Try.ntmps15
          go_wp2
          go_ret
          exact ⟨by rw [HR.out]; rfl, rfl⟩
        · have g4 : decide (py < d) = false := decide_eq_false h4
          by_cases h8 : d < py
          · have g8 : decide (d < py) = true := decide_eq_true h8
            have HR := hid (HO.out (by omega) (by omega))
            go_enter Try.func15, Try.ntmps15
            go_wp2
            go_ret
            exact ⟨by rw [HR.out]; rfl, rfl⟩
          · have g8 : decide (d < py) = false := decide_eq_false h8
            have HR := hid (HN.out (by omega) (by omega))
            go_enter Try.func15, Try.ntmps15
            go_wp2
            go_ret
            exact ⟨by rw [HR.out]; rfl, rfl⟩
      · have g3 : decide (b < py) = false := decide_eq_false h3
        by_cases h7 : py < b
        · have g7 : decide (py < b) = true := decide_eq_true h7
          have HR := hid (HO.out (by omega) (by omega))
          go_enter Try.func15, Try.ntmps15
          go_wp2
          go_ret
          exact ⟨by rw [HR.out]; rfl, rfl⟩
        · have g7 : decide (py < b) = false := decide_eq_false h7
          by_cases h8 : d < py
          · have g8 : decide (d < py) = true := decide_eq_true h8
            have HR := hid (HO.out (by omega) (by omega))
            go_enter Try.func15, Try.ntmps15
            go_wp2
            go_ret
            exact ⟨by rw [HR.out]; rfl, rfl⟩
          · have g8 : decide (d < py) = false := decide_eq_false h8
            have HR := hid (HN.out (by omega) (by omega))
            go_enter Try.func15, Try.ntmps15
            go_wp2
            go_ret
            exact ⟨by rw [HR.out]; rfl, rfl⟩
    · have g2 : decide (px < c) = false := decide_eq_false h2
      by_cases h6 : c < px
      · have g6 : decide (c < px) = true := decide_eq_true h6
        have HR := hid (HO.out (by omega) (by omega))
        go_enter Try.func15, Try.ntmps15
        go_wp2
        go_ret
        exact ⟨by rw [HR.out]; rfl, rfl⟩
      · have g6 : decide (c < px) = false := decide_eq_false h6
        by_cases h7 : py < b
        · have g7 : decide (py < b) = true := decide_eq_true h7
          have HR := hid (HO.out (by omega) (by omega))
          go_enter Try.func15, Try.ntmps15
          go_wp2
          go_ret
          exact ⟨by rw [HR.out]; rfl, rfl⟩
        · have g7 : decide (py < b) = false := decide_eq_false h7
          by_cases h8 : d < py
          · have g8 : decide (d < py) = true := decide_eq_true h8
            have HR := hid (HO.out (by omega) (by omega))
            go_enter Try.func15, Try.ntmps15
            go_wp2
            go_ret
            exact ⟨by rw [HR.out]; rfl, rfl⟩
          · have g8 : decide (d < py) = false := decide_eq_false h8
            have HR := hid (HN.out (by omega) (by omega))
            go_enter Try.func15, Try.ntmps15
            go_wp2
            go_ret
            exact ⟨by rw [HR.out]; rfl, rfl⟩
  · have g1 : decide (a < px) = false := decide_eq_false h1
    by_cases h5 : px < a
    · have g5 : decide (px < a) = true := decide_eq_true h5
      have HR := hid (HO.out (by omega) (by omega))
      go_enter Try.func15, Try.ntmps15
      go_wp2
      go_ret
      exact ⟨by rw [HR.out]; rfl, rfl⟩
    · have g5 : decide (px < a) = false := decide_eq_false h5
      by_cases h6 : c < px
      · have g6 : decide (c < px) = true := decide_eq_true h6
        have HR := hid (HO.out (by omega) (by omega))
        go_enter Try.func15, Try.ntmps15
        go_wp2
        go_ret
        exact ⟨by rw [HR.out]; rfl, rfl⟩
      · have g6 : decide (c < px) = false := decide_eq_false h6
        by_cases h7 : py < b
        · have g7 : decide (py < b) = true := decide_eq_true h7
          have HR := hid (HO.out (by omega) (by omega))
          go_enter Try.func15, Try.ntmps15
          go_wp2
          go_ret
          exact ⟨by rw [HR.out]; rfl, rfl⟩
        · have g7 : decide (py < b) = false := decide_eq_false h7
          by_cases h8 : d < py
          · have g8 : decide (d < py) = true := decide_eq_true h8
            have HR := hid (HO.out (by omega) (by omega))
            go_enter Try.func15, Try.ntmps15
            go_wp2
            go_ret
            exact ⟨by rw [HR.out]; rfl, rfl⟩
          · have g8 : decide (d < py) = false := decide_eq_false h8
            have HR := hid (HN.out (by omega) (by omega))
            go_enter Try.func15, Try.ntmps15
            go_wp2
            go_ret
            exact ⟨by rw [HR.out]; rfl, rfl⟩

set_option maxRecDepth 100000 in
set_option maxHeartbeats 8000000 in
theorem ringBoxes_core (H : RingC) (w : World) (wv hv px py : Int) :
    Calls Try.prog 6 #[.int .i64 wv, .int .i64 hv, pv px py] w fun e w' => e = .returned (.bool true) ∧ Below w.heap.size w w' := by
  obtain ⟨c, hc, hc1⟩ : ∃ c : Int, bits .and .i64 wv 255 = c ∧ (0 ≤ c ∧ c ≤ 255) := ⟨_, rfl, by rw [and255_ring]; omega⟩
  obtain ⟨d, hd, hd1⟩ : ∃ d : Int, bits .and .i64 hv 255 = d ∧ (0 ≤ d ∧ d ≤ 255) := ⟨_, rfl, by rw [and255_ring]; omega⟩
  obtain ⟨PX, ePX, hPX⟩ : ∃ c : Int, bits .and .i64 px 511 = c ∧ (0 ≤ c ∧ c ≤ 511) := ⟨_, rfl, by rw [and511_ring]; omega⟩
  obtain ⟨PY, ePY, hPY⟩ : ∃ c : Int, bits .and .i64 py 511 = c ∧ (0 ≤ c ∧ c ≤ 511) := ⟨_, rfl, by rw [and511_ring]; omega⟩
  obtain ⟨W, hW⟩ : ∃ W, c + 3 = W := ⟨_, rfl⟩
  obtain ⟨G, hG⟩ : ∃ G, d + 3 = G := ⟨_, rfl⟩
  have hWb : 3 ≤ W ∧ W ≤ 258 := by omega
  have hGb : 3 ≤ G ∧ G ≤ 258 := by omega
  have s0 : Sm 1000 (0, 0) := by unfold Sm; dsimp only; omega
  have s1 : Sm 1000 (W, G) := by unfold Sm; dsimp only; omega
  have s2 : Sm 1000 (1, 1) := by unfold Sm; dsimp only; omega
  have s3 : Sm 1000 (W - 1, G - 1) := by unfold Sm; dsimp only; omega
  have sp : Sm 1000 (PX, PY) := by unfold Sm; dsimp only; omega
  obtain ⟨ho1, ho2, ho3⟩ := holds_boxes hWb hGb
  have F1 := hid (fun v W' h => H.inG v (boxP 0 0 W G) PX PY W' h (boxP_gl s0 s1) (clP_small sp (by decide)) (by show 4 ≤ 200; decide))
  have F3 := hid (fun v W' h => H.area v (boxP 0 0 W G) W' h (boxP_gl s0 s1) (by show 4 ≤ 200; decide))
  have F4 := hid (fun u v W' h h' => H.holds u v (boxP 0 0 W G) (boxP 1 1 (W - 1) (G - 1)) W' h h' (boxP_gl s0 s1) (boxP_gl s2 s3) (by show 4 ≤ 200; decide) (by show 4 ≤ 200; decide))
  have F5 := hid (fun u v W' h h' => H.holds u v (boxP 1 1 (W - 1) (G - 1)) (boxP 0 0 W G) W' h h' (boxP_gl s2 s3) (boxP_gl s0 s1) (by show 4 ≤ 200; decide) (by show 4 ≤ 200; decide))
  have F6 := hid (fun u v W' h h' => H.holds u v (boxP 0 0 W G) (boxP 0 0 W G) W' h h' (boxP_gl s0 s1) (boxP_gl s0 s1) (by show 4 ≤ 200; decide) (by show 4 ≤ 200; decide))
  rw [boxP_inside s0 s1 sp (by omega) (by omega)] at F1
  rw [boxP_area (by omega) (by omega)] at F3
  rw [ho1] at F4
  rw [ho2] at F5
  rw [ho3] at F6
  have F2 := hid (fun v W' h => H.inG v (boxP 1 1 (W - 1) (G - 1)) PX PY W' h (boxP_gl s2 s3) (clP_small sp (by decide)) (by show 4 ≤ 200; decide))
  rw [boxP_inside s2 s3 sp (by omega) (by omega)] at F2
  have B1 := hid (fun W' => boxFn_any 0 0 W G W')
  have B2 := hid (fun W' => boxFn_any 1 1 (W - 1) (G - 1) W')
  have F7 := hid (fun B W' h => whereFn_any 0 0 W G PX PY B W' h)
  have F8 := hid (fun B W' h => whereFn_any 1 1 (W - 1) (G - 1) PX PY B W' h)
  generalize whereP 0 0 W G PX PY = R1 at *
  generalize whereP 1 1 (W - 1) (G - 1) PX PY = R2 at *
  have hm := mul_bound (u := 2 * W) (v := G) (by omega) (by omega) (by omega) (by omega)
  obtain ⟨wA, hwA⟩ : ∃ wA, w.alloc (.cells #[.int .i64 px, .int .i64 py] 24) = wA := ⟨_, rfl⟩
  obtain ⟨hA, hBL, hszA⟩ := box1 hwA
  have p0 := hA.c0; have p1 := hA.c1; have p2 := hA.f0; have p3 := hA.f1
  obtain ⟨V1, hV1⟩ : ∃ V1, (wA.setCell ⟨w.heap.size, 0, none⟩ (.int .i64 PX)).setCell ⟨w.heap.size, 1, none⟩ (.int .i64 PY) = V1 := ⟨_, rfl⟩
  have hq : Pt V1 w.heap.size PX PY := by rw [← hV1]; exact hA.set _ _
  have hbw : Below w.heap.size w V1 := by rw [← hV1]; exact below_set2 hBL (Nat.le_refl _)
  have HPT := hid hq
  have HB := hid hbw
  clear hA hBL hq hbw s0 s1 s2 s3 sp ho1 ho2 ho3
  go_enter Try.func6, Try.ntmps6
  go_wp2_with (first
    | (go_at_call 14; refine (B1.out _).mono ?_; rintro e wB ⟨rfl, hwB⟩; have hb : Below V1.heap.size V1 wB := (by rw [hwB]; exact (Below.refl _ _).alloc (Nat.le_refl _) _); have HOUT := hid (show Src wB (.slice (some ⟨V1.heap.size, 0, none⟩) 4 4) (boxP 0 0 W G) by rw [hwB]; exact Src.new4 V1 0 0 W 0 W G 0 G); replace HPT := hid (HPT.out.below hb HPT.out.lt); replace HB := hid (HB.out.trans (hb.mono HB.out.size)); clear hb hwB B1)
    | (go_at_call 14; refine (B2.out _).mono ?_; rintro e wC ⟨rfl, hwC⟩; have hb : Below wB.heap.size wB wC := (by rw [hwC]; exact (Below.refl _ _).alloc (Nat.le_refl _) _); have HIN := hid (show Src wC (.slice (some ⟨wB.heap.size, 0, none⟩) 4 4) (boxP 1 1 (W - 1) (G - 1)) by rw [hwC]; exact Src.new4 wB 1 1 (W - 1) 1 (W - 1) (G - 1) 1 (G - 1)); replace HOUT := hid (HOUT.out.below hb); replace HPT := hid (HPT.out.below hb HPT.out.lt); replace HB := hid (HB.out.trans (hb.mono HB.out.size)); have cc0 := HPT.out.c0; have cc1 := HPT.out.c1; clear hb hwC B2)
    | (go_at_call 9; refine (F1.out _ _ HOUT.out).mono ?_; rintro e w1 ⟨rfl, hb1⟩; replace HPT := hid (HPT.out.below hb1 HPT.out.lt); replace HOUT := hid (HOUT.out.below hb1); replace HIN := hid (HIN.out.below hb1); replace HB := hid (HB.out.trans (hb1.mono HB.out.size)); have c10 := HPT.out.c0; have c11 := HPT.out.c1; clear hb1 F1)
    | (go_at_call 15; refine (F7.out _ _ HPT.out).mono ?_; rintro e w2 ⟨rfl, hw2⟩; have hw2' := hw2.symm; clear hw2; subst hw2'; clear F7)
    | (go_at_call 9; refine (F2.out _ _ HIN.out).mono ?_; rintro e w3 ⟨rfl, hb3⟩; replace HPT := hid (HPT.out.below hb3 HPT.out.lt); replace HOUT := hid (HOUT.out.below hb3); replace HIN := hid (HIN.out.below hb3); replace HB := hid (HB.out.trans (hb3.mono HB.out.size)); have c30 := HPT.out.c0; have c31 := HPT.out.c1; clear hb3 F2)
    | (go_at_call 15; refine (F8.out _ _ HPT.out).mono ?_; rintro e w4 ⟨rfl, hw4⟩; have hw4' := hw4.symm; clear hw4; subst hw4'; clear F8)
    | (go_at_call 10; refine (F3.out _ _ HOUT.out).mono ?_; rintro e w5 ⟨rfl, hb5⟩; replace HPT := hid (HPT.out.below hb5 HPT.out.lt); replace HOUT := hid (HOUT.out.below hb5); replace HIN := hid (HIN.out.below hb5); replace HB := hid (HB.out.trans (hb5.mono HB.out.size)); have c50 := HPT.out.c0; have c51 := HPT.out.c1; clear hb5 F3)
    | (go_at_call 16; refine (F4.out _ _ _ HOUT.out HIN.out).mono ?_; rintro e w6 ⟨rfl, hb6⟩; replace HPT := hid (HPT.out.below hb6 HPT.out.lt); replace HOUT := hid (HOUT.out.below hb6); replace HIN := hid (HIN.out.below hb6); replace HB := hid (HB.out.trans (hb6.mono HB.out.size)); have c60 := HPT.out.c0; have c61 := HPT.out.c1; clear hb6 F4)
    | (go_at_call 16; refine (F5.out _ _ _ HIN.out HOUT.out).mono ?_; rintro e w7 ⟨rfl, hb7⟩; replace HPT := hid (HPT.out.below hb7 HPT.out.lt); replace HOUT := hid (HOUT.out.below hb7); replace HIN := hid (HIN.out.below hb7); replace HB := hid (HB.out.trans (hb7.mono HB.out.size)); have c70 := HPT.out.c0; have c71 := HPT.out.c1; clear hb7 F5)
    | (go_at_call 16; refine (F6.out _ _ _ HOUT.out HOUT.out).mono ?_; rintro e w8 ⟨rfl, hb8⟩; replace HPT := hid (HPT.out.below hb8 HPT.out.lt); replace HOUT := hid (HOUT.out.below hb8); replace HIN := hid (HIN.out.below hb8); replace HB := hid (HB.out.trans (hb8.mono HB.out.size)); have c80 := HPT.out.c0; have c81 := HPT.out.c1; clear hb8 F6)
    | (go_at_call 8; refine (ringAwake_any H _).mono ?_; rintro e w9 ⟨rfl, hb9⟩; replace HB := hid (HB.out.trans (hb9.mono HB.out.size)); clear hb9))
  go_ret
  exact ⟨rfl, HB.out⟩

end Go.Proofs.Ytepnjknblppfcaa
