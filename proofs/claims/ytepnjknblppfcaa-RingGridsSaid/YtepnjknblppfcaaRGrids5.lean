/-
  RingGrids of five points: the walk.
-/
import Derived.Test.YtepnjknblppfcaaMI
namespace Go.Proofs.Ytepnjknblppfcaa
open Go.RowKit Go.Sort

set_option maxRecDepth 100000 in
set_option maxHeartbeats 8000000 in
theorem ringGrids5_core (w : World) (v x0 y0 x1 y1 x2 y2 x3 y3 x4 y4 A : Int) (f : Pp → Int) (OK : Bool)
    (e0 : bits .and .i64 v 7 = x0) (e1 : bits .and .i64 (v / 8) 7 = y0) (e2 : bits .and .i64 (v / 64) 7 = x1) (e3 : bits .and .i64 (v / 512) 7 = y1) (e4 : bits .and .i64 (v / 4096) 7 = x2) (e5 : bits .and .i64 (v / 32768) 7 = y2) (e6 : bits .and .i64 (v / 262144) 7 = x3) (e7 : bits .and .i64 (v / 2097152) 7 = y3) (e8 : bits .and .i64 (v / 16777216) 7 = x4) (e9 : bits .and .i64 (v / 134217728) 7 = y4)
    (HA : Hid (∀ W, Calls Try.prog 8 #[] W fun e w' => e = .returned (.bool true) ∧ Below W.heap.size W w'))
    (HI : Hid (∀ (i j : Nat), i < 8 → j < 8 → ∀ u W, Src W u [(x0, y0), (x1, y1), (x2, y2), (x3, y3), (x4, y4)] → Calls Try.prog 9 #[u, pv i j] W fun e w' => e = .returned (.int .i64 (f ((i : Int), (j : Int)))) ∧ Below W.heap.size W w'))
    (HR : Hid (∀ u W, Src W u [(x0, y0), (x1, y1), (x2, y2), (x3, y3), (x4, y4)] → Calls Try.prog 10 #[u] W fun e w' => e = .returned (.int .i64 A) ∧ Below W.heap.size W w'))
    (HK : Hid (∀ u W, Src W u [(x0, y0), (x1, y1), (x2, y2), (x3, y3), (x4, y4), (x0, y0)] → Calls Try.prog 17 #[u] W fun e w' => e = .returned (.bool OK) ∧ Below W.heap.size W w'))
    (H9 : Hid (∀ W, Calls Try.prog 18 #[pv x0 y0] W fun e w' => e = .returned (.bool true) ∧ Below W.heap.size W w'))
    (hA1 : -1000000 ≤ A) (hA2 : A ≤ 1000000)
    (HG : Hid (OK = true → max A (-A) = 2 * (cnt (fun m => f (gpt m) == 1) 64 : Int) + (cnt (fun m => f (gpt m) == 0) 64 : Int) - 2)) :
    Calls Try.prog 7 #[.int .i64 v, .bool true] w fun e w' => e = .returned (.bool true) ∧ Below w.heap.size w w' := by
  go_enter Try.func7, Try.ntmps7
  go_wp2
  go_loopw [6, 7] (fun u t wr => (t = .int .i64 0 ∧ (∃ ao cap, u = .slice ao 0 cap ∧ PtRow wr w.heap.size (.slice ao 0 cap) ([] : List Pp)) ∧ Below w.heap.size w wr) ∨ (t = .int .i64 1 ∧ (∃ ao cap, u = .slice ao 1 cap ∧ PtRow wr w.heap.size (.slice ao 1 cap) ([(x0, y0)] : List Pp)) ∧ Below w.heap.size w wr) ∨ (t = .int .i64 2 ∧ (∃ ao cap, u = .slice ao 2 cap ∧ PtRow wr w.heap.size (.slice ao 2 cap) ([(x0, y0), (x1, y1)] : List Pp)) ∧ Below w.heap.size w wr) ∨ (t = .int .i64 3 ∧ (∃ ao cap, u = .slice ao 3 cap ∧ PtRow wr w.heap.size (.slice ao 3 cap) ([(x0, y0), (x1, y1), (x2, y2)] : List Pp)) ∧ Below w.heap.size w wr) ∨ (t = .int .i64 4 ∧ (∃ ao cap, u = .slice ao 4 cap ∧ PtRow wr w.heap.size (.slice ao 4 cap) ([(x0, y0), (x1, y1), (x2, y2), (x3, y3)] : List Pp)) ∧ Below w.heap.size w wr) ∨ (t = .int .i64 5 ∧ (∃ ao cap, u = .slice ao 5 cap ∧ PtRow wr w.heap.size (.slice ao 5 cap) ([(x0, y0), (x1, y1), (x2, y2), (x3, y3), (x4, y4)] : List Pp)) ∧ Below w.heap.size w wr)) (fun _ t _ => 5 - (intOf t).toNat)
  case atStart => exact .inl ⟨rfl, ⟨none, 0, rfl, ⟨rfl, .inl ⟨rfl, rfl⟩⟩⟩, Below.refl _ _⟩
  case round =>
    rcases hrel with hk | hk | hk | hk | hk | hk
    · obtain ⟨rfl, ⟨ao, cap, rfl, hrow⟩, hbr⟩ := hk
      have HROW := hid hrow
      have HB := hid hbr
      clear hrow hbr
      obtain ⟨ao', cap', w', hrun, hrow', hbs⟩ := (HROW.out.below (Below.refl _ wr).drew).snoc HB.out.size (by simp) (x0, y0)
      have HRUN := hid hrun
      have HROW' := hid hrow'
      have HBS := hid (HB.out.drew.trans hbs)
      clear hrun hrow' hbs
      have q1 : IntKind.i64.wrap 0 = 0 := by decide
      have q2 : IntKind.i64.wrap 3 = 3 := by decide
      go_wp2
      go_region_law (first
        | (refine step_append_grid rfl (.tmp 19) (.tmp 32) 22 rfl rfl rfl HRUN.out ?_))
      go_wp2
      go_roundw
      case rel => exact .inr (.inl ⟨by go_num, ⟨ao', cap', rfl, HROW'.out⟩, HBS.out⟩)
      case measure => simp [intOf]
    · obtain ⟨rfl, ⟨ao, cap, rfl, hrow⟩, hbr⟩ := hk
      have HROW := hid hrow
      have HB := hid hbr
      clear hrow hbr
      obtain ⟨ao', cap', w', hrun, hrow', hbs⟩ := (HROW.out.below (Below.refl _ wr).drew).snoc HB.out.size (by simp) (x1, y1)
      have HRUN := hid hrun
      have HROW' := hid hrow'
      have HBS := hid (HB.out.drew.trans hbs)
      clear hrun hrow' hbs
      have q1 : IntKind.i64.wrap 6 = 6 := by decide
      have q2 : IntKind.i64.wrap 9 = 9 := by decide
      go_wp2
      go_region_law (first
        | (refine step_append_grid rfl (.tmp 19) (.tmp 32) 22 rfl rfl rfl HRUN.out ?_))
      go_wp2
      go_roundw
      case rel => exact .inr (.inr (.inl ⟨by go_num, ⟨ao', cap', rfl, HROW'.out⟩, HBS.out⟩))
      case measure => simp [intOf]
    · obtain ⟨rfl, ⟨ao, cap, rfl, hrow⟩, hbr⟩ := hk
      have HROW := hid hrow
      have HB := hid hbr
      clear hrow hbr
      obtain ⟨ao', cap', w', hrun, hrow', hbs⟩ := (HROW.out.below (Below.refl _ wr).drew).snoc HB.out.size (by simp) (x2, y2)
      have HRUN := hid hrun
      have HROW' := hid hrow'
      have HBS := hid (HB.out.drew.trans hbs)
      clear hrun hrow' hbs
      have q1 : IntKind.i64.wrap 12 = 12 := by decide
      have q2 : IntKind.i64.wrap 15 = 15 := by decide
      go_wp2
      go_region_law (first
        | (refine step_append_grid rfl (.tmp 19) (.tmp 32) 22 rfl rfl rfl HRUN.out ?_))
      go_wp2
      go_roundw
      case rel => exact .inr (.inr (.inr (.inl ⟨by go_num, ⟨ao', cap', rfl, HROW'.out⟩, HBS.out⟩)))
      case measure => simp [intOf]
    · obtain ⟨rfl, ⟨ao, cap, rfl, hrow⟩, hbr⟩ := hk
      have HROW := hid hrow
      have HB := hid hbr
      clear hrow hbr
      obtain ⟨ao', cap', w', hrun, hrow', hbs⟩ := (HROW.out.below (Below.refl _ wr).drew).snoc HB.out.size (by simp) (x3, y3)
      have HRUN := hid hrun
      have HROW' := hid hrow'
      have HBS := hid (HB.out.drew.trans hbs)
      clear hrun hrow' hbs
      have q1 : IntKind.i64.wrap 18 = 18 := by decide
      have q2 : IntKind.i64.wrap 21 = 21 := by decide
      go_wp2
      go_region_law (first
        | (refine step_append_grid rfl (.tmp 19) (.tmp 32) 22 rfl rfl rfl HRUN.out ?_))
      go_wp2
      go_roundw
      case rel => exact .inr (.inr (.inr (.inr (.inl ⟨by go_num, ⟨ao', cap', rfl, HROW'.out⟩, HBS.out⟩))))
      case measure => simp [intOf]
    · obtain ⟨rfl, ⟨ao, cap, rfl, hrow⟩, hbr⟩ := hk
      have HROW := hid hrow
      have HB := hid hbr
      clear hrow hbr
      obtain ⟨ao', cap', w', hrun, hrow', hbs⟩ := (HROW.out.below (Below.refl _ wr).drew).snoc HB.out.size (by simp) (x4, y4)
      have HRUN := hid hrun
      have HROW' := hid hrow'
      have HBS := hid (HB.out.drew.trans hbs)
      clear hrun hrow' hbs
      have q1 : IntKind.i64.wrap 24 = 24 := by decide
      have q2 : IntKind.i64.wrap 27 = 27 := by decide
      go_wp2
      go_region_law (first
        | (refine step_append_grid rfl (.tmp 19) (.tmp 32) 22 rfl rfl rfl HRUN.out ?_))
      go_wp2
      go_roundw
      case rel => exact .inr (.inr (.inr (.inr (.inr (⟨by go_num, ⟨ao', cap', rfl, HROW'.out⟩, HBS.out⟩)))))
      case measure => simp [intOf]
    · obtain ⟨rfl, ⟨ao, cap, rfl, hrow⟩, hbr⟩ := hk
      obtain ⟨W0, rfl⟩ : ∃ W0, W0 = wr := ⟨_, rfl⟩
      have HB := hid hbr
      obtain ⟨g, rfl, p0, p1⟩ := hrow.at (k := 0) (p := (x0, y0)) rfl
      have c0 : W0.cell? ⟨g, 0, none⟩ = some (.int .i64 x0) := by simpa using p0
      have c1 : W0.cell? ⟨g, 1, none⟩ = some (.int .i64 y0) := by simpa using p1
      have HS := hid (fun (W : World) (hW : Below W0.heap.size W0 W) => (show W.cell? ⟨g, 0, none⟩ = some (.int .i64 x0) ∧ W.cell? ⟨g, 1, none⟩ = some (.int .i64 y0) from ⟨cell_grid c0 hW, cell_grid c1 hW⟩))
      have HSL := hid (fun (W : World) (hW : Below W0.heap.size W0 W) => hrow.src.below hW)
      have HGD := hid (show Below W0.heap.size W0 W0.drew from (Below.refl _ W0).drew)
      clear hrow hbr p0 p1 c0 c1
      obtain ⟨TT, hTT⟩ : ∃ o : Obj, o = .cells #[.int .i64 x0, .int .i64 y0] 24 := ⟨_, rfl⟩
      have HT3 := hid (fun (W : World) => (show Src (W.alloc TT) (.slice (some ⟨W.heap.size, 0, none⟩) 1 1) [(x0, y0)] by rw [hTT]; exact Src.new W x0 y0))
      obtain ⟨wA1, hA1'⟩ : ∃ W, W0.drew.alloc (.cells #[] 24) = W := ⟨_, rfl⟩
      have bA1 : Below W0.heap.size W0 wA1 := by rw [← hA1']; exact HGD.out.alloc (Nat.le_refl _) _
      have pA1 : PtRow wA1 W0.heap.size (.slice (some ⟨W0.heap.size, 0, none⟩) 0 0) [] := by rw [← hA1']; exact PtRow.lit0 W0.drew
      obtain ⟨v1, W1, n1, p1, c1, g1⟩ := pA1.add (HSL.out wA1 bA1) bA1.size (by simp)
      have b1 : Below W0.heap.size W0 W1 := bA1.trans c1
      obtain ⟨wD1, hD1⟩ : ∃ W, W1.alloc TT = W := ⟨_, rfl⟩
      have d1 : Below W1.heap.size W1 wD1 := by rw [← hD1]; exact (Below.refl _ W1).alloc (Nat.le_refl _) _
      have bD1 : Below W0.heap.size W0 wD1 := b1.trans (d1.mono b1.size)
      obtain ⟨z1, Z1, n1', p1', c1', _⟩ := (p1.below d1).add (by rw [← hD1]; exact HT3.out W1) bD1.size (by simp)
      have bZ1 : Below W0.heap.size W0 Z1 := bD1.trans c1'
      obtain ⟨wD2, hD2⟩ : ∃ W, wA1.alloc TT = W := ⟨_, rfl⟩
      have d2 : Below wA1.heap.size wA1 wD2 := by rw [← hD2]; exact (Below.refl _ wA1).alloc (Nat.le_refl _) _
      have bD2 : Below W0.heap.size W0 wD2 := bA1.trans (d2.mono bA1.size)
      obtain ⟨v2, W2, n2, p2, c2, g2⟩ := (pA1.below d2).add (HSL.out wD2 bD2) bD2.size (by simp)
      have b2 : Below W0.heap.size W0 W2 := bD2.trans c2
      have sA1 : wA1.heap.size = W0.heap.size + 1 := by rw [← hA1']; simp
      obtain ⟨z2, Z2, n2', p2', c2', _⟩ := p2.add (Src.kept (by rw [← hD2]; exact HT3.out wA1) (g2.keep wA1.heap.size (by rw [← hD2]; simp) (fun e => by have e' : some W0.heap.size = some wA1.heap.size := e; injection e' with e'; omega))) b2.size (by simp)
      have bZ2 : Below W0.heap.size W0 Z2 := b2.trans c2'
      obtain ⟨wD3, hD3⟩ : ∃ W, W0.drew.alloc TT = W := ⟨_, rfl⟩
      have bD3 : Below W0.heap.size W0 wD3 := by rw [← hD3]; exact HGD.out.alloc (Nat.le_refl _) _
      have sD3 : wD3.heap.size = W0.heap.size + 1 := by rw [← hD3]; simp
      obtain ⟨wA3, hA3⟩ : ∃ W, wD3.alloc (.cells #[] 24) = W := ⟨_, rfl⟩
      have d3 : Below wD3.heap.size wD3 wA3 := by rw [← hA3]; exact (Below.refl _ wD3).alloc (Nat.le_refl _) _
      have bA3 : Below W0.heap.size W0 wA3 := bD3.trans (d3.mono bD3.size)
      have pA3 : PtRow wA3 W0.heap.size (.slice (some ⟨wD3.heap.size, 0, none⟩) 0 0) [] := by rw [← hA3]; exact (PtRow.lit0 wD3).base (by omega)
      obtain ⟨v3, W3, n3, p3, c3, g3⟩ := pA3.add (HSL.out wA3 bA3) bA3.size (by simp)
      have b3 : Below W0.heap.size W0 W3 := bA3.trans c3
      obtain ⟨z3, Z3, n3', p3', c3', _⟩ := p3.add (Src.kept (Src.below (show Src wD3 (.slice (some ⟨W0.heap.size, 0, none⟩) 1 1) [(x0, y0)] by rw [← hD3]; exact HT3.out W0.drew) d3) (g3.keep W0.heap.size (by have := d3.size; omega) (fun e => by have e' : some wD3.heap.size = some W0.heap.size := e; injection e' with e'; omega))) b3.size (by simp)
      have bZ3 : Below W0.heap.size W0 Z3 := b3.trans c3'
      have N1 := hid n1; have N1' := hid n1'; have N2 := hid n2; have N2' := hid n2'; have N3 := hid n3; have N3' := hid n3'
      have K1 := hid (HK.out z1 Z1 p1'.src); have K2 := hid (HK.out z2 Z2 p2'.src); have K3 := hid (HK.out z3 Z3 p3'.src)
      rw [hTT] at hD1 hD2 hD3
      clear n1 n1' n2 n2' n3 n3' p1 p1' p2 p2' p3 p3' c1 c1' c2 c2' c3 c3' g1 g2 g3 pA1 pA3 d1 d2 d3 HT3 hTT TT sA1 sD3
      go_upto_region 9 with fail
      go_cut [43] from 34 to 42 (fun t wx => ∃ b : Bool, b = (!OK) ∧ t = .bool b ∧ Below W0.heap.size W0 wx)
      case first =>
        go_region_held3 (fun W => W.cell? ⟨g, 0, none⟩ = some (.int .i64 x0) ∧ W.cell? ⟨g, 1, none⟩ = some (.int .i64 y0)) (first
          | with_reducible exact HS.out _ HGD.out | with_reducible exact HS.out _ bA1 | with_reducible exact HS.out _ b1 | with_reducible exact HS.out _ bD1 | with_reducible exact HS.out _ bZ1 | with_reducible exact HS.out _ bD2 | with_reducible exact HS.out _ b2 | with_reducible exact HS.out _ bZ2 | with_reducible exact HS.out _ bD3 | with_reducible exact HS.out _ bA3 | with_reducible exact HS.out _ b3 | with_reducible exact HS.out _ bZ3 | with_reducible exact HS.out _ b4) (first
          | ((with_reducible refine at_grid wA1 ?_); refine step_append_grid (w := wA1) rfl (.tmp 34) (.tmp 35) 22 rfl rfl rfl N1.out ?_)
          | ((with_reducible refine at_grid wD2 ?_); refine step_append_grid (w := wD2) rfl (.tmp 34) (.tmp 35) 22 rfl rfl rfl N2.out ?_)
          | ((with_reducible refine at_grid wA3 ?_); refine step_append_grid (w := wA3) rfl (.tmp 34) (.tmp 35) 22 rfl rfl rfl N3.out ?_)
          | ((with_reducible refine at_grid wD1 ?_); refine step_append_grid (w := wD1) rfl (.tmp 36) (.tmp 40) 22 rfl rfl rfl N1'.out ?_)
          | ((with_reducible refine at_grid W2 ?_); refine step_append_grid (w := W2) rfl (.tmp 36) (.tmp 40) 22 rfl rfl rfl N2'.out ?_)
          | ((with_reducible refine at_grid W3 ?_); refine step_append_grid (w := W3) rfl (.tmp 36) (.tmp 40) 22 rfl rfl rfl N3'.out ?_)
          | (go_at_call 17; (with_reducible refine K1.out.mono ?_); rintro e w4 ⟨rfl, hb4⟩; have b4 := bZ1.trans (hb4.mono bZ1.size); clear hb4)
          | (go_at_call 17; (with_reducible refine K2.out.mono ?_); rintro e w4 ⟨rfl, hb4⟩; have b4 := bZ2.trans (hb4.mono bZ2.size); clear hb4)
          | (go_at_call 17; (with_reducible refine K3.out.mono ?_); rintro e w4 ⟨rfl, hb4⟩; have b4 := bZ3.trans (hb4.mono bZ3.size); clear hb4))
        all_goals
          go_wp2
          go_meet
          case rel => exact ⟨_, rfl, rfl, b4⟩
      case rest =>
        obtain ⟨b, hbo, rfl, hbc⟩ := hcut
        have HBC := hid hbc
        clear hbc N1 N1' N2 N2' N3 N3' K1 K2 K3 hA1' hD1 hD2 hD3 hA3 bA1 b1 bD1 bZ1 bD2 b2 bZ2 bD3 bA3 b3 bZ3 HGD HK
        cases OK with
        | false =>
          obtain rfl : b = true := hbo
          clear HG
          go_wp2_with (go_at_call 8; refine (HA.out _).mono ?_; rintro e w5 ⟨rfl, hb5⟩; have HB5 := hid ((HB.out.trans (HBC.out.mono HB.out.size)).trans (hb5.mono (Nat.le_trans HB.out.size HBC.out.size))); clear hb5)
          go_ret
          exact ⟨rfl, HB5.out⟩
        | true =>
          obtain rfl : b = false := hbo
          replace HG := hid (HG.out rfl)
          go_wp2
          go_loopw [8, 9, 10, 11] (fun n e x _ wr => ∃ i : Nat, i ≤ 8 ∧ x = .int .i64 i ∧ n = .int .i64 (cnt (fun m => f (gpt m) == 1) (i * 8) : Nat) ∧ e = .int .i64 (cnt (fun m => f (gpt m) == 0) (i * 8) : Nat) ∧ Below W0.heap.size W0 wr) (fun _ _ x _ _ => 8 - (intOf x).toNat)
          case atStart => exact ⟨0, by omega, rfl, rfl, rfl, HBC.out⟩
          case round =>
            obtain ⟨i, hi, rfl, rfl, rfl, hbi⟩ := hrel
            have HBI := hid hbi
            clear hbi
            by_cases hlt : i < 8
            · have hiI : (i : Int) < 8 := by omega
              go_wp2
              go_loopw [8, 9, 11] (fun n e y wr => ∃ j : Nat, j ≤ 8 ∧ y = .int .i64 j ∧ n = .int .i64 (cnt (fun m => f (gpt m) == 1) (i * 8 + j) : Nat) ∧ e = .int .i64 (cnt (fun m => f (gpt m) == 0) (i * 8 + j) : Nat) ∧ Below W0.heap.size W0 wr) (fun _ _ y _ => 8 - (intOf y).toNat)
              case atStart => exact ⟨0, by omega, rfl, rfl, rfl, HBI.out⟩
              case round =>
                obtain ⟨j, hj, rfl, rfl, rfl, hbj⟩ := hrel
                have HBJ := hid hbj
                clear hbj
                by_cases hlt3 : j < 8
                · have hjI : (j : Int) < 8 := by omega
                  have hcb := cnt_le (fun m => f (gpt m) == 1) (i * 8 + j)
                  have hce := cnt_le (fun m => f (gpt m) == 0) (i * 8 + j)
                  have HCB := hid (show cnt (fun m => f (gpt m) == 1) (i * 8 + j + 1) = cnt (fun m => f (gpt m) == 1) (i * 8 + j) + (f ((i : Int), (j : Int)) == 1).toNat by rw [cnt_grid, gpt_grid hlt3])
                  have HCE := hid (show cnt (fun m => f (gpt m) == 0) (i * 8 + j + 1) = cnt (fun m => f (gpt m) == 0) (i * 8 + j) + (f ((i : Int), (j : Int)) == 0).toNat by rw [cnt_grid, gpt_grid hlt3])
                  have C1 := hid (fun W (hW : Below W0.heap.size W0 W) => HI.out i j hlt hlt3 _ W (HSL.out W hW))
                  generalize f ((i : Int), (j : Int)) = IN at *
                  generalize cnt (fun m => f (gpt m) == 1) (i * 8 + j) = cb at *
                  generalize cnt (fun m => f (gpt m) == 0) (i * 8 + j) = ce at *
                  by_cases g1 : IN = 1
                  · subst g1
                    go_wp2_with (go_at_call 9; refine (C1.out _ HBJ.out).mono ?_; rintro e w6 ⟨rfl, hb6⟩; replace HBJ := hid (HBJ.out.trans (hb6.mono HBJ.out.size)); clear hb6 C1)
                    go_roundw
                    case rel => exact ⟨j + 1, by omega, by go_num, by rw [show i * 8 + (j + 1) = i * 8 + j + 1 by omega, HCB.out]; go_num, by rw [show i * 8 + (j + 1) = i * 8 + j + 1 by omega, HCE.out]; rfl, HBJ.out⟩
                    case measure => simp [intOf]; omega
                  · by_cases g0 : IN = 0
                    · subst g0
                      go_wp2_with (go_at_call 9; refine (C1.out _ HBJ.out).mono ?_; rintro e w6 ⟨rfl, hb6⟩; replace HBJ := hid (HBJ.out.trans (hb6.mono HBJ.out.size)); clear hb6 C1)
                      go_roundw
                      case rel => exact ⟨j + 1, by omega, by go_num, by rw [show i * 8 + (j + 1) = i * 8 + j + 1 by omega, HCB.out]; rfl, by rw [show i * 8 + (j + 1) = i * 8 + j + 1 by omega, HCE.out]; go_num, HBJ.out⟩
                      case measure => simp [intOf]; omega
                    · have f1 : (IN == 1) = false := by simpa using g1
                      have f0 : (IN == 0) = false := by simpa using g0
                      rw [f1] at HCB
                      rw [f0] at HCE
                      go_wp2_with (go_at_call 9; refine (C1.out _ HBJ.out).mono ?_; rintro e w6 ⟨rfl, hb6⟩; replace HBJ := hid (HBJ.out.trans (hb6.mono HBJ.out.size)); clear hb6 C1)
                      go_roundw
                      case rel => exact ⟨j + 1, by omega, by go_num, by rw [show i * 8 + (j + 1) = i * 8 + j + 1 by omega, HCB.out]; rfl, by rw [show i * 8 + (j + 1) = i * 8 + j + 1 by omega, HCE.out]; rfl, HBJ.out⟩
                      case measure => simp [intOf]; omega
                · have hjI : ¬ (j : Int) < 8 := by omega
                  obtain rfl : j = 8 := by omega
                  go_wp2
                  go_roundw
                  case rel => exact ⟨i + 1, by omega, by go_num, by rw [show (i + 1) * 8 = i * 8 + 8 by omega], by rw [show (i + 1) * 8 = i * 8 + 8 by omega], HBJ.out⟩
                  case measure => simp [intOf]; omega
            · have hiI : ¬ (i : Int) < 8 := by omega
              obtain rfl : i = 8 := by omega
              rw [show 8 * 8 = 64 from rfl]
              have hcb := cnt_le (fun m => f (gpt m) == 1) 64
              have hce := cnt_le (fun m => f (gpt m) == 0) 64
              generalize cnt (fun m => f (gpt m) == 1) 64 = cb at *
              generalize cnt (fun m => f (gpt m) == 0) 64 = ce at *
              have C1 := hid (fun W (hW : Below W0.heap.size W0 W) => HR.out _ W (HSL.out W hW))
              have hw1 : IntKind.i64.wrap (2 * (cb : Int)) = 2 * (cb : Int) := by rw [IntKind.wrap_i64]; omega
              have hw2 : IntKind.i64.wrap (2 * (cb : Int) + (ce : Int)) = 2 * (cb : Int) + (ce : Int) := by rw [IntKind.wrap_i64]; omega
              have hw3 : IntKind.i64.wrap (2 * (cb : Int) + (ce : Int) - 2) = 2 * (cb : Int) + (ce : Int) - 2 := by rw [IntKind.wrap_i64]; omega
              have hw4 : IntKind.i64.wrap (-A) = -A := by rw [IntKind.wrap_i64]; omega
              rcases Int.lt_trichotomy A 0 with q | q | q
              · have q1 : A < -A := by omega
                have q2 : ¬ -A < A := by omega
                have q3 : -A = 2 * (cb : Int) + (ce : Int) - 2 := by have := HG.out; omega
                have q4 : (-A == 2 * (cb : Int) + (ce : Int) - 2) = true := by rw [q3]; simp
                have HQ := hid q3
                clear q3
                go_wp2_with (first
                  | (go_at_call 10; refine (C1.out _ HBI.out).mono ?_; rintro e w6 ⟨rfl, hb6⟩; replace HBI := hid (HBI.out.trans (hb6.mono HBI.out.size)); have s0 := (HS.out _ HBI.out).1; have s1 := (HS.out _ HBI.out).2; clear hb6 C1)
                  | (go_at_call 18; refine (H9.out _).mono ?_; rintro e w7 ⟨rfl, hb7⟩; replace HBI := hid (HBI.out.trans (hb7.mono HBI.out.size)); clear hb7 H9)
                  | (go_at_call 8; refine (HA.out _).mono ?_; rintro e w8 ⟨rfl, hb8⟩; replace HBI := hid (HBI.out.trans (hb8.mono HBI.out.size)); clear hb8))
                go_ret
                exact ⟨rfl, HB.out.trans (HBI.out.mono HB.out.size)⟩
              · subst q
                have q3 : (0 : Int) = 2 * (cb : Int) + (ce : Int) - 2 := by have := HG.out; omega
                have q4 : ((0 : Int) == 2 * (cb : Int) + (ce : Int) - 2) = true := by rw [← q3]; rfl
                clear q3
                go_wp2_with (first
                  | (go_at_call 10; refine (C1.out _ HBI.out).mono ?_; rintro e w6 ⟨rfl, hb6⟩; replace HBI := hid (HBI.out.trans (hb6.mono HBI.out.size)); have s0 := (HS.out _ HBI.out).1; have s1 := (HS.out _ HBI.out).2; clear hb6 C1)
                  | (go_at_call 18; refine (H9.out _).mono ?_; rintro e w7 ⟨rfl, hb7⟩; replace HBI := hid (HBI.out.trans (hb7.mono HBI.out.size)); clear hb7 H9)
                  | (go_at_call 8; refine (HA.out _).mono ?_; rintro e w8 ⟨rfl, hb8⟩; replace HBI := hid (HBI.out.trans (hb8.mono HBI.out.size)); clear hb8))
                go_ret
                exact ⟨rfl, HB.out.trans (HBI.out.mono HB.out.size)⟩
              · have q1 : ¬ A < -A := by omega
                have q2 : -A < A := by omega
                have q3 : A = 2 * (cb : Int) + (ce : Int) - 2 := by have := HG.out; omega
                have q4 : (A == 2 * (cb : Int) + (ce : Int) - 2) = true := by rw [q3]; simp
                have HQ := hid q3
                clear q3
                go_wp2_with (first
                  | (go_at_call 10; refine (C1.out _ HBI.out).mono ?_; rintro e w6 ⟨rfl, hb6⟩; replace HBI := hid (HBI.out.trans (hb6.mono HBI.out.size)); have s0 := (HS.out _ HBI.out).1; have s1 := (HS.out _ HBI.out).2; clear hb6 C1)
                  | (go_at_call 18; refine (H9.out _).mono ?_; rintro e w7 ⟨rfl, hb7⟩; replace HBI := hid (HBI.out.trans (hb7.mono HBI.out.size)); clear hb7 H9)
                  | (go_at_call 8; refine (HA.out _).mono ?_; rintro e w8 ⟨rfl, hb8⟩; replace HBI := hid (HBI.out.trans (hb8.mono HBI.out.size)); clear hb8))
                go_ret
                exact ⟨rfl, HB.out.trans (HBI.out.mono HB.out.size)⟩
end Go.Proofs.Ytepnjknblppfcaa
