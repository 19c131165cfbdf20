/-
  Layer 12: the document's Apart.
-/
import Derived.Test.YtlnjjkgjknheiaaLLaw
import Derived.Test.YtlnjjkgjknheiaaMB
import Derived.Deep.CutRange
import Derived.Deep.RegionHeld
import Derived.Test.YtlnjjkgjknheiaaLSplit
namespace Go.Proofs.Ytlnjjkgjknheiaa
open Go.RowKit Go.Sort


set_option maxHeartbeats 1600000 in
theorem refEnd_any (v : Value) (ps : List Pp) (px py : Int) (w : World) (hp : Pts w v ps) (h1 : 1 ≤ ps.length) (hl : ps.length ≤ 100000) :
    Calls Try.prog 21 #[v, pv px py] w fun e w' => e = .returned (.bool (endL ps (px, py))) ∧ Below w.heap.size w w' := by
  have hp' := hp
  obtain ⟨a, cap, rfl, _⟩ := hp'
  obtain ⟨n, hn⟩ : ∃ n, ps.length = n := ⟨_, rfl⟩
  have HN := hid hn
  rw [hn] at hl hp h1 ⊢
  obtain ⟨wP, hwP⟩ : ∃ wP, w.alloc (.cells #[.int .i64 px, .int .i64 py] 24) = wP := ⟨_, rfl⟩
  obtain ⟨hPp, hBP, hszP⟩ := box1 hwP
  have a0 := cell_regrown hPp.c0; have a1 := cell_regrown hPp.c1
  have HBP := hid hBP
  obtain ⟨b, off, rfl, hc⟩ := (hp.below hBP).row (by omega)
  obtain ⟨z0, z1⟩ := hc 0 (by omega)
  obtain ⟨x0, x1⟩ := hc (n - 1) (by omega)
  have HE : Hid (endL ps (px, py) = (eqp (lpt ps 0) (px, py) || eqp (lpt ps (n - 1)) (px, py))) := hid (by unfold endL; rw [HN.out])
  generalize lpt ps 0 = P at *
  generalize lpt ps (n - 1) = Q at *
  obtain ⟨fx, fy⟩ := P
  obtain ⟨lx, ly⟩ := Q
  rw [show (0 : Nat) * 2 = 0 from rfl, Nat.add_zero] at z0 z1
  obtain ⟨m, rfl⟩ : ∃ m, n = m + 1 := ⟨n - 1, by omega⟩
  rw [Nat.add_sub_cancel] at x0 x1
  have hm : ((m : Int) + 1 - 1) = (m : Int) := by omega
  dsimp only at z0 z1 x0 x1
  have y0 := cell_regrown z0; have y1 := cell_regrown z1; have u0 := cell_regrown x0; have u1 := cell_regrown x1
  replace HE : Hid (endL ps (px, py) = ((fx == px && fy == py) || (lx == px && ly == py))) := HE
  clear z0 z1 x0 x1 hc hp hn hPp hBP
  cases f : (fx == px && fy == py) with
  | true =>
    have rf := fun x y => ite2_yes f (α := Result Next) x y
    have sf := fun x y => ite2_yes f (α := Prop) x y
    have HF := hid f
    go_enter Try.func21, Try.ntmps21
    go_wp2
    refine wp_region_quiet_below (by kernel_rfl) (by kernel_rfl) ?_
    go_big_quiet_step (fail)
    go_big_quiet_step (fail)
    go_big_quiet_step (fail)
    go_big_quiet_step (fail)
    go_big_quiet_step (fail)
    go_big_quiet_step (fail)
    go_big_quiet_step (fail)
    go_big_quiet_step (fail)
    go_big_quiet_step (fail)
    go_big_quiet_step (fail)
    go_big_quiet_step (fail)
    go_big_quiet_step (fail)
    go_big_quiet_step (fail)
    go_big_quiet_step (fail)
    go_big_quiet_step (fail)
    go_big_quiet_step (fail)
    refine wpQuiet_nil ?_
    intro W2 hW'
    obtain ⟨⟨dq, osq⟩, hW⟩ := hW'
    have HW2 := hid (show Below wP.heap.size wP W2 by rw [hW]; exact below_regrown _ _ _)
    clear hW
    go_wp2
    go_ret
    exact ⟨by rw [HE.out, HF.out]; rfl, HBP.out.trans (HW2.out.mono HBP.out.size)⟩
  | false =>
    cases g : (lx == px && ly == py) with
    | true =>
      have rf := fun x y => ite2_no f (α := Result Next) x y
      have sf := fun x y => ite2_no f (α := Prop) x y
      have rg := fun x y => ite2_yes g (α := Result Next) x y
      have sg := fun x y => ite2_yes g (α := Prop) x y
      have HF := hid f
      have HG := hid g
      go_enter Try.func21, Try.ntmps21
      go_wp2
      refine wp_region_quiet_below (by kernel_rfl) (by kernel_rfl) ?_
      go_big_quiet_step (fail)
      go_big_quiet_step (fail)
      go_big_quiet_step (fail)
      go_big_quiet_step (fail)
      go_big_quiet_step (fail)
      go_big_quiet_step (fail)
      go_big_quiet_step (fail)
      go_big_quiet_step (fail)
      go_big_quiet_step (fail)
      go_big_quiet_step (fail)
      go_big_quiet_step (fail)
      go_big_quiet_step (fail)
      go_big_quiet_step (fail)
      go_big_quiet_step (fail)
      go_big_quiet_step (fail)
      go_big_quiet_step (fail)
      refine wpQuiet_nil ?_
      intro W2 hW'
      obtain ⟨⟨dq, osq⟩, hW⟩ := hW'
      have HW2 := hid (show Below wP.heap.size wP W2 by rw [hW]; exact below_regrown _ _ _)
      clear hW
      go_wp2
      go_ret
      exact ⟨by rw [HE.out, HF.out, HG.out]; rfl, HBP.out.trans (HW2.out.mono HBP.out.size)⟩
    | false =>
      have rf := fun x y => ite2_no f (α := Result Next) x y
      have sf := fun x y => ite2_no f (α := Prop) x y
      have rg := fun x y => ite2_no g (α := Result Next) x y
      have sg := fun x y => ite2_no g (α := Prop) x y
      have HF := hid f
      have HG := hid g
      go_enter Try.func21, Try.ntmps21
      go_wp2
      refine wp_region_quiet_below (by kernel_rfl) (by kernel_rfl) ?_
      go_big_quiet_step (fail)
      go_big_quiet_step (fail)
      go_big_quiet_step (fail)
      go_big_quiet_step (fail)
      go_big_quiet_step (fail)
      go_big_quiet_step (fail)
      go_big_quiet_step (fail)
      go_big_quiet_step (fail)
      go_big_quiet_step (fail)
      go_big_quiet_step (fail)
      go_big_quiet_step (fail)
      go_big_quiet_step (fail)
      go_big_quiet_step (fail)
      go_big_quiet_step (fail)
      go_big_quiet_step (fail)
      go_big_quiet_step (fail)
      refine wpQuiet_nil ?_
      intro W2 hW'
      obtain ⟨⟨dq, osq⟩, hW⟩ := hW'
      have HW2 := hid (show Below wP.heap.size wP W2 by rw [hW]; exact below_regrown _ _ _)
      clear hW
      go_wp2
      go_ret
      exact ⟨by rw [HE.out, HF.out, HG.out]; rfl, HBP.out.trans (HW2.out.mono HBP.out.size)⟩


theorem apartL_true {a b : List Pp} (h : ∀ i, i < a.length - 1 → ∀ k, k < b.length - 1 → meetL a b i k = true) : apartL a b = true := by
  unfold apartL
  rw [List.all_eq_true]
  intro i hi
  rw [List.all_eq_true]
  intro k hk
  exact h i (List.mem_range.1 hi) k (List.mem_range.1 hk)
theorem apartL_at {a b : List Pp} (h : apartL a b = true) {i k : Nat} (hi : i < a.length - 1) (hk : k < b.length - 1) : meetL a b i k = true := by
  unfold apartL at h
  rw [List.all_eq_true] at h
  have h1 := h i (List.mem_range.2 hi)
  rw [List.all_eq_true] at h1
  exact h1 k (List.mem_range.2 hk)
theorem apartL_no {a b : List Pp} {i k : Nat} (hi : i < a.length - 1) (hk : k < b.length - 1) (h : meetL a b i k = false) : apartL a b = false := by
  cases hs : apartL a b with
  | false => rfl
  | true => rw [apartL_at hs hi hk] at h; cases h
theorem cell_in {w w' : World} {b i : Nat} {v : Value} (h : w.cell? ⟨b, i, none⟩ = some v) (hb : Below w.heap.size w w') : w'.cell? ⟨b, i, none⟩ = some v :=
  (hb.cell (p := ⟨b, i, none⟩) (World.block_lt_of_cell? w _ h)).trans h


set_option maxRecDepth 100000 in
set_option maxHeartbeats 8000000 in
theorem refApart_any (u v : Value) (ps qs : List Pp) (w : World) (hp : Pts w u ps) (hq : Pts w v qs) (hlp : ps.length ≤ 100000) (hlq : qs.length ≤ 100000) :
    Calls Try.prog 8 #[u, v] w fun e w' => e = .returned (.bool (apartL ps qs)) ∧ Below w.heap.size w w' := by
  obtain ⟨ao, ca, e1, _⟩ := id hp
  obtain ⟨bo, cb, e2, _⟩ := id hq
  subst e1 e2
  obtain ⟨n, hn⟩ : ∃ n, ps.length = n := ⟨_, rfl⟩
  obtain ⟨m, hm⟩ : ∃ m, qs.length = m := ⟨_, rfl⟩
  have HN := hid hn
  have HM := hid hm
  rw [hn] at hp hlp ⊢
  rw [hm] at hq hlq ⊢
  have HP := hid hp
  have HQ := hid hq
  clear hp hq hn hm
  go_enter Try.func8, Try.ntmps8
  go_wp2
  go_loopw [5] (fun iv wr => ∃ i : Nat, i ≤ n ∧ iv = .int .i64 i ∧ (∀ t, t < i → t < n - 1 → ∀ k, k < m - 1 → meetL ps qs t k = true) ∧ Below w.heap.size w wr) (fun iv _ => n - (intOf iv).toNat)
  case atStart => exact ⟨0, by omega, rfl, (fun i hi => absurd hi (Nat.not_lt_zero i)), Below.refl _ _⟩
  case round =>
    obtain ⟨j, hj, rfl, hpr, hbr⟩ := hrel
    have HPR := hid hpr
    have HB := hid hbr
    clear hpr hbr
    by_cases hjl : j + 1 < n
    · have hjI : (j : Int) + 1 < (n : Int) := by omega
      have hjJ : (j : Int) < (n : Int) := by omega
      go_wp2
      go_loopw [6] (fun kv wy => ∃ k : Nat, k ≤ m ∧ kv = .int .i64 k ∧ (∀ t, t < k → t < m - 1 → meetL ps qs j t = true) ∧ Below w.heap.size w wy) (fun kv _ => m - (intOf kv).toNat)
      case atStart => exact ⟨0, by omega, rfl, (fun i hi => absurd hi (Nat.not_lt_zero i)), HB.out⟩
      case round =>
        clear HB
        obtain ⟨k, hk, rfl, hpk, hby⟩ := hrel
        have HPK := hid hpk
        have HB := hid hby
        by_cases hkl : k + 1 < m
        · have hkI : (k : Int) + 1 < (m : Int) := by omega
          have hkJ : (k : Int) < (m : Int) := by omega
          have hp2 := HP.out.below hby
          have hq2 := HQ.out.below hby
          obtain ⟨b1, o1, rfl, hc⟩ := hp2.row (by rw [HN.out]; omega)
          obtain ⟨b2, o2, rfl, hd⟩ := hq2.row (by rw [HM.out]; omega)
          obtain ⟨z0, x0⟩ := hc j (by rw [HN.out]; omega)
          obtain ⟨z1, x1⟩ := hc (j + 1) (by rw [HN.out]; omega)
          obtain ⟨z2, x2⟩ := hd k (by rw [HM.out]; omega)
          obtain ⟨z3, x3⟩ := hd (k + 1) (by rw [HM.out]; omega)
          have F1 := hid (fun W => refRelate_any (lpt ps j).1 (lpt ps j).2 (lpt ps (j + 1)).1 (lpt ps (j + 1)).2 (lpt qs k).1 (lpt qs k).2 (lpt qs (k + 1)).1 (lpt qs (k + 1)).2 W)
          have F2 := hid (fun W => refShared_any (lpt ps j).1 (lpt ps j).2 (lpt ps (j + 1)).1 (lpt ps (j + 1)).2 (lpt qs k).1 (lpt qs k).2 (lpt qs (k + 1)).1 (lpt qs (k + 1)).2 W)
          have F3 := hid (fun (sx sy : Int) W h => refEnd_any (.slice (some ⟨b1, o1, none⟩) n ca) ps sx sy W h (by rw [HN.out]; omega) (by rw [HN.out]; omega))
          have F4 := hid (fun (sx sy : Int) W h => refEnd_any (.slice (some ⟨b2, o2, none⟩) m cb) qs sx sy W h (by rw [HM.out]; omega) (by rw [HM.out]; omega))
          have HMT : Hid (meetL ps qs j k = (sgR ps qs j k == 0 || (sgR ps qs j k == 1 && endL ps (shdL ps qs j k) && endL qs (shdL ps qs j k)))) := hid rfl
          have HSG : Hid (sgR ps qs j k = relP (near (lpt ps j).1, near (lpt ps j).2) (near (lpt ps (j + 1)).1, near (lpt ps (j + 1)).2) (near (lpt qs k).1, near (lpt qs k).2) (near (lpt qs (k + 1)).1, near (lpt qs (k + 1)).2)) := hid rfl
          have HSH : Hid (shdL ps qs j k = (shdP (near (lpt ps j).1, near (lpt ps j).2) (near (lpt ps (j + 1)).1, near (lpt ps (j + 1)).2) (near (lpt qs k).1, near (lpt qs k).2) (near (lpt qs (k + 1)).1, near (lpt qs (k + 1)).2)).1) := hid rfl
          generalize shdP (near (lpt ps j).1, near (lpt ps j).2) (near (lpt ps (j + 1)).1, near (lpt ps (j + 1)).2) (near (lpt qs k).1, near (lpt qs k).2) (near (lpt qs (k + 1)).1, near (lpt qs (k + 1)).2) = SH at *
          generalize relP (near (lpt ps j).1, near (lpt ps j).2) (near (lpt ps (j + 1)).1, near (lpt ps (j + 1)).2) (near (lpt qs k).1, near (lpt qs k).2) (near (lpt qs (k + 1)).1, near (lpt qs (k + 1)).2) = RL at *
          obtain ⟨⟨SX, SY⟩, SB⟩ := SH
          dsimp only at F2 HSH
          rw [HSG.out, HSH.out] at HMT
          generalize (lpt ps j).1 = X0 at *
          generalize (lpt ps j).2 = Y0 at *
          generalize (lpt ps (j + 1)).1 = X1 at *
          generalize (lpt ps (j + 1)).2 = Y1 at *
          generalize (lpt qs k).1 = X2 at *
          generalize (lpt qs k).2 = Y2 at *
          generalize (lpt qs (k + 1)).1 = X3 at *
          generalize (lpt qs (k + 1)).2 = Y3 at *
          have c1 := fun d os => F1.out (grow (redrawn wr d) os)
          have y0 := cell_regrown (cell_in z0 (Below.refl _ _)); have u0 := cell_regrown (cell_in x0 (Below.refl _ _))
          have y1 := cell_regrown (cell_in z1 (Below.refl _ _)); have u1 := cell_regrown (cell_in x1 (Below.refl _ _))
          have y2 := cell_regrown (cell_in z2 (Below.refl _ _)); have u2 := cell_regrown (cell_in x2 (Below.refl _ _))
          have y3 := cell_regrown (cell_in z3 (Below.refl _ _)); have u3 := cell_regrown (cell_in x3 (Below.refl _ _))
          clear hc hd hby hpk hp2 hq2
          by_cases hr0 : RL = 0
          · subst hr0
            go_wp2
            refine wp_region_quiet_below (by kernel_rfl) (by kernel_rfl) ?_
            go_big_quiet_step (fail)
            go_big_quiet_step (fail)
            go_big_quiet_step (fail)
            go_big_quiet_step (fail)
            go_big_quiet_step (fail)
            go_big_quiet_step (fail)
            go_big_quiet_step (fail)
            go_big_quiet_step (fail)
            go_big_quiet_step (fail)
            go_big_quiet_step (fail)
            go_big_quiet_step (fail)
            go_big_quiet_step (fail)
            go_big_quiet_step (fail)
            go_big_quiet_step (fail)
            go_big_quiet_step (fail)
            go_big_quiet_step (fail)
            go_big_quiet_step (fail)
            go_big_quiet_step (fail)
            go_big_quiet_step (exact Calls.regrown_of (c1 _ _))
            refine wpQuiet_nil ?_
            intro W1 hW'
            obtain ⟨⟨dq, osq⟩, hW⟩ := hW'
            have HW1 := hid (show Below wr.heap.size wr W1 by rw [hW]; exact below_regrown _ _ _)
            clear hW
            clear y0 y1 y2 y3 u0 u1 u2 u3 c1
            replace HB := hid (HB.out.trans (HW1.out.mono HB.out.size))
            have HB1 := HB
            go_wp2
            go_roundw
            case rel =>
              refine ⟨k + 1, by omega, by go_num, fun t h1 h2 => ?_, HB.out⟩
              by_cases htk : t = k
              · rw [htk, HMT.out]; rfl
              · exact HPK.out t (by omega) h2
            case measure => simp [intOf]; omega
          · have g0 : (RL == 0) = false := by simpa using hr0
            by_cases hr1 : RL = 1
            · subst hr1
              go_wp2
              refine wp_region_quiet_below (by kernel_rfl) (by kernel_rfl) ?_
              go_big_quiet_step (fail)
              go_big_quiet_step (fail)
              go_big_quiet_step (fail)
              go_big_quiet_step (fail)
              go_big_quiet_step (fail)
              go_big_quiet_step (fail)
              go_big_quiet_step (fail)
              go_big_quiet_step (fail)
              go_big_quiet_step (fail)
              go_big_quiet_step (fail)
              go_big_quiet_step (fail)
              go_big_quiet_step (fail)
              go_big_quiet_step (fail)
              go_big_quiet_step (fail)
              go_big_quiet_step (fail)
              go_big_quiet_step (fail)
              go_big_quiet_step (fail)
              go_big_quiet_step (fail)
              go_big_quiet_step (exact Calls.regrown_of (c1 _ _))
              refine wpQuiet_nil ?_
              intro W1 hW'
              obtain ⟨⟨dq, osq⟩, hW⟩ := hW'
              have HW1 := hid (show Below wr.heap.size wr W1 by rw [hW]; exact below_regrown _ _ _)
              clear hW
              clear y0 y1 y2 y3 u0 u1 u2 u3 c1
              replace HB := hid (HB.out.trans (HW1.out.mono HB.out.size))
              have HB1 := HB
              go_wp2
              have HS1 := hid (show ∀ W, Below wr.heap.size wr W → (fun w' => w'.cell? ⟨b1, o1 + j * 2, none⟩ = some (.int .i64 X0) ∧ w'.cell? ⟨b1, o1 + j * 2 + 1, none⟩ = some (.int .i64 Y0) ∧ w'.cell? ⟨b1, o1 + (j + 1) * 2, none⟩ = some (.int .i64 X1) ∧ w'.cell? ⟨b1, o1 + (j + 1) * 2 + 1, none⟩ = some (.int .i64 Y1) ∧ w'.cell? ⟨b2, o2 + k * 2, none⟩ = some (.int .i64 X2) ∧ w'.cell? ⟨b2, o2 + k * 2 + 1, none⟩ = some (.int .i64 Y2) ∧ w'.cell? ⟨b2, o2 + (k + 1) * 2, none⟩ = some (.int .i64 X3) ∧ w'.cell? ⟨b2, o2 + (k + 1) * 2 + 1, none⟩ = some (.int .i64 Y3)) W from fun W h => ⟨cell_in z0 h, cell_in x0 h, cell_in z1 h, cell_in x1 h, cell_in z2 h, cell_in x2 h, cell_in z3 h, cell_in x3 h⟩)
              clear z0 z1 z2 z3 x0 x1 x2 x3
              have hwj : IntKind.i64.wrap ((j : Int) + 1) = (j : Int) + 1 := by rw [IntKind.wrap_i64]; omega
              have hwk : IntKind.i64.wrap ((k : Int) + 1) = (k : Int) + 1 := by rw [IntKind.wrap_i64]; omega
              have h0j : (0 : Int) ≤ (j : Int) + 1 := by omega
              have h0k : (0 : Int) ≤ (k : Int) + 1 := by omega
              have S1 := HS1.out _ HW1.out
              have S1a := fun o => HS1.out (W1.drew.alloc o) (HW1.out.drew.alloc HW1.out.size _)
              go_cut [7, 8] from 46 to 67 (fun s7 s8 wx => ∃ bp, s7 = .pointer (some ⟨bp, 0, none⟩) ∧ s8 = .bool SB ∧ Pt wx bp SX SY ∧ Below w.heap.size w wx)
              case first =>
                go_region_held (fun w' => w'.cell? ⟨b1, o1 + j * 2, none⟩ = some (.int .i64 X0) ∧ w'.cell? ⟨b1, o1 + j * 2 + 1, none⟩ = some (.int .i64 Y0) ∧ w'.cell? ⟨b1, o1 + (j + 1) * 2, none⟩ = some (.int .i64 X1) ∧ w'.cell? ⟨b1, o1 + (j + 1) * 2 + 1, none⟩ = some (.int .i64 Y1) ∧ w'.cell? ⟨b2, o2 + k * 2, none⟩ = some (.int .i64 X2) ∧ w'.cell? ⟨b2, o2 + k * 2 + 1, none⟩ = some (.int .i64 Y2) ∧ w'.cell? ⟨b2, o2 + (k + 1) * 2, none⟩ = some (.int .i64 X3) ∧ w'.cell? ⟨b2, o2 + (k + 1) * 2 + 1, none⟩ = some (.int .i64 Y3)) (first | exact S1 | exact S1a _ | exact S5 | exact S5a _ | exact S5s) (first | (go_at_call 20; refine (F2.out _).mono ?_; rintro e w5 ⟨rfl, hb5⟩; have HB5 := hid (show Below W1.heap.size W1 w5 by first | exact (Below.refl _ W1).drew.trans hb5 | exact ((Below.refl _ W1).drew.alloc (Nat.le_refl _) _).trans (hb5.mono (by simp))); have S5 := HS1.out _ (HW1.out.trans (HB5.out.mono HW1.out.size)); have S5a := fun o => HS1.out (w5.alloc o) ((HW1.out.trans (HB5.out.mono HW1.out.size)).alloc (by have := HW1.out.size; have := HB5.out.size; omega) _); have S5s := HS1.out _ (below_set2 (b := W1.heap.size) (u := .int .i64 SX) (v := .int .i64 SY) (HW1.out.trans (HB5.out.mono HW1.out.size)) HW1.out.size); first | (have hPB : Pt w5 W1.heap.size 0 0 := (Pt.new W1.drew 0 0).below hb5 (by simp); have HPB := hid hPB; have q0 := hPB.c0; have q1 := hPB.c1; have q2 := hPB.f0; have q3 := hPB.f1; clear hPB hb5) | clear hb5))
                all_goals
                  go_wp2
                  go_meet
                  case rel => first
                    | exact ⟨_, rfl, rfl, Pt.new _ _ _, (HB.out.trans (HB5.out.mono HB.out.size)).alloc (by have := HB.out.size; have := HB5.out.size; omega) _⟩
                    | exact ⟨_, rfl, rfl, HPB.out.set _ _, below_set2 (HB.out.trans (HB5.out.mono HB.out.size)) HB.out.size⟩
              case rest =>
                obtain ⟨bp, rfl, rfl, hpv, hbv⟩ := hcut
                clear HB
                have HPV := hid hpv
                have HB := hid hbv
                have v0 := HPV.out.c0; have v1 := HPV.out.c1
                obtain ⟨E1, hE1⟩ : ∃ E, endL ps (SX, SY) = E := ⟨_, rfl⟩
                obtain ⟨E2, hE2⟩ : ∃ E, endL qs (SX, SY) = E := ⟨_, rfl⟩
                have HE1 := hid hE1
                have HE2 := hid hE2
                clear hpv hbv hE1 hE2 S1 S1a HS1
                cases E1 with
                | true =>
                  cases E2 with
                  | true =>
                    go_wp2_with (first
                      | (go_at_call 21; refine (F3.out SX SY _ (HP.out.below HB.out)).mono ?_; rintro e w5 ⟨rfl, hb5⟩; rw [HE1.out]; replace HPV := hid (HPV.out.below hb5 HPV.out.lt); have p2 := HPV.out.c0; have p3 := HPV.out.c1; replace HB := hid (HB.out.trans (hb5.mono HB.out.size)); clear hb5 F3)
                      | (go_at_call 21; refine (F4.out SX SY _ (HQ.out.below HB.out)).mono ?_; rintro e w6 ⟨rfl, hb6⟩; rw [HE2.out]; replace HB := hid (HB.out.trans (hb6.mono HB.out.size)); clear hb6 F4))
                    go_roundw
                    case rel =>
                      refine ⟨k + 1, by omega, by go_num, fun t h1 h2 => ?_, HB.out⟩
                      by_cases htk : t = k
                      · rw [htk, HMT.out]; rw [HE1.out, HE2.out]; rfl
                      · exact HPK.out t (by omega) h2
                    case measure => simp [intOf]; omega
                  | false =>
                    go_wp2_with (first
                      | (go_at_call 21; refine (F3.out SX SY _ (HP.out.below HB.out)).mono ?_; rintro e w5 ⟨rfl, hb5⟩; rw [HE1.out]; replace HPV := hid (HPV.out.below hb5 HPV.out.lt); have p2 := HPV.out.c0; have p3 := HPV.out.c1; replace HB := hid (HB.out.trans (hb5.mono HB.out.size)); clear hb5 F3)
                      | (go_at_call 21; refine (F4.out SX SY _ (HQ.out.below HB.out)).mono ?_; rintro e w6 ⟨rfl, hb6⟩; rw [HE2.out]; replace HB := hid (HB.out.trans (hb6.mono HB.out.size)); clear hb6 F4))
                    go_ret
                    refine ⟨?_, HB.out⟩
                    rw [apartL_no (i := j) (k := k) (by rw [HN.out]; omega) (by rw [HM.out]; omega) (by rw [HMT.out]; rw [HE1.out, HE2.out]; rfl)]
                    rfl
                | false =>
                  go_wp2_with (first
                    | (go_at_call 21; refine (F3.out SX SY _ (HP.out.below HB.out)).mono ?_; rintro e w5 ⟨rfl, hb5⟩; rw [HE1.out]; replace HPV := hid (HPV.out.below hb5 HPV.out.lt); have p2 := HPV.out.c0; have p3 := HPV.out.c1; replace HB := hid (HB.out.trans (hb5.mono HB.out.size)); clear hb5 F3)
                    | (go_at_call 21; refine (F4.out SX SY _ (HQ.out.below HB.out)).mono ?_; rintro e w6 ⟨rfl, hb6⟩; rw [HE2.out]; replace HB := hid (HB.out.trans (hb6.mono HB.out.size)); clear hb6 F4))
                  go_ret
                  refine ⟨?_, HB.out⟩
                  rw [apartL_no (i := j) (k := k) (by rw [HN.out]; omega) (by rw [HM.out]; omega) (by rw [HMT.out]; rw [HE1.out]; rfl)]
                  rfl
            · have g1 : (RL == 1) = false := by simpa using hr1
              have HR0 := hid g0
              have HR1 := hid g1
              clear hr0 hr1
              go_wp2
              refine wp_region_quiet_below (by kernel_rfl) (by kernel_rfl) ?_
              go_big_quiet_step (fail)
              go_big_quiet_step (fail)
              go_big_quiet_step (fail)
              go_big_quiet_step (fail)
              go_big_quiet_step (fail)
              go_big_quiet_step (fail)
              go_big_quiet_step (fail)
              go_big_quiet_step (fail)
              go_big_quiet_step (fail)
              go_big_quiet_step (fail)
              go_big_quiet_step (fail)
              go_big_quiet_step (fail)
              go_big_quiet_step (fail)
              go_big_quiet_step (fail)
              go_big_quiet_step (fail)
              go_big_quiet_step (fail)
              go_big_quiet_step (fail)
              go_big_quiet_step (fail)
              go_big_quiet_step (exact Calls.regrown_of (c1 _ _))
              refine wpQuiet_nil ?_
              intro W1 hW'
              obtain ⟨⟨dq, osq⟩, hW⟩ := hW'
              have HW1 := hid (show Below wr.heap.size wr W1 by rw [hW]; exact below_regrown _ _ _)
              clear hW
              clear y0 y1 y2 y3 u0 u1 u2 u3 c1
              replace HB := hid (HB.out.trans (HW1.out.mono HB.out.size))
              have HB1 := HB
              go_wp2
              go_ret
              refine ⟨?_, HB.out⟩
              rw [apartL_no (i := j) (k := k) (by rw [HN.out]; omega) (by rw [HM.out]; omega) (by rw [HMT.out]; rw [HR0.out, HR1.out]; rfl)]
              rfl
        · have hkI : ¬ (k : Int) + 1 < (m : Int) := by omega
          clear hby hpk
          go_wp2
          go_roundw
          case rel =>
            refine ⟨j + 1, by omega, by go_num, fun t h1 h2 k' h3 => ?_, HB.out⟩
            by_cases htj : t = j
            · subst htj; exact HPK.out k' (by omega) h3
            · exact HPR.out t (by omega) h2 k' h3
          case measure => simp [intOf]; omega
    · have hjI : ¬ (j : Int) + 1 < (n : Int) := by omega
      go_wp2
      go_ret
      refine ⟨?_, HB.out⟩
      rw [apartL_true (fun t h1 k h2 => HPR.out t (by rw [HN.out] at h1; omega) (by rw [HN.out] at h1; exact h1) k (by rw [HM.out] at h2; exact h2))]
      rfl

end Go.Proofs.Ytlnjjkgjknheiaa

namespace Go.Proofs.Ytlnjjkgjknheiaa

theorem lpt_append_left {a b : List Pp} {i : Nat} (h : i < a.length) : lpt (a ++ b) i = lpt a i := by
  refine lpt_at ?_
  rw [List.getElem?_append_left h]
  exact at_lpt h
theorem lpt_append_right {a b : List Pp} {i : Nat} (h : i < b.length) : lpt (a ++ b) (a.length + i) = lpt b i := by
  refine lpt_at ?_
  rw [List.getElem?_append_right (by omega), Nat.add_sub_cancel_left]
  exact at_lpt h
theorem lpt_take {a : List Pp} {k i : Nat} (h : i < k) (hi : i < a.length) : lpt (a.take k) i = lpt a i := by
  refine lpt_at ?_
  rw [List.getElem?_take, if_pos h]
  exact at_lpt hi
theorem lpt_drop {a : List Pp} {k i : Nat} (h : k + i < a.length) : lpt (a.drop k) i = lpt a (k + i) := by
  refine lpt_at ?_
  rw [List.getElem?_drop]
  exact at_lpt h
/-- What Split answers, where it parts. -/
theorem splitL_yes {ps : List Pp} {p : Pp} (h : (splitL ps p).2 = true) : ∃ k, atL ps p = some k ∧ k + 1 < ps.length ∧ endL ps p = false ∧ (splitL ps p).1.1 = ps.take (k + 1) ++ [p] ∧ (splitL ps p).1.2 = if lpt ps (k + 1) = p then ps.drop (k + 1) else p :: ps.drop (k + 1) := by
  unfold splitL at h ⊢
  cases hat : atL ps p with
  | none => rw [hat] at h; cases h
  | some k =>
    rw [hat] at h
    dsimp only at h ⊢
    cases he : endL ps p with
    | true => rw [he] at h; cases h
    | false => exact ⟨k, rfl, atL_lt hat, rfl, rfl, rfl⟩
theorem splitL_no {ps : List Pp} {p : Pp} (h : (splitL ps p).2 = false) : splitL ps p = (([], []), false) := by
  unfold splitL at h ⊢
  cases hat : atL ps p with
  | none => rfl
  | some k =>
    rw [hat] at h
    dsimp only at h ⊢
    cases he : endL ps p with
    | true => rfl
    | false => rw [he] at h; cases h
theorem split_first {ps : List Pp} {p : Pp} {k : Nat} (hk : k + 1 < ps.length) : ∃ t, (if lpt ps (k + 1) = p then ps.drop (k + 1) else p :: ps.drop (k + 1)) = p :: t ∧ (t = ps.drop (k + 2) ∧ lpt ps (k + 1) = p ∨ t = ps.drop (k + 1)) := by
  have hd : ps.drop (k + 1) = lpt ps (k + 1) :: ps.drop (k + 2) := by
    rw [List.drop_eq_getElem_cons hk]
    congr 1
    have := at_lpt hk
    rw [List.getElem?_eq_getElem hk] at this
    exact Option.some.inj this
  by_cases he : lpt ps (k + 1) = p
  · refine ⟨ps.drop (k + 2), ?_, .inl ⟨rfl, he⟩⟩
    rw [if_pos he, hd, he]
  · exact ⟨ps.drop (k + 1), by rw [if_neg he], .inr rfl⟩
theorem split_join {ps : List Pp} {p : Pp} (h : (splitL ps p).2 = true) : ps.length ≤ (joinL (splitL ps p).1.1 (splitL ps p).1.2).length ∧ (joinL (splitL ps p).1.1 (splitL ps p).1.2).length ≤ ps.length + 1 ∧ lpt (joinL (splitL ps p).1.1 (splitL ps p).1.2) 0 = lpt ps 0 ∧ lpt (joinL (splitL ps p).1.1 (splitL ps p).1.2) ((joinL (splitL ps p).1.1 (splitL ps p).1.2).length - 1) = lpt ps (ps.length - 1) ∧ 2 ≤ ps.length := by
  obtain ⟨k, _, hk, _, e1, e2⟩ := splitL_yes h
  rw [e1, e2]
  obtain ⟨t, ht, htt⟩ := split_first (p := p) hk
  rw [ht]
  have hla : (ps.take (k + 1) ++ [p]).length = k + 2 := by rw [List.length_append, List.length_take]; simp; omega
  have hlt : lpt (ps.take (k + 1) ++ [p]) ((ps.take (k + 1) ++ [p]).length - 1) = p := by
    have := lpt_append_right (a := ps.take (k + 1)) (b := [p]) (i := 0) (by simp)
    rw [hla, show k + 2 - 1 = k + 1 by omega]
    rw [List.length_take, Nat.min_eq_left (by omega), Nat.add_zero] at this
    rw [this]
    rfl
  have hj : joinL (ps.take (k + 1) ++ [p]) (p :: t) = ps.take (k + 1) ++ [p] ++ t := by
    unfold joinL
    rw [if_pos ⟨by rw [hla]; omega, by simp, by rw [hlt]; rfl⟩]
    rfl
  rw [hj]
  have hl : (ps.take (k + 1) ++ [p] ++ t).length = k + 2 + t.length := by rw [List.length_append, hla]
  have h0 : lpt (ps.take (k + 1) ++ [p] ++ t) 0 = lpt ps 0 := by
    rw [List.append_assoc, lpt_append_left (by rw [List.length_take]; omega), lpt_take (by omega) (by omega)]
  rw [hl]
  refine ⟨?_, ?_, h0, ?_, by omega⟩
  · rcases htt with ⟨e, _⟩ | e <;> rw [e, List.length_drop] <;> omega
  · rcases htt with ⟨e, _⟩ | e <;> rw [e, List.length_drop] <;> omega
  · rcases htt with ⟨e, he⟩ | e
    · by_cases hkn : k + 2 < ps.length
      · have htl : t.length = ps.length - (k + 2) := by rw [e, List.length_drop]
        have := lpt_append_right (a := ps.take (k + 1) ++ [p]) (b := t) (i := t.length - 1) (by omega)
        rw [hla] at this
        rw [show k + 2 + t.length - 1 = k + 2 + (t.length - 1) by omega, this, e, lpt_drop (by rw [List.length_drop]; omega), List.length_drop]
        congr 1
        omega
      · have ht0 : t = [] := by rw [e]; exact List.drop_of_length_le (by omega)
        rw [ht0, List.append_nil, show k + 2 + ([] : List Pp).length - 1 = (ps.take (k + 1) ++ [p]).length - 1 by rw [hla]; rfl, hlt, show ps.length - 1 = k + 1 by omega, he]
    · have htl : t.length = ps.length - (k + 1) := by rw [e, List.length_drop]
      have := lpt_append_right (a := ps.take (k + 1) ++ [p]) (b := t) (i := t.length - 1) (by omega)
      rw [hla] at this
      rw [show k + 2 + t.length - 1 = k + 2 + (t.length - 1) by omega, this, e, lpt_drop (by rw [List.length_drop]; omega), List.length_drop]
      congr 1
      omega
theorem split_gl {ps : List Pp} {p : Pp} (hg : Gl ps) (hp : clP p = p) : Gl (splitL ps p).1.1 ∧ Gl (splitL ps p).1.2 ∧ (splitL ps p).1.1.length ≤ ps.length + 1 ∧ (splitL ps p).1.2.length ≤ ps.length + 1 := by
  cases h : (splitL ps p).2 with
  | false =>
    rw [splitL_no h]
    exact ⟨(fun q hq => (by cases hq)), (fun q hq => (by cases hq)), Nat.zero_le _, Nat.zero_le _⟩
  | true =>
    obtain ⟨k, _, hk, _, e1, e2⟩ := splitL_yes h
    rw [e1, e2]
    refine ⟨fun q hq => ?_, fun q hq => ?_, by rw [List.length_append, List.length_take]; simp; omega, ?_⟩
    · rcases List.mem_append.1 hq with hq | hq
      · exact hg q (List.mem_of_mem_take hq)
      · rw [List.mem_singleton.1 hq]; exact hp
    · split at hq
      · exact hg q (List.mem_of_mem_drop hq)
      · rcases List.mem_cons.1 hq with rfl | hq
        · exact hp
        · exact hg q (List.mem_of_mem_drop hq)
    · split
      · rw [List.length_drop]; omega
      · rw [List.length_cons, List.length_drop]; omega
end Go.Proofs.Ytlnjjkgjknheiaa

namespace Go.Proofs.Ytlnjjkgjknheiaa
open Go.RowKit Go.Sort

theorem Gl.at {ps : List Pp} (h : Gl ps) {i : Nat} (hi : i < ps.length) : clP (lpt ps i) = lpt ps i := h _ (List.mem_of_getElem? (at_lpt hi))
theorem closedL_gl {ps : List Pp} (h : Gl ps) (h3 : 3 ≤ ps.length) : closedL ps = eqp (lpt ps 0) (lpt ps (ps.length - 1)) := by
  unfold closedL
  rw [decide_eq_true h3, h.at (by omega), h.at (by omega)]
  rfl

set_option maxHeartbeats 1600000 in
theorem segments_any (ao : Option Addr) (n cap : Nat) (w : World) (hl : n ≤ 100000) :
    Calls Try.prog 24 #[.slice ao n cap] w fun e w' => e = .returned (.int .i64 ((n - 1 : Nat) : Int)) ∧ Below w.heap.size w w' := by
  cases n with
  | zero =>
    go_enter Try.func24, Try.ntmps24
    go_wp2
    go_ret
    exact ⟨rfl, Below.refl _ _⟩
  | succ m =>
    have h1 : (m : Int) + 1 - 1 = (m : Int) := by omega
    have h2 : ¬ (m : Int) < 0 := by omega
    have h3 : ¬ (0 : Int) > (m : Int) := by omega
    have h4 : max (m : Int) 0 = (m : Int) := by omega
    rw [Nat.add_sub_cancel]
    go_enter Try.func24, Try.ntmps24
    go_wp2
    all_goals (go_ret; refine ⟨?_, Below.refl _ _⟩)
    all_goals (first | rfl | (congr 2; omega))


set_option maxHeartbeats 1600000 in
theorem lineClosed_any (v : Value) (ps : List Pp) (w : World) (hp : Pts w v ps) (hg : Gl ps) (hl : ps.length ≤ 100000) :
    Calls Try.prog 16 #[v] w fun e w' => e = .returned (.bool (closedL ps)) ∧ Below w.heap.size w w' := by
  have hp' := hp
  obtain ⟨a, cap, rfl, _⟩ := hp'
  obtain ⟨n, hn⟩ : ∃ n, ps.length = n := ⟨_, rfl⟩
  have HN := hid hn
  rw [hn] at hl hp ⊢
  by_cases h3 : 3 ≤ n
  · have h3I : (3 : Int) ≤ (n : Int) := by omega
    obtain ⟨b, off, rfl, hc⟩ := hp.row (by omega)
    obtain ⟨z0, z1⟩ := hc 0 (by omega)
    obtain ⟨x0, x1⟩ := hc (n - 1) (by omega)
    have HCL : Hid (closedL ps = eqp (lpt ps 0) (lpt ps (n - 1))) := hid (by rw [closedL_gl hg (by rw [HN.out]; exact h3), HN.out])
    generalize lpt ps 0 = P at *
    generalize lpt ps (n - 1) = Q at *
    obtain ⟨PX, PY⟩ := P
    obtain ⟨QX, QY⟩ := Q
    rw [show (0 : Nat) * 2 = 0 from rfl, Nat.add_zero] at z0 z1
    obtain ⟨m, rfl⟩ : ∃ m, n = m + 1 := ⟨n - 1, by omega⟩
    rw [Nat.add_sub_cancel] at x0 x1
    have hm : ((m : Int) + 1 - 1) = (m : Int) := by omega
    have g1 : decide ((3 : Int) ≤ (m : Int) + 1) = true := decide_eq_true (by omega)
    have g2 : decide (3 ≤ m + 1) = true := decide_eq_true (by omega)
    dsimp only at z0 z1 x0 x1
    have y0 := cell_regrown z0; have y1 := cell_regrown z1; have u0 := cell_regrown x0; have u1 := cell_regrown x1
    clear z0 z1 x0 x1 hc hp hn hg
    cases f : (PX == QX && PY == QY) with
    | true =>
      have rf := fun x y => ite2_yes f (α := Result Next) x y
      have sf := fun x y => ite2_yes f (α := Prop) x y
      have HF := hid f
      go_enter Try.func16, Try.ntmps16
      go_wp2
      refine wp_region_quiet_below (by kernel_rfl) (by kernel_rfl) ?_
      repeat (go_big_quiet_step (fail))
      refine wpQuiet_nil ?_
      intro W1 hW'
      obtain ⟨⟨dq, osq⟩, hW⟩ := hW'
      have HW1 := hid (show Below w.heap.size w W1 by rw [hW]; exact below_regrown _ _ _)
      clear hW
      clear y0 y1 u0 u1 rf sf
      go_wp2
      go_ret
      refine ⟨?_, HW1.out⟩
      rw [HCL.out]
      show _ = Ending.returned (.bool (PX == QX && PY == QY))
      rw [HF.out]
      rfl
    | false =>
      have rf := fun x y => ite2_no f (α := Result Next) x y
      have sf := fun x y => ite2_no f (α := Prop) x y
      have HF := hid f
      go_enter Try.func16, Try.ntmps16
      go_wp2
      refine wp_region_quiet_below (by kernel_rfl) (by kernel_rfl) ?_
      repeat (go_big_quiet_step (fail))
      refine wpQuiet_nil ?_
      intro W1 hW'
      obtain ⟨⟨dq, osq⟩, hW⟩ := hW'
      have HW1 := hid (show Below w.heap.size w W1 by rw [hW]; exact below_regrown _ _ _)
      clear hW
      clear y0 y1 u0 u1 rf sf
      go_wp2
      go_ret
      refine ⟨?_, HW1.out⟩
      rw [HCL.out]
      show _ = Ending.returned (.bool (PX == QX && PY == QY))
      rw [HF.out]
      rfl
  · have h3I : ¬ (3 : Int) ≤ (n : Int) := by omega
    have g1 : decide ((3 : Int) ≤ (n : Int)) = false := decide_eq_false (by omega)
    have g2 : decide (3 ≤ n) = false := decide_eq_false h3
    have HCL : Hid (closedL ps = false) := hid (by unfold closedL; rw [HN.out, decide_eq_false h3]; rfl)
    clear hp hn hg
    go_enter Try.func16, Try.ntmps16
    go_wp2
    refine wp_region_quiet_below (by kernel_rfl) (by kernel_rfl) ?_
    repeat (go_big_quiet_step (fail))
    refine wpQuiet_nil ?_
    intro W1 hW'
    obtain ⟨⟨dq, osq⟩, hW⟩ := hW'
    have HW1 := hid (show Below w.heap.size w W1 by rw [hW]; exact below_regrown _ _ _)
    clear hW
    go_wp2
    go_ret
    exact ⟨by rw [HCL.out]; rfl, HW1.out⟩

end Go.Proofs.Ytlnjjkgjknheiaa

namespace Go.Proofs.Ytlnjjkgjknheiaa
open Go.RowKit Go.Sort

theorem endL_comm (ps : List Pp) (p : Pp) : endL ps p = (eqp p (lpt ps 0) || eqp p (lpt ps (ps.length - 1))) := by
  unfold endL
  rw [eqp_comm, eqp_comm (lpt ps (ps.length - 1))]

set_option maxHeartbeats 1600000 in
theorem isEnd_any (v : Value) (ps : List Pp) (px py : Int) (w : World) (hp : Pts w v ps) (h1 : 1 ≤ ps.length) (hl : ps.length ≤ 100000) :
    Calls Try.prog 27 #[v, pv px py] w fun e w' => e = .returned (.bool (endL ps (px, py))) ∧ Below w.heap.size w w' := by
  have hp' := hp
  obtain ⟨a, cap, rfl, _⟩ := hp'
  obtain ⟨n, hn⟩ : ∃ n, ps.length = n := ⟨_, rfl⟩
  have HE := hid (endL_comm ps (px, py))
  have HN := hid hn
  rw [hn] at hl h1 hp HE ⊢
  obtain ⟨wA, hwA⟩ : ∃ wA, w.alloc (.cells #[.int .i64 px, .int .i64 py] 24) = wA := ⟨_, rfl⟩
  obtain ⟨hA, hBL, hszA⟩ := box1 hwA
  have HBL := hid hBL
  obtain ⟨b, off, rfl, hc⟩ := (hp.below hBL).row (by omega)
  obtain ⟨z0, z1⟩ := hc 0 (by omega)
  obtain ⟨x0, x1⟩ := hc (n - 1) (by omega)
  generalize lpt ps 0 = P at *
  generalize lpt ps (n - 1) = Q at *
  obtain ⟨PX, PY⟩ := P
  obtain ⟨QX, QY⟩ := Q
  rw [show (0 : Nat) * 2 = 0 from rfl, Nat.add_zero] at z0 z1
  obtain ⟨m, rfl⟩ : ∃ m, n = m + 1 := ⟨n - 1, by omega⟩
  rw [Nat.add_sub_cancel] at x0 x1
  have hm : ((m : Int) + 1 - 1) = (m : Int) := by omega
  dsimp only at z0 z1 x0 x1
  have y0 := cell_regrown z0; have y1 := cell_regrown z1; have u0 := cell_regrown x0; have u1 := cell_regrown x1; have a0 := cell_regrown hA.c0; have a1 := cell_regrown hA.c1
  clear z0 z1 x0 x1 hc hp hn hA hBL h1
  cases f : (px == PX && py == PY) with
  | true =>
    have rf := fun x y => ite2_yes f (α := Result Next) x y
    have sf := fun x y => ite2_yes f (α := Prop) x y
    have HF := hid f
    go_enter Try.func27, Try.ntmps27
    go_wp2
    refine wp_region_quiet_below (by kernel_rfl) (by kernel_rfl) ?_
    repeat (go_big_quiet_step (fail))
    refine wpQuiet_nil ?_
    intro W1 hW'
    obtain ⟨⟨dq, osq⟩, hW⟩ := hW'
    have HW1 := hid (show Below wA.heap.size wA W1 by rw [hW]; exact below_regrown _ _ _)
    clear hW
    clear y0 y1 u0 u1 a0 a1 rf sf
    go_wp2
    go_ret
    refine ⟨?_, HBL.out.trans (HW1.out.mono HBL.out.size)⟩
    rw [HE.out]
    show _ = Ending.returned (.bool ((px == PX && py == PY) || (px == QX && py == QY)))
    rw [HF.out]
    rfl
  | false =>
    have rf := fun x y => ite2_no f (α := Result Next) x y
    have sf := fun x y => ite2_no f (α := Prop) x y
    have HF := hid f
    cases g : (px == QX && py == QY) with
    | true =>
      have rg := fun x y => ite2_yes g (α := Result Next) x y
      have sg := fun x y => ite2_yes g (α := Prop) x y
      have HG := hid g
      go_enter Try.func27, Try.ntmps27
      go_wp2
      refine wp_region_quiet_below (by kernel_rfl) (by kernel_rfl) ?_
      repeat (go_big_quiet_step (fail))
      refine wpQuiet_nil ?_
      intro W1 hW'
      obtain ⟨⟨dq, osq⟩, hW⟩ := hW'
      have HW1 := hid (show Below wA.heap.size wA W1 by rw [hW]; exact below_regrown _ _ _)
      clear hW
      clear y0 y1 u0 u1 a0 a1 rf sf rg sg
      go_wp2
      go_ret
      refine ⟨?_, HBL.out.trans (HW1.out.mono HBL.out.size)⟩
      rw [HE.out]
      show _ = Ending.returned (.bool ((px == PX && py == PY) || (px == QX && py == QY)))
      rw [HF.out, HG.out]
      rfl
    | false =>
      have rg := fun x y => ite2_no g (α := Result Next) x y
      have sg := fun x y => ite2_no g (α := Prop) x y
      have HG := hid g
      go_enter Try.func27, Try.ntmps27
      go_wp2
      refine wp_region_quiet_below (by kernel_rfl) (by kernel_rfl) ?_
      repeat (go_big_quiet_step (fail))
      refine wpQuiet_nil ?_
      intro W1 hW'
      obtain ⟨⟨dq, osq⟩, hW⟩ := hW'
      have HW1 := hid (show Below wA.heap.size wA W1 by rw [hW]; exact below_regrown _ _ _)
      clear hW
      clear y0 y1 u0 u1 a0 a1 rf sf rg sg
      go_wp2
      go_ret
      refine ⟨?_, HBL.out.trans (HW1.out.mono HBL.out.size)⟩
      rw [HE.out]
      show _ = Ending.returned (.bool ((px == PX && py == PY) || (px == QX && py == QY)))
      rw [HF.out, HG.out]
      rfl
end Go.Proofs.Ytlnjjkgjknheiaa
