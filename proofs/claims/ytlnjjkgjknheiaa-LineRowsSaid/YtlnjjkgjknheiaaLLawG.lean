/-
  LineRows, given what line answers.
-/
import Derived.Test.YtlnjjkgjknheiaaLLaw
import Derived.Test.YtlnjjkgjknheiaaLSlices
import Derived.Test.YtlnjjkgjknheiaaLRowP
namespace Go.Proofs.Ytlnjjkgjknheiaa
open Go.RowKit Go.Sort


theorem and255_rows (n : Int) : bits .and .i64 n 255 = n % 256 := by
  have h31 : (BitVec.ofInt 64 255).toNat = 2 ^ 8 - 1 := by decide
  have key : (BitVec.ofInt 64 n &&& BitVec.ofInt 64 255).toNat = (n % ((2 ^ 64 : Nat) : Int)).toNat % 2 ^ 8 := by
    rw [BitVec.toNat_and, BitVec.toNat_ofInt, h31, Nat.and_two_pow_sub_one_eq_mod]
  show IntKind.i64.wrap ((BitVec.ofInt 64 n &&& BitVec.ofInt 64 255).toNat : Nat) = n % 256
  rw [key, IntKind.wrap_i64]
  omega
theorem cell_below' {w w' : World} {b i : Nat} {v : Value} (h : w.cell? ⟨b, i, none⟩ = some v) (hb : Below w.heap.size w w') : w'.cell? ⟨b, i, none⟩ = some v := (hb.cell (p := ⟨b, i, none⟩) (World.block_lt_of_cell? w _ h)).trans h
/-- The rows that stand so far. -/
def RowsAt (W : World) (base : Nat) (v : Value) (L : Int) (k : Nat) : Prop :=
  ∃ vs, SvRow W base v vs ∧ vs.length = k ∧ ∀ j, j < k → ∃ u, vs[j]? = some u ∧ (∃ a c, u = .slice (some a) 2 c) ∧ Src W u (rowL L (3 * (j : Int))) ∧ Off v u
theorem RowsAt.nil (W : World) (base : Nat) (L : Int) : RowsAt W base (.slice none 0 0) L 0 := ⟨[], SvRow.nil _ _, rfl, fun _j hj => absurd hj (Nat.not_lt_zero _)⟩
theorem RowsAt.below {W W' : World} {base : Nat} {v : Value} {L : Int} {k : Nat} (h : RowsAt W base v L k) (hb : Below W.heap.size W W') : RowsAt W' base v L k := by
  obtain ⟨vs, h1, h2, h3⟩ := h
  refine ⟨vs, h1.below hb, h2, fun j hj => ?_⟩
  obtain ⟨u, e, f, hs, ho⟩ := h3 j hj
  exact ⟨u, e, f, hs.below hb, ho⟩
theorem RowsAt.form {W : World} {base : Nat} {v : Value} {L : Int} {k : Nat} (h : RowsAt W base v L k) : ∃ ao cap, v = .slice ao k cap := by
  obtain ⟨vs, h1, h2, _⟩ := h
  obtain ⟨ao, cap, e⟩ := h1.form
  exact ⟨ao, cap, by rw [e, h2]⟩
theorem RowsAt.get {W : World} {base n cap : Nat} {ao : Option Addr} {L : Int} {k j : Nat} (h : RowsAt W base (.slice ao n cap) L k) (hj : j < k) : ∃ g a c, ao = some ⟨g, 0, none⟩ ∧ W.cell? ⟨g, j, none⟩ = some (.slice (some a) 2 c) ∧ Src W (.slice (some a) 2 c) (rowL L (3 * (j : Int))) := by
  obtain ⟨vs, h1, h2, h3⟩ := h
  obtain ⟨u, e, ⟨a, c, rfl⟩, hs, _⟩ := h3 j hj
  obtain ⟨g, e2, hc⟩ := h1.at e
  exact ⟨g, a, c, e2, hc, hs⟩
theorem RowsAt.add {W : World} {base : Nat} {v : Value} {L : Int} {k : Nat} (h : RowsAt W base v L k) (hb : base ≤ W.heap.size) (hk : k ≤ 1000) : ∃ ao cap W', (Builtin.append_ #[22, 22] 22 #[v, .slice (some ⟨W.heap.size + 1, 0, none⟩) 1 1]).run Try.prog ((W.alloc (.cells #[.int .i64 0, .int .i64 (3 * (k : Int)), .int .i64 L, .int .i64 (3 * (k : Int))] 24)).alloc (.cells #[.slice (some ⟨W.heap.size, 0, none⟩) 2 2] 25)) = .ok (.slice ao (k + 1) cap) W' ∧
    RowsAt W' base (.slice ao (k + 1) cap) L (k + 1) ∧ Below base W W' := by
  obtain ⟨vs, h1, h2, h3⟩ := h
  obtain ⟨X, hX⟩ : ∃ X, W.alloc (.cells #[.int .i64 0, .int .i64 (3 * (k : Int)), .int .i64 L, .int .i64 (3 * (k : Int))] 24) = X := ⟨_, rfl⟩
  have hbX : Below W.heap.size W X := by rw [← hX]; exact (Below.refl _ W).alloc (Nat.le_refl _) _
  have hsz : X.heap.size = W.heap.size + 1 := by rw [← hX]; simp
  have hsrc : Src X (.slice (some ⟨W.heap.size, 0, none⟩) 2 2) (rowL L (3 * (k : Int))) := src2 (by rw [← hX]; unfold World.alloc; simp)
  obtain ⟨ao, cap, W', hrun, hrow, hbel, hby⟩ := (h1.below hbX).snoc (by omega) (by omega) (.slice (some ⟨W.heap.size, 0, none⟩) 2 2) ⟨_, _, _, rfl⟩
  rw [hX, ← hsz]
  rw [h2] at hrun hrow hby
  have hoff : Off v (.slice (some ⟨W.heap.size, 0, none⟩) 2 2) := fun a n c e hown => by
    injection e with e1 _ _
    injection e1 with e1
    subst e1
    have := (h1.lt hown).1
    exact absurd this (Nat.lt_irrefl _)
  refine ⟨ao, cap, W', hrun, ⟨_, hrow, by rw [List.length_append, h2]; rfl, fun j hj => ?_⟩, (hbX.mono hb).trans hbel⟩
  by_cases hjk : j < k
  · obtain ⟨u, e, f, hs, ho⟩ := h3 j hjk
    obtain ⟨hs', ho'⟩ := (hs.below hbX).keepBy (by unfold rowL; simp) hby ho
    exact ⟨u, by rw [List.getElem?_append_left (by omega)]; exact e, f, hs', ho'⟩
  · have hjk' : j = k := by omega
    subst hjk'
    obtain ⟨hs', ho'⟩ := hsrc.keepBy (by unfold rowL; simp) hby hoff
    exact ⟨_, by rw [List.getElem?_append_right (by omega), h2, Nat.sub_self]; rfl, ⟨_, _, rfl⟩, hs', ho'⟩

set_option maxRecDepth 100000 in
set_option maxHeartbeats 6400000 in
theorem lineRows_core (H : LineC) (w : World) (v long at' : Int) :
    Calls Try.prog 3 #[.int .i64 v, .int .i64 long, .int .i64 at'] w fun e w' => e = .returned (.bool true) ∧ Below w.heap.size w w' := by
  obtain ⟨c, hc⟩ : ∃ c : Nat, bits .and .i64 v 255 = (c : Int) := ⟨(v % 256).toNat, by rw [and255_rows]; omega⟩
  obtain ⟨n, hn, hnl, hnh⟩ : ∃ n : Nat, ((c : Int) % 20 + 2) = (n : Int) ∧ 2 ≤ n ∧ n ≤ 21 := ⟨c % 20 + 2, by omega, by omega, by omega⟩
  obtain ⟨d, hd⟩ : ∃ d : Nat, bits .and .i64 long 255 = (d : Int) := ⟨(long % 256).toNat, by rw [and255_rows]; omega⟩
  have hd256 : d < 256 := by have := and255_rows long; omega
  obtain ⟨L, hL⟩ : ∃ L : Nat, (d : Int) + 1 = (L : Int) := ⟨d + 1, by omega⟩
  have hL0 : 1 ≤ L := by omega
  have hL1 : L ≤ 256 := by omega
  obtain ⟨f, hf⟩ : ∃ f : Nat, bits .and .i64 at' 255 = (f : Int) := ⟨(at' % 256).toNat, by rw [and255_rows]; omega⟩
  obtain ⟨M, hM⟩ : ∃ M : Nat, (L : Int) + 1 = (M : Int) := ⟨L + 1, by omega⟩
  have hMz : ¬ (M : Int) = 0 := by omega
  have hMzB : ((M : Int) == 0) = false := beq_eq_false_iff_ne.2 hMz
  obtain ⟨x, hx, hxL⟩ : ∃ x : Nat, (f : Int) % (M : Int) = (x : Int) ∧ x ≤ L := ⟨f % M, by omega, by have := Nat.mod_lt f (show 0 < M by omega); omega⟩
  clear hd256
  go_enter Try.func3, Try.ntmps3
  go_wp2
  rw [hx]
  go_loopw [8, 9] (fun rv iv wr => ∃ (k : Nat) (ro : Option Addr) (rc : Nat), k ≤ n ∧ iv = .int .i64 (k : Nat) ∧ rv = .slice ro k rc ∧ RowsAt wr w.heap.size (.slice ro k rc) (L : Int) k ∧ Below w.heap.size w wr) (fun _ iv _ => n - (intOf iv).toNat)
  case atStart => exact ⟨0, none, 0, by omega, rfl, rfl, RowsAt.nil _ _ _, Below.refl _ _⟩
  case round =>
    obtain ⟨k, ro, rc, hk, rfl, rfl, hrow, hbr⟩ := hrel
    by_cases hlt : k < n
    · have hkI : (k : Int) < (n : Int) := by omega
      obtain ⟨ro', rc', W', hrun, hrow', hbs⟩ := hrow.add hbr.size (by omega)
      have HRUN := hid hrun
      have HROW := hid hrow'
      have HB := hid (hbr.trans hbs)
      clear hrun hrow' hbs hrow hbr
      go_wp2_with (at_builtin; refine wpList_append_run rfl (.tmp 31) (.tmp 40) 22 rfl rfl rfl HRUN.out ?_; clear HRUN)
      go_roundw
      case rel => exact ⟨k + 1, ro', rc', by omega, by go_num, rfl, HROW.out, HB.out⟩
      case measure => simp [intOf]; omega
    · have hkI : ¬ (k : Int) < (n : Int) := by omega
      obtain rfl : k = n := by omega
      have HROW := hid hrow
      have HB := hid hbr
      clear hrow hbr hlt
      go_wp2
      go_loopw [10, 11, 12, 13] (fun iv _ _ _ wq => ∃ i : Nat, i ≤ k ∧ iv = .int .i64 (i : Nat) ∧ RowsAt wq w.heap.size (.slice ro k rc) (L : Int) k ∧ Below w.heap.size w wq) (fun iv _ _ _ _ => k - (intOf iv).toNat)
      case atStart => exact ⟨0, by omega, rfl, HROW.out, HB.out⟩
      case round =>
        obtain ⟨i, hi, rfl, hrow, hbr⟩ := hrel
        have HROW2 := hid hrow
        have HB2 := hid hbr
        clear hrow hbr HROW HB
        by_cases hlt : i < k
        · have hiI : (i : Int) < (k : Int) := by omega
          go_wp2
          go_loopw [11] (fun jv wz => ∃ j : Nat, j ≤ i ∧ jv = .int .i64 (j : Nat) ∧ RowsAt wz w.heap.size (.slice ro k rc) (L : Int) k ∧ Below w.heap.size w wz) (fun jv _ => i - (intOf jv).toNat)
          case atStart => exact ⟨0, by omega, rfl, HROW2.out, HB2.out⟩
          case round =>
            obtain ⟨j, hj, rfl, hrow, hbr⟩ := hrel
            have HROW3 := hid hrow
            have HB3 := hid hbr
            clear hrow hbr HROW2 HB2
            obtain ⟨g, a1, c1, e1, u0, s1⟩ := HROW3.out.get hlt
            subst e1
            have S1 := hid s1
            clear s1
            by_cases hjl : j < i
            · have hjI : (j : Int) < (i : Int) := by omega
              have hjk : (j : Int) < (k : Int) := by omega
              obtain ⟨g', a2, c2, e2, u1, s2⟩ := HROW3.out.get (show j < k by omega)
              simp only [Option.some.injEq, Addr.mk.injEq, and_true] at e2
              subst e2
              obtain ⟨o1, o2, ap⟩ := rows_plain (L := (L : Int)) (y := 3 * (i : Int)) (z := 3 * (j : Int)) (by omega) (by omega) (by omega) (by omega) (by omega)
              have HAP := hid (fun W h1 h2 => H.apart (.slice (some a1) 2 c1) (.slice (some a2) 2 c2) (rowL L (3 * (i : Int))) (rowL L (3 * (j : Int))) W h1 h2 o1 o2)
              rw [ap] at HAP
              have k0 := cell_regrown u0; have k1 := cell_regrown u1
              have cq := fun dq osq => HAP.out (grow (redrawn wr dq) osq) (S1.out.below (below_regrown wr dq osq)) (s2.below (below_regrown wr dq osq))
              clear o1 o2 ap s2
              go_wp2
              refine wp_region_quiet_below (by kernel_rfl) (by kernel_rfl) ?_
              go_big_quiet_step (fail)
              go_big_quiet_step (fail)
              go_big_quiet_step (fail)
              go_big_quiet_step (fail)
              go_big_quiet_step (fail)
              go_big_quiet_step (fail)
              go_big_quiet_step (fail)
              go_big_quiet_step (fail)
              go_big_quiet_step (exact Calls.regrown_of (cq _ _))
              go_big_quiet_step (fail)
              refine wpQuiet_nil ?_
              intro W hW'
              obtain ⟨⟨dq, osq⟩, hW⟩ := hW'
              have hbW : Below wr.heap.size wr W := by rw [hW]; exact below_regrown _ _ _
              have HRW := hid (HROW3.out.below hbW)
              have HBW := hid (HB3.out.trans (hbW.mono HB3.out.size))
              clear hbW hW k0 k1 cq u0 u1
              go_wp2
              go_roundw
              case rel => exact ⟨j + 1, by omega, by go_num, HRW.out, HBW.out⟩
              case measure => simp [intOf]; omega
            · have hjI : ¬ (j : Int) < (i : Int) := by omega
              obtain ⟨o1, o2, o3, ap1, ap2⟩ := across_plain (L := (L : Int)) (x := (x : Int)) (y := 3 * (i : Int)) (by omega) (by omega) (by omega) (by omega) (by omega)
              obtain ⟨wU, hwU⟩ : ∃ W, wr.alloc (.cells #[.int .i64 (x : Int), .int .i64 (3 * (i : Int) - 1), .int .i64 (x : Int), .int .i64 (3 * (i : Int) + 1)] 24) = W := ⟨_, rfl⟩
              obtain ⟨wE, hwE⟩ : ∃ W, wU.alloc (.cells #[.int .i64 (x : Int), .int .i64 (3 * (i : Int)), .int .i64 (x : Int), .int .i64 (3 * (i : Int) + 1)] 24) = W := ⟨_, rfl⟩
              have hszU : wU.heap.size = wr.heap.size + 1 := by rw [← hwU]; simp
              have hbU : Below wr.heap.size wr wU := by rw [← hwU]; exact (Below.refl _ wr).alloc (Nat.le_refl _) _
              have hbE' : Below wU.heap.size wU wE := by rw [← hwE]; exact (Below.refl _ wU).alloc (Nat.le_refl _) _
              have hbE : Below wr.heap.size wr wE := hbU.trans (hbE'.mono hbU.size)
              have SU := hid (show Src wE (.slice (some ⟨wr.heap.size, 0, none⟩) 2 2) (upL (x : Int) (3 * (i : Int))) from (src2 (by rw [← hwU]; unfold World.alloc; simp) : Src wU _ _).below hbE')
              have SE := hid (show Src wE (.slice (some ⟨wr.heap.size + 1, 0, none⟩) 2 2) (endS (x : Int) (3 * (i : Int))) from src2 (by rw [← hwE, ← hszU]; unfold World.alloc; simp))
              have S2 := hid (S1.out.below hbE)
              have HRE := hid (HROW3.out.below hbE)
              have HB := hid (HB3.out.trans (hbE.mono HB3.out.size))
              have A1 := hid (H.apart (.slice (some a1) 2 c1) (.slice (some ⟨wr.heap.size, 0, none⟩) 2 2) (rowL L (3 * (i : Int))) (upL (x : Int) (3 * (i : Int))) wE S2.out SU.out o1 o2)
              have A2 := hid (fun W h1 h2 => H.apart (.slice (some a1) 2 c1) (.slice (some ⟨wr.heap.size + 1, 0, none⟩) 2 2) (rowL L (3 * (i : Int))) (endS (x : Int) (3 * (i : Int))) W h1 h2 o1 o3)
              rw [ap1] at A1
              rw [ap2] at A2
              have y0 := cell_below' u0 hbE
              obtain ⟨w9, hw9⟩ : ∃ W : World, W = wr := ⟨_, rfl⟩
              clear o1 o2 o3 ap1 ap2 hbU hbE' hbE u0 HROW3 HB3 S1 SU hw9 w9
              rcases (show (x = 0 ∧ ¬ x = L) ∨ (¬ x = 0 ∧ x = L) ∨ (¬ x = 0 ∧ ¬ x = L) by omega) with ⟨g1, g2⟩ | ⟨g1, g2⟩ | ⟨g1, g2⟩
              · have kD : decide ((x : Int) = 0 ∨ (x : Int) = (L : Int)) = true := decide_eq_true (by omega)
                rw [kD] at A2
                have kx : ((x : Int) == 0) = true := by simp; omega
                have kL : ((x : Int) == (L : Int)) = false := by simp; omega
                clear g1 g2 kD
                go_wp2_with (first
                  | (go_at_call 5; refine A1.out.mono ?_; rintro e w3 ⟨rfl, hb3⟩; have hb3' := hb3; have z0 := cell_below' y0 hb3; have S3 := hid (S2.out.below hb3); have E3 := hid (SE.out.below hb3); have R3 := hid (HRE.out.below hb3); have B3 := hid (HB.out.trans (hb3.mono HB.out.size)); clear hb3 hb3' A1)
                  | (go_at_call 5; refine (A2.out _ S3.out E3.out).mono ?_; rintro e w4 ⟨rfl, hb4⟩; have R4 := hid (R3.out.below hb4); have B4 := hid (B3.out.trans (hb4.mono B3.out.size)); clear hb4 A2))
                go_roundw
                case rel => exact ⟨i + 1, by omega, by go_num, R4.out, B4.out⟩
                case measure => simp [intOf]; omega
              · have kD : decide ((x : Int) = 0 ∨ (x : Int) = (L : Int)) = true := decide_eq_true (by omega)
                rw [kD] at A2
                have kx : ((x : Int) == 0) = false := by simp; omega
                have kL : ((x : Int) == (L : Int)) = true := by simp; omega
                clear g1 g2 kD
                go_wp2_with (first
                  | (go_at_call 5; refine A1.out.mono ?_; rintro e w3 ⟨rfl, hb3⟩; have hb3' := hb3; have z0 := cell_below' y0 hb3; have S3 := hid (S2.out.below hb3); have E3 := hid (SE.out.below hb3); have R3 := hid (HRE.out.below hb3); have B3 := hid (HB.out.trans (hb3.mono HB.out.size)); clear hb3 hb3' A1)
                  | (go_at_call 5; refine (A2.out _ S3.out E3.out).mono ?_; rintro e w4 ⟨rfl, hb4⟩; have R4 := hid (R3.out.below hb4); have B4 := hid (B3.out.trans (hb4.mono B3.out.size)); clear hb4 A2))
                go_roundw
                case rel => exact ⟨i + 1, by omega, by go_num, R4.out, B4.out⟩
                case measure => simp [intOf]; omega
              · have kD : decide ((x : Int) = 0 ∨ (x : Int) = (L : Int)) = false := decide_eq_false (by omega)
                rw [kD] at A2
                have kx : ((x : Int) == 0) = false := by simp; omega
                have kL : ((x : Int) == (L : Int)) = false := by simp; omega
                clear g1 g2 kD
                go_wp2_with (first
                  | (go_at_call 5; refine A1.out.mono ?_; rintro e w3 ⟨rfl, hb3⟩; have hb3' := hb3; have z0 := cell_below' y0 hb3; have S3 := hid (S2.out.below hb3); have E3 := hid (SE.out.below hb3); have R3 := hid (HRE.out.below hb3); have B3 := hid (HB.out.trans (hb3.mono HB.out.size)); clear hb3 hb3' A1)
                  | (go_at_call 5; refine (A2.out _ S3.out E3.out).mono ?_; rintro e w4 ⟨rfl, hb4⟩; have R4 := hid (R3.out.below hb4); have B4 := hid (B3.out.trans (hb4.mono B3.out.size)); clear hb4 A2))
                go_roundw
                case rel => exact ⟨i + 1, by omega, by go_num, R4.out, B4.out⟩
                case measure => simp [intOf]; omega
        · have hiI : ¬ (i : Int) < (k : Int) := by omega
          have HB := HB2
          clear HB2
          go_wp2_with (first
            | (go_at_call 6; refine (lineAwake_any H _).mono ?_; rintro e w5 ⟨rfl, hb5⟩; replace HB := hid (HB.out.trans (hb5.mono HB.out.size)); clear hb5))
          go_ret
          exact ⟨rfl, HB.out⟩

end Go.Proofs.Ytlnjjkgjknheiaa
