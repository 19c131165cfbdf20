/-
  Layer 15: FaceNests, the walk.
-/
import Derived.BigGuardPart
import Derived.Test.YtdjbjadaldndcaaGreatMX
namespace Go.Proofs.YtdjbjadaldndcaaGreat
open Go.RowKit Go.Shelf Go.Sort Go.Maps

/-- A long region's list comes as two joined. -/
theorem wpList_id {P : Program} {ops : Array Oper} {Q : Exit → Act → World → Prop} {a : Act} {w : World} {l : List Oper} (h : wpList P ops Q l a w) : wpList P ops Q l a w := h
theorem nestL_zero {N : Nat} (h : 0 < N) : (nestL N).getD 0 [] = nestB 0 := by
  cases N with
  | zero => exact absurd h (by omega)
  | succ N => unfold nestL; rw [List.range_succ_eq_map]; rfl
theorem nestB_ok : okL (nestB 0) = true := by decide +kernel
theorem plan_cell {W : World} {B : Nat} {nv ev : Value} (h : W.heap[B]? = some (.cells #[nv, ev] 25 (0, 0))) : W.cell? ⟨B, 0, none⟩ = some nv ∧ W.cell? ⟨B, 1, none⟩ = some ev ∧ W.frozen? ⟨B, 0, none⟩ = false ∧ W.frozen? ⟨B, 1, none⟩ = false := by
  refine ⟨?_, ?_, ?_, ?_⟩ <;> simp [World.cell?, World.frozen?, h]

set_option maxRecDepth 100000 in
set_option maxHeartbeats 12800000 in
theorem faceNests_walk (z : Int) (w : World) :
    Calls Tryz.prog 3 #[.int .i64 z] w fun e w' => e = .returned (.bool true) ∧ Below w.heap.size w w' := by
  obtain ⟨p, q, hp, hq, hp256, hq12⟩ := nst255 z
  obtain ⟨N, hN⟩ : ∃ N, q + 1 = N := ⟨_, rfl⟩
  have hwq : IntKind.i64.wrap ((q : Int) + 1) = (N : Int) := by rw [IntKind.wrap_i64]; omega
  have hNw : IntKind.i64.wrap ((N : Int) + 1) = (N : Int) + 1 := by rw [IntKind.wrap_i64]; omega
  have K := nest_all hq12
  rw [hN] at K
  have HKA := hid K
  have HNB := hid (show 1 ≤ N ∧ N ≤ 12 by omega)
  clear K hN
  go_enter Tryz.func3, Tryz.ntmps3
  go_wp2
  obtain ⟨W0, hW0⟩ : ∃ W0, w.alloc (.cells #[.slice none 0 0, .slice none 0 0] 25) = W0 := ⟨_, rfl⟩
  rw [hW0]
  have HW0 := hid (show PlN w w.heap.size (.slice none 0 0) (.slice none 0 0) [] [] [] W0 by rw [← hW0]; exact PlN.start w)
  clear hW0
  go_loopw [4, 5, 6] (fun iv _ _ wr => ∃ (i : Nat) (xs : List ER) (nv ev : Value), i ≤ N ∧ iv = .int .i64 (i : Int) ∧ xs.map bare = nestX i ∧ PlN w w.heap.size nv ev (nestN i) xs (nestL i) wr) (fun iv _ _ _ => N - (intOf iv).toNat)
  case atStart => exact ⟨0, [], _, _, Nat.zero_le _, rfl, rfl, HW0.out⟩
  case round =>
    obtain ⟨i, xs, nv, ev, hi, rfl, hx, hP⟩ := hrel
    clear HW0 hwq hp hq
    by_cases hlt : i < N
    · have hltI : (i : Int) < (N : Int) := by omega
      have hN12 := HNB.out.2
      have hw1 : IntKind.i64.wrap (2 * (i : Int)) = 2 * (i : Int) := by rw [IntKind.wrap_i64]; omega
      have hw2 : IntKind.i64.wrap (60 - 2 * (i : Int)) = 60 - 2 * (i : Int) := by rw [IntKind.wrap_i64]; omega
      have hw3 : IntKind.i64.wrap ((i : Int) + 1) = (i : Int) + 1 := by rw [IntKind.wrap_i64]; omega
      have R := hP.round (Nat.le_refl _) (by rw [nestN_len]; omega) (by rw [nest_xlen hx]; omega) ⟨(i : Int) + 1, 2 * (i : Int), 2 * (i : Int), -1⟩ ((i : Int) + 1) ((i : Int) + 1) ((i : Int) + 1) ((i : Int) + 1) (i : Int) (nestB i) (L := 5) rfl
      rw [nestN_len, nest_xlen hx] at R
      obtain ⟨no, nc, eo, ec, ao, cap, W1, rfl, rfl, hb0, run1, hb1, V1, hV1, hbV1, P1, hP1, hbP1, ao2, cap2, W2, run2, hb2, V2, hV2, hfin⟩ := R
      subst hV1 hP1
      obtain ⟨a0, a1, _, _⟩ := plan_cell hb0
      obtain ⟨b0, b1, b2, _⟩ := plan_cell hb1
      obtain ⟨_, d1, _, _⟩ := plan_cell hbV1
      obtain ⟨_, e1, _, e3⟩ := plan_cell hb2
      have HR1 := hid run1
      have HR2 := hid run2
      have HF := hid (And.intro hfin (And.intro hx hV2))
      simp only [World.size_alloc, World.size_setCell] at HR1 HR2
      clear run1 run2 hfin hP hb0 hb1 hbV1 hbP1 hb2 hx hV2
      go_wp2_with (first
        | (at_builtin; refine wpList_append_run rfl (.tmp 28) (.tmp 35) 22 rfl rfl rfl HR1.out ?_; clear HR1)
        | (at_builtin; refine wpList_append_run rfl (.tmp 39) (.tmp 66) 23 rfl rfl rfl HR2.out ?_; clear HR2))
      go_roundw
      case rel =>
        obtain ⟨h1, h2, h3⟩ := HF.out
        rw [← nestN_succ, ← nestL_succ, ← h3] at h1
        exact ⟨i + 1, _, _, _, by omega, by go_num, by rw [List.map_append, h2, nestX_succ]; rfl, h1⟩
      case measure => simp [intOf]; omega
    · obtain rfl : i = N := by omega
      have hN12 := HNB.out
      have hxl := nest_xlen hx
      have E := hP.ends (by omega) (nest_rise hx) (fun x hm => by obtain ⟨k, h1, h2, _⟩ := nest_of_mem hx hm; omega) (fun x hm => by obtain ⟨k, h1, _, h2, h3⟩ := nest_of_mem hx hm; omega) (nestL_short i) (by rw [nestN_len]; omega)
      rw [nestN_len, hxl] at E
      obtain ⟨b, ao, cap, nb, no, nc, rfl, rfl, hE, hN', h0⟩ := E
      have hbx := hP.plb.box
      have hbel := hP.plb.below
      have c0 : wr.cell? ⟨w.heap.size, 0, none⟩ = some (.slice no i nc) := (plan_cell hbx).1
      have c1 : wr.cell? ⟨w.heap.size, 1, none⟩ = some (.slice ao i cap) := (plan_cell hbx).2.1
      obtain ⟨k1, k2, k3, k4, k5⟩ := HKA.out
      have hS : Same0 xs (nestL i) (nestX i) := ⟨hx, k1⟩
      have hPt : ∀ r ∈ ringsL xs (nestL i), (ringPtsF xs (nestL i) r).length ≤ 4096 := fun r hr => by rw [hS.rings] at hr; rw [hS.pts]; exact k2 r hr
      have HRG := hid (regions_any (cap := cap) (nc := nc) hE hN' h0 (fun x hm => by obtain ⟨k, hk⟩ := List.mem_iff_getElem?.1 hm; have := nestN_get hk; omega) (nestN_rise i) hPt (M := i) (by rw [hS.borders]; exact k3) (by omega))
      rw [hS.outers, hS.borders] at HRG
      have HAT := hid (fun W (hW : Below wr.heap.size wr W) (k : Nat) (hk : k ≤ i) => (faceAt_any (cap := cap) (nc := nc) (hE.below hW) (hN'.below hW) hPt (by rw [hS.borders, k3]; omega) (2 * (k : Int) - 1) 30).mono (R' := fun e w' => e = .returned (.tuple #[.int .i64 (k : Int), .bool true]) ∧ Below W.heap.size W w') (fun e w' h => by rw [hS.outers, (k4 k hk).free, (k4 k hk).at_] at h; exact h))
      have HPA := hid (fun W (hW : Below wr.heap.size wr W) => parts_any (cap := cap) (hE.below hW) no i nc (Ks := nestK i) (nestK_nodup i) (fun x hm => by obtain ⟨k, h1, _, h2, h3⟩ := nest_of_mem hx hm; rw [h2, h3]; exact ⟨nestK_mem h1, nestK_mem h1⟩) (by unfold nestK; rw [List.length_map, List.length_range]; omega) (nestK_bd (by omega)))
      rw [hS.parts, k5] at HPA
      have HKS := hid k4
      obtain ⟨x0, hx0⟩ : ∃ x0, xs[0]? = some x0 := ⟨_, List.getElem?_eq_getElem (show 0 < xs.length by omega)⟩
      have hao := hE.at' (by omega)
      subst hao
      have f0 := (hE.cells 0 x0 hx0)
      have HL0 := hid (hE.lines 0 x0 hx0).1
      rw [nestL_zero (by omega)] at HL0
      have HC := hid (And.intro c0 c1)
      have HBEL := hid hbel
      clear k1 k2 k3 k4 k5 hS hPt hE hN' h0 hP hbx hbel hx hxl hx0 hlt HKA hi
      go_wp2_with (first
        | (go_at_call 7; refine HRG.out.mono ?_; rintro e w1 ⟨⟨v, rfl, G, wS, zs, IV, NV, rfl, hzs, hI, hbd⟩, hb1⟩; have HZ := hid (And.intro hzs (And.intro hI hbd)); have d0 := cell_below c0 hb1 (lt_of_cell c0); have d1 := cell_below c1 hb1 (lt_of_cell c1); have H1 := hid hb1; clear HRG hzs hI hbd hb1)
        | (go_at_call 8; refine (HPA.out _ H1.out).mono ?_; rintro e w2 ⟨rfl, hb2⟩; have H2 := hid hb2; clear HPA hb2))
      obtain ⟨WP, rfl⟩ : ∃ WP, WP = wr := ⟨_, rfl⟩
      clear c0 c1
      go_loopw [8, 9, 10, 11] (fun iv _ _ _ wr => ∃ k : Nat, k ≤ i + 1 ∧ iv = .int .i64 (k : Int) ∧ Below w1.heap.size w1 wr) (fun iv _ _ _ _ => i + 1 - (intOf iv).toNat)
      case atStart => exact ⟨0, Nat.zero_le _, rfl, H2.out⟩
      case round =>
        obtain ⟨k, hk, rfl, hbq⟩ := hrel
        have q0 := cell_below d0 hbq (lt_of_cell d0)
        have q1 := cell_below d1 hbq (lt_of_cell d1)
        have HBQ := hid hbq
        have HBP := hid (H1.out.trans (hbq.mono H1.out.size))
        clear d0 d1 H2
        by_cases hki : k ≤ i
        · have hkiI : (k : Int) ≤ (i : Int) := by omega
          have hw1 : IntKind.i64.wrap (2 * (k : Int)) = 2 * (k : Int) := by rw [IntKind.wrap_i64]; omega
          have hw2 : IntKind.i64.wrap (2 * (k : Int) - 1) = 2 * (k : Int) - 1 := by rw [IntKind.wrap_i64]; omega
          have hw3 : IntKind.i64.wrap ((k : Int) + 1) = (k : Int) + 1 := by rw [IntKind.wrap_i64]; omega
          have hw4 : IntKind.i64.wrap (-((k : Int) + 1)) = -((k : Int) + 1) := by rw [IntKind.wrap_i64]; omega
          have a0 : ∀ o, (wr.alloc o).cell? ⟨w.heap.size, 0, none⟩ = some (.slice no i nc) := fun o => cell_below q0 ((Below.refl _ wr).alloc (Nat.le_refl _) o) (lt_of_cell q0)
          have a1 : ∀ o, (wr.alloc o).cell? ⟨w.heap.size, 1, none⟩ = some (.slice (some ⟨b, 0, none⟩) i cap) := fun o => cell_below q1 ((Below.refl _ wr).alloc (Nat.le_refl _) o) (lt_of_cell q1)
          have HKI := hid hki
          have hQ := HKS.out k hki
          obtain ⟨hzs, hI, hbd⟩ := HZ.out
          by_cases hk0 : 0 < k
          · have hk0I : 0 < (k : Int) := by omega
            obtain ⟨bb, hb1, hb2⟩ := hQ.out hk0
            obtain ⟨g, cp, r0, r1⟩ := rg_outer hzs hI hbd (k := k) (by omega) hb1 hb2
            have s0 := cell_below r0 hbq (lt_of_cell r0)
            have s1 := cell_below r1 hbq (lt_of_cell r1)
            by_cases hkn : k < i
            · have hknI : (k : Int) < (i : Int) := by omega
              have hkne : ((k : Int) == (i : Int)) = false := by rw [beq_eq_false_iff_ne]; omega
              have hkneN : ¬ k = i := by omega
              obtain ⟨bc, hb3, hb4⟩ := hQ.inn hkn
              obtain ⟨g1, cp1, g2, cp2, r2, r3, r4⟩ := rg_inner hzs hI hbd (k := k) (by omega) hb3 hb4
              have s2 := cell_below r2 hbq (lt_of_cell r2)
              have s3 := cell_below r3 hbq (lt_of_cell r3)
              have s4 := cell_below r4 hbq (lt_of_cell r4)
              clear hzs hI hbd hQ hb1 hb2 hb3 hb4 r0 r1 r2 r3 r4 hbq HZ HKS
              repeat' (first | go_big_skip | (with_reducible apply wpList_id; simp only [List.append_eq, List.cons_append, List.nil_append]) | (go_at_call 9; generalize hV : World.alloc _ _ = V; have hbV := hid (show Below wr.heap.size wr V by rw [← hV]; exact (Below.refl _ wr).alloc (Nat.le_refl _) _); refine (HAT.out _ (HBP.out.trans (hbV.out.mono HBP.out.size)) k HKI.out).mono ?_; rintro e w3 ⟨rfl, hb3⟩; have H3 := hid (HBQ.out.trans ((hbV.out.trans (hb3.mono hbV.out.size)).mono HBQ.out.size)); clear hV hbV hb3) | go_values | go_skip | go_guarded | go_step | go_upon | go_back)
              go_wp2
              go_roundw
              case rel => exact ⟨k + 1, by omega, by go_num, H3.out⟩
              case measure => simp [intOf]; omega
            · obtain rfl : k = i := by omega
              obtain ⟨io, ic, r2⟩ := rg_none hzs hI (k := k) (by omega) (hQ.none (Nat.le_refl _))
              have s2 := cell_below r2 hbq (lt_of_cell r2)
              clear hzs hI hbd hQ hb1 hb2 r0 r1 r2 hbq HZ HKS
              repeat' (first | go_big_skip | (with_reducible apply wpList_id; simp only [List.append_eq, List.cons_append, List.nil_append]) | (go_at_call 9; generalize hV : World.alloc _ _ = V; have hbV := hid (show Below wr.heap.size wr V by rw [← hV]; exact (Below.refl _ wr).alloc (Nat.le_refl _) _); refine (HAT.out _ (HBP.out.trans (hbV.out.mono HBP.out.size)) k HKI.out).mono ?_; rintro e w3 ⟨rfl, hb3⟩; have H3 := hid (HBQ.out.trans ((hbV.out.trans (hb3.mono hbV.out.size)).mono HBQ.out.size)); clear hV hbV hb3) | go_values | go_skip | go_guarded | go_step | go_upon | go_back)
              go_wp2
              go_roundw
              case rel => exact ⟨k + 1, by omega, by go_num, H3.out⟩
              case measure => simp [intOf]
          · have hk0I : ¬ 0 < (k : Int) := by omega
            have hk0B : decide (0 < (k : Int)) = false := decide_eq_false hk0I
            have hkn : k < i := by omega
            have hknI : (k : Int) < (i : Int) := by omega
            have hkne : ((k : Int) == (i : Int)) = false := by rw [beq_eq_false_iff_ne]; omega
            have hkneN : ¬ k = i := by omega
            obtain ⟨bc, hb3, hb4⟩ := hQ.inn hkn
            obtain ⟨g1, cp1, g2, cp2, r2, r3, r4⟩ := rg_inner hzs hI hbd (k := k) (by omega) hb3 hb4
            have s2 := cell_below r2 hbq (lt_of_cell r2)
            have s3 := cell_below r3 hbq (lt_of_cell r3)
            have s4 := cell_below r4 hbq (lt_of_cell r4)
            clear hzs hI hbd hQ hb3 hb4 r2 r3 r4 hbq HZ HKS
            repeat' (first | go_big_skip | (with_reducible apply wpList_id; simp only [List.append_eq, List.cons_append, List.nil_append]) | (go_at_call 9; generalize hV : World.alloc _ _ = V; have hbV := hid (show Below wr.heap.size wr V by rw [← hV]; exact (Below.refl _ wr).alloc (Nat.le_refl _) _); refine (HAT.out _ (HBP.out.trans (hbV.out.mono HBP.out.size)) k HKI.out).mono ?_; rintro e w3 ⟨rfl, hb3⟩; have H3 := hid (HBQ.out.trans ((hbV.out.trans (hb3.mono hbV.out.size)).mono HBQ.out.size)); clear hV hbV hb3) | go_values | go_skip | go_guarded | go_step | go_upon | go_back)
            go_wp2
            go_roundw
            case rel => exact ⟨k + 1, by omega, by go_num, H3.out⟩
            case measure => simp [intOf]; omega
        · have hkiI : ¬ (k : Int) ≤ (i : Int) := by omega
          have g0 := cell_below (cell_below f0.2.2.2.1 H1.out (lt_of_cell f0.1)) hbq (Nat.lt_of_lt_of_le (lt_of_cell f0.1) H1.out.size)
          simp only [Nat.zero_mul, Nat.add_zero, Nat.zero_add] at g0
          have hi0 : 0 < i := by omega
          have hi0I : (0 : Int) < (i : Int) := by omega
          have HOK := hid (refOk12_any (.slice x0.lo x0.ll x0.lc) (nestB 0) wr ((HL0.out.below H1.out).below hbq).pts (by decide))
          rw [nestB_ok] at HOK
          clear f0 hbq HL0 HAT HZ HKS
          go_wp2_with (first
            | (go_at_call 10; refine HOK.out.mono ?_; rintro e w4 ⟨rfl, hb4⟩; have H4 := hid (HBP.out.trans (hb4.mono HBP.out.size)); clear hb4 HOK)
            | (go_at_call 11; refine (faceAwake_any _).mono ?_; rintro e w5 ⟨rfl, hb5⟩; have H5 := hid (H4.out.trans (hb5.mono H4.out.size)); clear hb5))
          go_ret
          exact ⟨rfl, HBEL.out.trans (H5.out.mono HBEL.out.size)⟩
end Go.Proofs.YtdjbjadaldndcaaGreat
