/-
  Layer 14: PlanStars, the walk.
-/
import Derived.Test.YtjfnbgjnmjdeeaaPLAwake
namespace Go.Proofs.Ytjfnbgjnmjdeeaa
open Go.RowKit Go.Shelf Go.Sort

set_option maxRecDepth 100000 in
set_option maxHeartbeats 12800000 in
theorem planStars_walk (wv : Int) (w : World) :
    Calls Try.prog 3 #[.int .i64 wv] w fun e w' => e = .returned (.bool true) ∧ Below w.heap.size w w' := by
  obtain ⟨q, hq⟩ : ∃ q : Nat → Bool, q = fun j => !(bits BinOp.and IntKind.i64 (wv / 2 ^ j) 1 == 0) := ⟨_, rfl⟩
  obtain ⟨r, hr⟩ : ∃ r : Nat → Bool, r = fun j => bits BinOp.and IntKind.i64 (wv / 2 ^ (16 + j)) 1 == 1 := ⟨_, rfl⟩
  have HQ := hid (And.intro hq hr)
  clear hq hr
  go_enter Try.func3, Try.ntmps3
  go_wp2
  obtain ⟨W0, hW0⟩ : ∃ W0, ((w.alloc (.cells #[.int .i64 2, .int .i64 0, .int .i64 4, .int .i64 2, .int .i64 2, .int .i64 2, .int .i64 2, .int .i64 4, .int .i64 0, .int .i64 2, .int .i64 (-2), .int .i64 4, .int .i64 (-2), .int .i64 2, .int .i64 (-4), .int .i64 2, .int .i64 (-2), .int .i64 0, .int .i64 (-4), .int .i64 (-2), .int .i64 (-2), .int .i64 (-2), .int .i64 (-2), .int .i64 (-4), .int .i64 0, .int .i64 (-2), .int .i64 2, .int .i64 (-4), .int .i64 2, .int .i64 (-2), .int .i64 4, .int .i64 (-2)] 23)).alloc (.cells #[.int .i64 1, .int .i64 0, .int .i64 0, .int .i64 (-1)] 26)).alloc (.cells #[.slice (some ⟨w.heap.size + 1, 0, none⟩) 1 1, .slice none 0 0] 30) = W0 := ⟨_, rfl⟩
  rw [hW0]
  have HW0 := hid (show PlB w (w.heap.size + 2) (.slice (some ⟨w.heap.size + 1, 0, none⟩) 1 1) (.slice none 0 0) 1 [] [] W0 ∧ W0.heap[w.heap.size]? = some (.cells cells16.toArray 23 (0, 0)) by rw [← hW0]; exact star_start w cells16.toArray)
  clear hW0
  go_loopw [5, 6, 7, 8] (fun idv iv _ _ wr => ∃ (i : Nat) (xs : List ER) (ls : List (List Pp)) (nv ev : Value) (ia : Option Addr) (ic : Nat), i ≤ 16 ∧ iv = .int .i64 (i : Int) ∧ idv = .slice ia (starS q r i).length ic ∧ NRow wr w.heap.size (.slice ia (starS q r i).length ic) ((starS q r i).map Spk.way) ∧ PlB w (w.heap.size + 2) nv ev ((starS q r i).length + 1) xs ls wr ∧ StOk (starS q r i) xs ls ∧ wr.heap[w.heap.size]? = some (.cells cells16.toArray 23 (0, 0))) (fun _ iv _ _ _ => 16 - (intOf iv).toNat)
  case atStart => exact ⟨0, [], [], _, _, none, 0, Nat.zero_le _, rfl, rfl, NRow.nil _ _, HW0.out.1, ⟨rfl, rfl, fun k x s hx => (by cases hx)⟩, HW0.out.2⟩
  case round =>
    obtain ⟨i, xs, ls, nv, ev, ia, ic, hi, rfl, rfl, hrow, hP, hSt, hall⟩ := hrel
    by_cases hlt : i < 16
    · have hltI : (i : Int) < 16 := by omega
      have hiw2 : IntKind.i64.wrap ((i : Int) + 2) = (i : Int) + 2 := by rw [IntKind.wrap_i64]; omega
      obtain ⟨dx, dy, hd⟩ : ∃ dx dy, dirAt i = (dx, dy) := ⟨_, _, rfl⟩
      obtain ⟨a0, a1⟩ := cells16_at hall hlt
      rw [hd] at a0 a1
      dsimp only at a0 a1
      obtain ⟨K, hK⟩ : ∃ K, (starS q r i).length = K := ⟨_, rfl⟩
      rw [hK] at hrow hP ⊢
      clear HW0
      cases hb : (bits BinOp.and IntKind.i64 (wv / 2 ^ i) 1 == 0) with
      | true =>
        have HX := hid (And.intro hrow (And.intro hP (And.intro hSt (And.intro hall hK))))
        have hqi : q i = false := by rw [HQ.out.1]; dsimp only; rw [hb]; rfl
        have HQI := hid hqi
        clear hrow hP hSt hall hK hd hqi a0 a1
        go_wp2
        go_roundw
        case rel =>
          obtain ⟨h1, h2, h3, h4, h5⟩ := HX.out
          refine ⟨i + 1, xs, ls, nv, ev, ia, ic, by omega, by go_num, ?_⟩
          rw [starS_no HQI.out, h5]
          exact ⟨rfl, h1, h2, h3, h4⟩
        case measure => simp [intOf]; omega
      | false =>
        obtain ⟨cs, hnd⟩ := hP.nodes
        obtain ⟨no, nc, hno⟩ := own_form hnd
        subst hno
        have hPd := hP.fresh (Below.refl _ wr).drew
        obtain ⟨ao2, cap2, W1, hrun, hbx1, hP1, hk1⟩ := hPd.addNode (by omega) (by have := starS_len q r i; omega) ((i : Int) + 2) dx dy (-1)
        have hbx := hP.box
        have e0 : wr.cell? ⟨w.heap.size + 2, 0, none⟩ = some (.slice no (K + 1) nc) := by simp [World.cell?, hbx]
        have e0a : ∀ o, (wr.alloc o).cell? ⟨w.heap.size + 2, 0, none⟩ = some (.slice no (K + 1) nc) := fun o => by
          have q := (((Below.refl _ wr).alloc (Nat.le_refl _) o).block _ (lt_of_heap hbx)).trans hbx
          simp [World.cell?, q]
        have e1 : W1.cell? ⟨w.heap.size + 2, 0, none⟩ = some (.slice no (K + 1) nc) := by
          have q := hbx1.trans (show wr.drew.heap[w.heap.size + 2]? = _ from hbx)
          simp [World.cell?, q]
        have f1 : W1.frozen? ⟨w.heap.size + 2, 0, none⟩ = false := by
          have q := hbx1.trans (show wr.drew.heap[w.heap.size + 2]? = _ from hbx)
          simp [World.frozen?, q]
        have HRUN := hid hrun
        have HP1 := hid hP1
        have HK1 := hid hk1
        have HX := hid (And.intro hrow (And.intro hP (And.intro hSt (And.intro hall (And.intro hK hd)))))
        clear hrow hP hSt hall hK hd hPd hrun hP1 hk1 hnd hbx hbx1
        go_wp2
        apply wp_one (V := W1.setCell ⟨w.heap.size + 1 + 1, 0, none⟩ (.slice ao2 (K + 1 + 1) cap2))
        · refine wp_region_noPanic ?_
          go_region_law (first
            | (refine stepAppend rfl (.tmp 41) (.tmp 49) 27 rfl rfl rfl HRUN.out ?_))
          all_goals exact NoPanic.normal ⟨rfl, rfl, rfl⟩
        obtain ⟨V, hV⟩ : ∃ V, W1.setCell ⟨w.heap.size + 1 + 1, 0, none⟩ (.slice ao2 (K + 1 + 1) cap2) = V := ⟨_, rfl⟩
        have HPV := hid (show PlB w (w.heap.size + 2) (.slice ao2 (K + 1 + 1) cap2) ev (K + 1 + 1) xs ls V by rw [← hV]; exact HP1.out)
        have HKV := hid (show ∀ (k : Nat) (c : Array Value) (t : TypeId), wr.heap[k]? = some (.cells c t (0, 0)) → t ≠ 26 → t ≠ 30 → V.heap[k]? = some (.cells c t (0, 0)) by rw [← hV]; exact HK1.out)
        rw [hV]
        have b0 := (cells16_at (HKV.out _ _ _ HX.out.2.2.2.1 (by decide) (by decide)) hlt).1
        have b1 := (cells16_at (HKV.out _ _ _ HX.out.2.2.2.1 (by decide) (by decide)) hlt).2
        rw [HX.out.2.2.2.2.2] at b0 b1
        dsimp only at b0 b1
        have b2 : ∀ o, (V.alloc o).cell? ⟨w.heap.size, i * 2, none⟩ = some (.int .i64 dx) := fun o => cell_below b0 ((Below.refl _ V).alloc (Nat.le_refl _) o) (lt_of_cell b0)
        have b3 : ∀ o, (V.alloc o).cell? ⟨w.heap.size, i * 2 + 1, none⟩ = some (.int .i64 dy) := fun o => cell_below b1 ((Below.refl _ V).alloc (Nat.le_refl _) o) (lt_of_cell b1)
        have b4 : ∀ o1 o2, ((V.alloc o1).alloc o2).cell? ⟨w.heap.size, i * 2, none⟩ = some (.int .i64 dx) := fun o1 o2 => cell_below (b2 o1) ((Below.refl _ _).alloc (Nat.le_refl _) o2) (lt_of_cell (b2 o1))
        have b5 : ∀ o1 o2, ((V.alloc o1).alloc o2).cell? ⟨w.heap.size, i * 2 + 1, none⟩ = some (.int .i64 dy) := fun o1 o2 => cell_below (b3 o1) ((Below.refl _ _).alloc (Nat.le_refl _) o2) (lt_of_cell (b3 o1))
        have hiw1 : IntKind.i64.wrap ((i : Int) + 1) = (i : Int) + 1 := by rw [IntKind.wrap_i64]; omega
        have hiw16 : IntKind.i64.wrap (16 + (i : Int)) = 16 + (i : Int) := by rw [IntKind.wrap_i64]; omega
        have hneg16 : ¬ (16 + (i : Int)) < 0 := by omega
        have hnat16 : (16 + (i : Int)).toNat = 16 + i := by omega
        have hqi : q i = true := by rw [HQ.out.1]; dsimp only; rw [hb]; rfl
        have HQI := hid hqi
        have hrowV : NRow V w.heap.size (.slice ia K ic) ((starS q r i).map Spk.way) := own_keep HX.out.1 fun k c hk' => (HKV.out k c _ hk' (by decide) (by decide)).trans hk'.symm
        have HRV := hid hrowV
        have hneg1 : IntKind.i64.wrap (-((i : Int) + 1)) = -((i : Int) + 1) := by rw [IntKind.wrap_i64]; omega
        have HAV := hid (HKV.out _ _ _ HX.out.2.2.2.1 (by decide) (by decide))
        have HSL := hid (starS_len q r i)
        clear hV HP1 HK1 HRUN e0 e0a e1 f1 a0 a1 hqi hrowV
        cases hb2 : (bits BinOp.and IntKind.i64 (wv / 2 ^ (16 + i)) 1 == 1) with
        | false =>
          obtain ⟨VX, hVX⟩ : ∃ VX, (V.alloc (.cells #[.int .i64 0, .int .i64 0, .int .i64 dx, .int .i64 dy] 23)).alloc (.cells #[.int .i64 ((i : Int) + 1), .int .i64 1, .int .i64 ((i : Int) + 2), .slice (some ⟨V.heap.size, 0, none⟩) 2 2, .int .i64 0, .int .i64 0] 33) = VX := ⟨_, rfl⟩
          have hbV : Below V.heap.size V VX := by rw [← hVX]; exact ((Below.refl _ V).alloc (Nat.le_refl _) _).alloc (by simp) _
          have hxl := HX.out.2.2.1.len
          have hKK := HX.out.2.2.2.2.1
          obtain ⟨eo, ec, ao3, cap3, W4, ia4, ic4, W6, hev, run1, g0, g1, g2, run2, hrow6, hP6, hall6⟩ := (HPV.out.fresh hbV).edgeAndId (by omega) (by have := HSL.out; omega) ⟨(i : Int) + 1, 1, (i : Int) + 2, some ⟨V.heap.size, 0, none⟩, 2, 2, 0, 0⟩ [(0, 0), (dx, dy)] (g := V.heap.size) rfl rfl rfl (by
            rw [← hVX]
            have q := (Boxed.new V 3 (.int .i64 0))
            refine (((Below.refl _ (V.alloc (.cells #[.int .i64 0, .int .i64 0, .int .i64 dx, .int .i64 dy] 23))).alloc (Nat.le_refl _) _).block _ (by simp)).trans ?_
            unfold World.alloc
            simp
            rfl) (NRow.below HRV.out hbV) (by rw [List.length_map]; have := HSL.out; omega) ((i : Int) + 1) ((hbV.block _ (lt_of_heap HAV.out)).trans HAV.out)
          rw [List.length_map, hKK] at run2 hrow6
          rw [hxl, hKK] at run1 run2 hP6 hev
          subst hev
          have HR1 := hid run1
          have HR2 := hid run2
          have HFIN := hid (And.intro hrow6 (And.intro hP6 hall6))
          have HXL := hid (And.intro hxl hKK)
          subst hVX
          simp only [World.size_alloc] at HR1
          simp only [World.size_setCell] at HR2
          clear run1 run2 hrow6 hP6 hall6 hbV HRV HAV HPV hxl hKK
          go_wp2_with (first
            | (at_builtin; refine wpList_append_run rfl (.tmp 87) (.tmp 89) 28 rfl rfl rfl HR1.out ?_; clear HR1)
            | (at_builtin; refine wpList_append_run rfl (.tmp 92) (.tmp 94) 31 rfl rfl rfl HR2.out ?_; clear HR2))
          go_roundw
          case rel =>
            obtain ⟨h1, h2, h3⟩ := HFIN.out
            have hri : r i = false := by rw [HQ.out.2]; exact hb2
            have hw1 : (spkOf r i).way = (i : Int) + 1 := by unfold spkOf; dsimp only; rw [hri]; rfl
            have hd1 : (spkOf r i).dir = (dx, dy) := HX.out.2.2.2.2.2
            refine ⟨i + 1, xs ++ [⟨(i : Int) + 1, 1, (i : Int) + 2, some ⟨V.heap.size, 0, none⟩, 2, 2, 0, 0⟩], ls ++ [[(0, 0), (dx, dy)]], .slice ao2 (K + 1 + 1) cap2, .slice ao3 (K + 1) cap3, ia4, ic4, by omega, by go_num, ?_⟩
            rw [starS_yes HQI.out, List.length_append, List.map_append, HXL.out.2]
            refine ⟨rfl, ?_, h2, HX.out.2.2.1.snoc ⟨by unfold spkOf; dsimp only; omega, .inl ⟨by rw [hw1]; unfold spkOf; dsimp only; omega, rfl, rfl, by rw [hd1]⟩⟩, h3⟩
            show NRow W6 w.heap.size (.slice ia4 (K + 1) ic4) ((starS q r i).map Spk.way ++ [(spkOf r i).way])
            rw [hw1]
            exact h1
          case measure => simp [intOf]; omega
        | true =>
          obtain ⟨VX, hVX⟩ : ∃ VX, ((V.alloc (.cells #[.int .i64 0, .int .i64 0, .int .i64 dx, .int .i64 dy] 23)).alloc (.cells #[.int .i64 ((i : Int) + 1), .int .i64 ((i : Int) + 2), .int .i64 1, .slice (some ⟨V.heap.size + 1 + 1, 0, none⟩) 2 2, .int .i64 0, .int .i64 0] 33)).alloc (.cells #[.int .i64 dx, .int .i64 dy, .int .i64 0, .int .i64 0] 23) = VX := ⟨_, rfl⟩
          have hbV : Below V.heap.size V VX := by rw [← hVX]; exact (((Below.refl _ V).alloc (Nat.le_refl _) _).alloc (by simp) _).alloc (by simp; omega) _
          have hxl := HX.out.2.2.1.len
          have hKK := HX.out.2.2.2.2.1
          obtain ⟨eo, ec, ao3, cap3, W4, ia4, ic4, W6, hev, run1, g0, g1, g2, run2, hrow6, hP6, hall6⟩ := (HPV.out.fresh hbV).edgeAndId (by omega) (by have := HSL.out; omega) ⟨(i : Int) + 1, (i : Int) + 2, 1, some ⟨V.heap.size + 1 + 1, 0, none⟩, 2, 2, 0, 0⟩ [(dx, dy), (0, 0)] (g := V.heap.size + 1 + 1) rfl rfl rfl (by
            rw [← hVX]
            have q := World.alloc_heap_new ((V.alloc (.cells #[.int .i64 0, .int .i64 0, .int .i64 dx, .int .i64 dy] 23)).alloc (.cells #[.int .i64 ((i : Int) + 1), .int .i64 ((i : Int) + 2), .int .i64 1, .slice (some ⟨V.heap.size + 1 + 1, 0, none⟩) 2 2, .int .i64 0, .int .i64 0] 33)) (.cells #[.int .i64 dx, .int .i64 dy, .int .i64 0, .int .i64 0] 23)
            rw [World.size_alloc, World.size_alloc] at q
            exact q) (NRow.below HRV.out hbV) (by rw [List.length_map]; have := HSL.out; omega) (-((i : Int) + 1)) ((hbV.block _ (lt_of_heap HAV.out)).trans HAV.out)
          rw [List.length_map, hKK] at run2 hrow6
          rw [hxl, hKK] at run1 run2 hP6 hev
          subst hev
          have HR1 := hid run1
          have HR2 := hid run2
          have HFIN := hid (And.intro hrow6 (And.intro hP6 hall6))
          have HXL := hid (And.intro hxl hKK)
          subst hVX
          simp only [World.size_alloc] at HR1
          simp only [World.size_setCell] at HR2
          clear run1 run2 hrow6 hP6 hall6 hbV HRV HAV HPV hxl hKK
          go_wp2_with (first
            | (at_builtin; refine wpList_append_run rfl (.tmp 87) (.tmp 89) 28 rfl rfl rfl HR1.out ?_; clear HR1)
            | (at_builtin; refine wpList_append_run rfl (.tmp 92) (.tmp 94) 31 rfl rfl rfl HR2.out ?_; clear HR2))
          go_roundw
          case rel =>
            obtain ⟨h1, h2, h3⟩ := HFIN.out
            have hri : r i = true := by rw [HQ.out.2]; exact hb2
            have hw1 : (spkOf r i).way = -((i : Int) + 1) := by unfold spkOf; dsimp only; rw [hri]; rfl
            have hd1 : (spkOf r i).dir = (dx, dy) := HX.out.2.2.2.2.2
            refine ⟨i + 1, xs ++ [⟨(i : Int) + 1, (i : Int) + 2, 1, some ⟨V.heap.size + 1 + 1, 0, none⟩, 2, 2, 0, 0⟩], ls ++ [[(dx, dy), (0, 0)]], .slice ao2 (K + 1 + 1) cap2, .slice ao3 (K + 1) cap3, ia4, ic4, by omega, by go_num, ?_⟩
            rw [starS_yes HQI.out, List.length_append, List.map_append, HXL.out.2]
            refine ⟨rfl, ?_, h2, HX.out.2.2.1.snoc ⟨by unfold spkOf; dsimp only; omega, .inr ⟨by rw [hw1]; unfold spkOf; dsimp only; omega, rfl, rfl, by rw [hd1]⟩⟩, h3⟩
            show NRow W6 w.heap.size (.slice ia4 (K + 1) ic4) ((starS q r i).map Spk.way ++ [(spkOf r i).way])
            rw [hw1]
            exact h1
          case measure => simp [intOf]; omega
    · obtain rfl : i = 16 := by omega
      have hok := starS_ok q r (Nat.le_refl 16)
      have hlead := hSt.leads (starS_dirs q r (Nat.le_refl _))
      have hlen := starS_len q r 16
      have hbd := hSt.bounds (Nat.le_refl _)
      have hways : ∀ s ∈ starS q r 16, -1000 ≤ s.way ∧ s.way ≤ 1000 := starS_all (fun s => -1000 ≤ s.way ∧ s.way ≤ 1000) fun a ha => by unfold spkOf; dsimp only; split <;> omega
      obtain ⟨b, ao, cap, no, nl, nc, rfl, rfl, hE⟩ := hP.toPlE (by have := hSt.len; omega) hSt.rise (fun x hx => (hbd x hx).1) (fun x hx => (hbd x hx).2) hSt.short
      have hxl := hSt.len
      have hbx := hP.box
      have hbel := hP.below
      clear hSt hbd hP hall HW0 hlt
      generalize starS q r 16 = ss at *
      obtain ⟨n, hn⟩ : ∃ n, ss.length = n := ⟨_, rfl⟩
      rw [hn] at hxl hlen hrow ⊢
      rw [hxl] at hE hbx
      have c0 : wr.cell? ⟨w.heap.size + 1 + 1, 0, none⟩ = some (.slice no nl nc) := by simp [World.cell?, hbx]
      have c1 : wr.cell? ⟨w.heap.size + 1 + 1, 1, none⟩ = some (.slice ao n cap) := by simp [World.cell?, hbx]
      have HRND := hid (fun W (hW : Below wr.heap.size wr W) => (roundOf_any (cap := cap) (hE.below hW) no nl nc 1 (by omega) (by omega)).mono (R' := fun e w' => ∃ v, e = .returned v ∧ NRow w' W.heap.size v (ss.map Spk.way) ∧ Below W.heap.size W w') (fun e w' h => by rw [hlead, spk_ord hok, List.map_map] at h; exact h))
      have HNX := hid (fun W (hW : Below wr.heap.size wr W) way h0 h1 => (next_any (cap := cap) (hE.below hW) no nl nc way h0 h1).mono (R' := fun e w' => e = .returned (.int .i64 ((nxtF (spkL ss) way).getD 0)) ∧ Below W.heap.size W w') (fun e w' h => by rw [hlead] at h; exact h))
      have HRG := hid (fun W (hW : Below wr.heap.size wr W) => rings_any (cap := cap) (hE.below hW) no nl nc)
      have HRS := hid (star_rings hok (2 * n + 1) (by omega))
      have hrl : ringsL xs ls = (ringsS (2 * n + 1) (nxtF (spkL ss)) ((spkL ss).map (·.1))).1 := by unfold ringsL waysL; rw [hlead, hxl]
      rw [hrl] at HRG
      generalize (ringsS (2 * n + 1) (nxtF (spkL ss)) ((spkL ss).map (·.1))).1 = rs at HRG HRS hrl
      have HOK := hid hok
      have HIDS := hid hrow
      have HBEL := hid hbel
      have HN := hid hn
      have HL := hid hlen
      have HWAYS := hid hways
      clear hok hlead hlen hways hE hbx hbel hrow hn hxl hrl
      go_wp2_with (first
        | (go_at_call 5; refine (HRND.out _ (Below.refl _ _)).mono ?_; rintro e w1 ⟨v, rfl, hv, hb1⟩; obtain ⟨va, vc, hvf⟩ := hv.form; rw [List.length_map, HN.out] at hvf; subst hvf; have HV := hid hv; have HB1 := hid hb1; clear HRND hv hb1)
        | (go_at_call 4; refine (sameInts_any _ _ (ss.map Spk.way) _ HV.out.nums (NRow.below HIDS.out HB1.out).nums (by rw [List.length_map, HN.out]; have := HL.out; omega)).mono ?_; rintro e w2 ⟨rfl, hb2⟩; have HB2 := hid (HB1.out.trans (hb2.mono HB1.out.size)); clear hb2))
      obtain ⟨WP, rfl⟩ : ∃ WP, WP = wr := ⟨_, rfl⟩
      go_loopw [9] (fun iv wq => ∃ k : Nat, k ≤ n ∧ iv = .int .i64 (k : Int) ∧ Below WP.heap.size WP wq) (fun iv _ => n - (intOf iv).toNat)
      case atStart => exact ⟨0, Nat.zero_le _, rfl, HB2.out⟩
      case round =>
        obtain ⟨k, hk, rfl, hbq⟩ := hrel
        have d0 := cell_below c0 hbq (lt_of_cell c0)
        have d1 := cell_below c1 hbq (lt_of_cell c1)
        by_cases hkn : k < n
        · have hknI : (k : Int) < (n : Int) := by omega
          have hnn := HN.out
          obtain ⟨j, hj⟩ : ∃ j, (k + n - 1) % n = j := ⟨_, rfl⟩
          have hjn : j < n := by rw [← hj]; exact Nat.mod_lt _ (by omega)
          have hjnI : (j : Int) < (n : Int) := by omega
          have hmod : Int.tmod ((k : Int) + (n : Int) - 1) (n : Int) = (j : Int) := by
            rw [show (k : Int) + (n : Int) - 1 = ((k + n - 1 : Nat) : Int) by omega, ← hj]
            exact (Int.ofNat_tmod _ _).symm
          have hw1 : IntKind.i64.wrap ((k : Int) + (n : Int)) = (k : Int) + (n : Int) := by rw [IntKind.wrap_i64]; have := HL.out; omega
          have hw2 : IntKind.i64.wrap ((k : Int) + (n : Int) - 1) = (k : Int) + (n : Int) - 1 := by rw [IntKind.wrap_i64]; have := HL.out; omega
          have hn0 : ¬ (n : Int) = 0 := by omega
          have hn0b : ((n : Int) == 0) = false := beq_eq_false_iff_ne.2 hn0
          obtain ⟨x, hx⟩ : ∃ x, (ss[k]'(by omega)).way = x := ⟨_, rfl⟩
          obtain ⟨y, hy⟩ : ∃ y, (ss[j]'(by omega)).way = y := ⟨_, rfl⟩
          have hxb := HWAYS.out _ (List.getElem_mem (show k < ss.length by omega))
          rw [hx] at hxb
          have hnx : IntKind.i64.wrap (-x) = -x := by rw [IntKind.wrap_i64]; omega
          have hX : (nxtF (spkL ss) x).getD 0 = -x := by rw [← hx, spk_out HOK.out (List.getElem_mem _)]; rfl
          have hY : (nxtF (spkL ss) (-x)).getD 0 = y := by
            rw [← hx, spk_back HOK.out (show k < ss.length by omega)]
            simp only [hnn, hj, hy, Option.getD_some]
          obtain ⟨ia', ic', hia, hcl⟩ := HIDS.out.nums
          rw [List.length_map, hnn] at hia hcl
          injection hia with hia _ hic
          subst hia hic
          obtain ⟨g, o, rfl, hcl2⟩ := hcl (by omega)
          have x0 := hcl2 k x (by rw [List.getElem?_map, List.getElem?_eq_getElem (by omega), Option.map_some, hx])
          have y0 := hcl2 j y (by rw [List.getElem?_map, List.getElem?_eq_getElem (by omega), Option.map_some, hy])
          have x1 := cell_below x0 hbq (lt_of_cell x0)
          have y1 := cell_below y0 hbq (lt_of_cell y0)
          have k0 := cell_regrown d0
          have k1 := cell_regrown d1
          have k2 := cell_regrown x1
          have k3 := cell_regrown y1
          have m1 := fun d os => HNX.out (grow (redrawn wr d) os) (hbq.trans ((below_regrown wr d os).mono hbq.size)) (-x) (by omega) (by omega)
          have m2 := fun d os => HNX.out (grow (redrawn wr d) os) (hbq.trans ((below_regrown wr d os).mono hbq.size)) x (by omega) (by omega)
          rw [hX] at m2
          rw [hY] at m1
          have HBQ := hid hbq
          clear hbq hX hY hx hy hcl hcl2 x0 y0 hnn hj HRG HRS HV HB1 HB2 d0 d1 x1 y1
          go_wp2
          refine wp_region_quiet_below (by kernel_rfl) (by kernel_rfl) ?_
          go_big_quiet_step (fail)
          go_big_quiet_step (fail)
          go_big_quiet_step (fail)
          go_big_quiet_step (fail)
          go_big_quiet_step (fail)
          go_big_quiet_step (fail)
          go_big_quiet_step (exact Calls.regrown_of (m1 _ _))
          go_big_quiet_step (fail)
          go_big_quiet_step (fail)
          go_big_quiet_step (fail)
          go_big_quiet_step (fail)
          go_big_quiet_step (fail)
          go_big_quiet_step (fail)
          go_big_quiet_step (fail)
          go_big_quiet_step (fail)
          go_big_quiet_step (fail)
          go_big_quiet_step (fail)
          go_big_quiet_step (fail)
          go_big_quiet_step (fail)
          go_big_quiet_step (fail)
          go_big_quiet_step (fail)
          go_big_quiet_step (fail)
          go_big_quiet_step (fail)
          go_big_quiet_step (fail)
          go_big_quiet_step (fail)
          go_big_quiet_step (exact Calls.regrown_of (m2 _ _))
          go_big_quiet_step (fail)
          go_big_quiet_step (fail)
          go_big_quiet_step (fail)
          go_big_quiet_step (fail)
          go_big_quiet_step (fail)
          go_big_quiet_step (fail)
          go_big_quiet_step (fail)
          refine wpQuiet_nil ?_
          intro W hW'
          obtain ⟨⟨dq, osq⟩, hW⟩ := hW'
          have HBW := hid (HBQ.out.trans ((show Below wr.heap.size wr W by rw [hW]; exact below_regrown _ _ _).mono HBQ.out.size))
          clear hW k0 k1 k2 k3 m1 m2
          have hn16 := HL.out
          go_wp2
          go_roundw
          case rel => exact ⟨k + 1, by omega, by go_num, HBW.out⟩
          case measure => simp [intOf]; omega
        · have hknI : ¬ (k : Int) < (n : Int) := by omega
          have HBQ := hid hbq
          clear hbq HV HB1 HB2 HIDS HNX HWAYS hk
          by_cases hz : n = 0
          · have hss : ss = [] := List.eq_nil_of_length_eq_zero (HN.out.trans hz)
            have hrs := HRS.out.1 hss
            subst hz
            clear HRS hss
            go_wp2_with (first
              | (go_at_call 7; refine (HRG.out _ HBQ.out).mono ?_; rintro e w3 ⟨v3, rfl, hv3, hb3⟩; obtain ⟨vo, vc, hvf⟩ := rgr_form hv3; rw [hrs, List.length_nil] at hvf; subst hvf; have HB3 := hid (HBQ.out.trans (hb3.mono HBQ.out.size)); clear hv3 hb3 HRG)
              | (go_at_call 8; refine (awake14_any _).mono ?_; rintro e w4 ⟨rfl, hb4⟩; have HB4 := hid (HB3.out.trans (hb4.mono HB3.out.size)); clear hb4))
            go_ret
            exact ⟨rfl, HBEL.out.trans (HB4.out.mono HBEL.out.size)⟩
          · obtain ⟨R, hrs, hR⟩ := HRS.out.2 (fun e => hz (by rw [← HN.out, e]; rfl))
            have hnI0 : ((n : Int) == 0) = false := beq_eq_false_iff_ne.2 (by omega)
            obtain ⟨M, hM⟩ : ∃ M, 2 * n = M := ⟨_, rfl⟩
            have hMw : IntKind.i64.wrap (2 * (n : Int)) = (M : Int) := by rw [IntKind.wrap_i64]; have := HL.out; omega
            rw [HN.out, hM] at hR
            have HM := hid hM
            clear HRS hM
            go_wp2_with (first
              | (go_at_call 7; refine (HRG.out _ HBQ.out).mono ?_; rintro e w3 ⟨v3, rfl, hv3, hb3⟩; obtain ⟨vo, vc, g0, u0, c0', rfl, rfl, hg0, hu0⟩ := rgr_one (r := R) (by rw [← hrs]; exact hv3); obtain ⟨uo, uc, huf⟩ := hu0.form; rw [hR] at huf; subst huf; have HB3 := hid (HBQ.out.trans (hb3.mono HBQ.out.size)); clear hv3 hb3 HRG hu0)
              | (go_at_call 8; refine (awake14_any _).mono ?_; rintro e w4 ⟨rfl, hb4⟩; have HB4 := hid (HB3.out.trans (hb4.mono HB3.out.size)); clear hb4))
            go_ret
            exact ⟨rfl, HBEL.out.trans (HB4.out.mono HBEL.out.size)⟩
end Go.Proofs.Ytjfnbgjnmjdeeaa
