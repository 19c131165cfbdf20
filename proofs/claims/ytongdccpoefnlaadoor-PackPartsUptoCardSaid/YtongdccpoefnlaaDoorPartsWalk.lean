/-
  PackParts: the walk.
-/
import Derived.Test.YtongdccpoefnlaaDoorPartsJoin
import Derived.Deep.CutRange
namespace Go.Proofs.YtongdccpoefnlaaDoor
open Go.RowKit Go.PlainAid

def lensL (pss : List (List Int)) : Nat := (pss.map List.length).sum
theorem lens_take {pss : List (List Int)} {k : Nat} (hk : k < pss.length) : lensL (pss.take (k + 1)) = lensL (pss.take k) + (pss.getD k []).length := by
  unfold lensL
  rw [List.take_succ_eq_append_getElem hk, List.map_append, List.sum_append]
  simp [hk]
theorem lens_take_le (pss : List (List Int)) (k : Nat) : lensL (pss.take k) ≤ lensL pss := by
  have : lensL pss = lensL (pss.take k) + lensL (pss.drop k) := by
    unfold lensL
    rw [← List.sum_append, ← List.map_append, List.take_append_drop]
  omega
theorem strs_take {pss : List (List Int)} {k : Nat} (hk : k < pss.length) : (pss.take (k + 1)).map strV = (pss.take k).map strV ++ [strV (pss.getD k [])] := by
  rw [List.take_succ_eq_append_getElem hk, List.map_append]
  simp [hk]
theorem Rows2.parts {W : World} {base : Nat} {v : Value} {pss : List (List Int)} (h : Rows2 W base v pss) (hb : ∀ p ∈ pss, (∀ b ∈ p, 0 ≤ b ∧ b ≤ 255) ∧ p.length ≤ 140737488355328) : Parts W v pss := by
  obtain ⟨us, e1, e2, e3⟩ := h
  obtain ⟨ao, cap, rfl, _, hf⟩ := own_any e2
  rw [e1]
  refine ⟨ao, cap, rfl, fun h1 => ?_⟩
  obtain ⟨g, rfl⟩ := hf (by omega)
  refine ⟨g, 0, rfl, fun j hj => ⟨us.getD j undef, ?_, ?_⟩⟩
  · have := e2.cells (g := g) rfl j (us.getD j undef) (by simp [List.getElem?_eq_getElem (show j < us.length by omega)])
    rw [Addr.add_lit] at this
    exact this
  · have hm : pss.getD j [] ∈ pss := by rw [List.getD_eq_getElem?_getD, List.getElem?_eq_getElem hj]; exact List.getElem_mem hj
    exact has_of_own (e3 j hj) (hb _ hm).1 (hb _ hm).2
theorem seqF_bytes : ∀ (f : Nat) (zs : List Int), (∀ b ∈ zs, 0 ≤ b ∧ b ≤ 255) → ∀ x ∈ seqF f zs, (∀ b ∈ x.1, 0 ≤ b ∧ b ≤ 255) ∧ x.1.length ≤ zs.length := by
  intro f
  induction f with
  | zero => intro zs _ x hx; simp [seqF] at hx
  | succ f ih =>
    intro zs hb x hx
    unfold seqF at hx
    split at hx
    · simp at hx
    · rcases List.mem_cons.1 hx with rfl | hx
      · refine ⟨cutP_byte hb, ?_⟩
        unfold cutP
        split
        · simp; omega
        · simp
      · split at hx
        · rename_i _ hE
          have h1 := ih (cutR zs) (cutR_byte hb) x hx
          have h2 := cutR_lt hb hE
          exact ⟨h1.1, by omega⟩
        · simp at hx
theorem resL_bytes {zs : List Int} (hb : ∀ b ∈ zs, 0 ≤ b ∧ b ≤ 255) (hl : zs.length ≤ 140737488355328) : ∀ p ∈ resL (seqOf zs), (∀ b ∈ p, 0 ≤ b ∧ b ≤ 255) ∧ p.length ≤ 140737488355328 := by
  intro p hp
  unfold resL at hp
  split at hp
  · obtain ⟨x, hx, rfl⟩ := List.mem_map.1 hp
    have := seqF_bytes _ zs hb x hx
    exact ⟨this.1, by omega⟩
  · simp at hp
theorem resL_len (zs : List Int) : (resL (seqOf zs)).length ≤ zs.length := by
  unfold resL
  split
  · simpa using seqOf_len zs
  · simp

set_option maxRecDepth 8000 in
set_option maxHeartbeats 4000000 in
theorem packParts_walk (w : World) (v : Value) (pss : List (List Int)) (h : Parts w v pss) (hlen : lensL pss + pss.length ≤ 1048576) (vb : Value) (zs : List Int) (hb : Has w vb zs) (hzl : zs.length ≤ 1048576) (ht : TabOk w) :
    Calls Tryd.prog 7 #[v, vb] w fun e w' => e = .returned (.bool true) ∧ Below w.heap.size w w' := by
  obtain ⟨i0, hi, hz0, hz1, hz2⟩ := info_parts info9
  have HP := hid h
  obtain ⟨ao, cap, rfl, hc⟩ := h
  have HC := hid hc
  have HB := hid hb
  have HT := hid ht
  obtain ⟨aob, capb, rfl, _⟩ := hb.open
  clear hc hb ht
  obtain ⟨len, hlen'⟩ : ∃ n, n = pss.length := ⟨_, rfl⟩
  rw [← hlen'] at HC HP hlen ⊢
  have HL := hid hlen'
  clear hlen'
  obtain ⟨zl, hzl'⟩ : ∃ n, n = zs.length := ⟨_, rfl⟩
  rw [← hzl'] at HB hzl ⊢
  have HZ := hid hzl'
  clear hzl'
  have hsl : ∀ k, lensL (pss.take k) ≤ 1048576 := fun k => by have := lens_take_le pss k; omega
  have HSL := hid hsl
  have hlen1 : len ≤ 1048576 := by omega
  clear hsl hlen
  go_enter Tryd.func7, Tryd.ntmps7
  go_wp2
  go_loopw [5, 6, 7] (fun o n i wr => ∃ k : Nat, k ≤ len ∧ k ≤ 101 ∧ lensL (pss.take k) ≤ 5000 ∧ i = .int .i64 k ∧ n = .int .i64 (lensL (pss.take k) : Nat) ∧ wr.ownsRow w.heap.size 9 1 o k ((pss.take k).map strV) ∧ Below w.heap.size w wr) (fun _ _ i _ => len - (intOf i).toNat)
  case atStart => exact ⟨0, Nat.zero_le _, Nat.zero_le _, Nat.zero_le _, rfl, rfl, World.ownsRow_nil _ _ _ _, Below.refl _ _⟩
  case round =>
    obtain ⟨k, hk, hk1, hk5, rfl, rfl, hown, hbr⟩ := hrel
    have HO := hid hown
    have hbs := hbr.size
    clear hown
    by_cases hlt : k < len
    · obtain ⟨b, off, rfl, hx⟩ := HC.out (by omega)
      obtain ⟨u, hu, hh⟩ := hx k hlt
      clear hx
      have hP : k < pss.length := by have := HL.out; omega
      have HLS := hid (lens_take hP)
      have HSS := hid (strs_take hP)
      obtain ⟨p, hp⟩ : ∃ p, p = pss.getD k [] := ⟨_, rfl⟩
      rw [← hp] at HLS HSS hh
      have hu' : wr.cell? ⟨b, off + k, none⟩ = some u := by rw [hbr.cell (p := ⟨b, off + k, none⟩) (lt_of_cell hu)]; exact hu
      have hblt : b < w.heap.size := lt_of_cell hu
      have hh' := hh.below hbr
      obtain ⟨au, cu, rfl, _⟩ := hh.open
      have hcv := hh'.conv
      have HU := hid hu
      obtain ⟨S, hS⟩ : ∃ n, n = lensL (pss.take k) := ⟨_, rfl⟩
      rw [← hS] at HLS hk5 ⊢
      obtain ⟨pl, hpl⟩ : ∃ n, n = p.length := ⟨_, rfl⟩
      rw [← hpl] at hu' hcv HLS HU
      have hpl5 : S + pl ≤ 1048576 := by have := HSL.out (k + 1); have := HLS.out; omega
      clear hS hp hP hh hh' hu hpl
      have HW := hid (fun wx (hb : Below w.heap.size w wx) => awake_any wx (HT.out.below hb (Nat.le_refl _)))
      have hgo : (5000 < S + pl ∨ 100 < k) ∨ (¬ 5000 < S + pl ∧ ¬ 100 < k) := by omega
      rcases hgo with hgo | ⟨hg1, hg2⟩
      · have aw : ∀ wx : World, Below w.heap.size w wx → Calls Tryd.prog 10 #[] wx fun e w' => e = .returned (.bool true) ∧ Below wx.heap.size wx w' := HW.out
        have HA := hid aw
        clear aw
        by_cases hg1 : 5000 < S + pl
        · have d1 : decide ((5000 : Int) < (S : Int) + (pl : Int)) = true := by simp; omega
          go_wp2_with (first | (at_builtin; refine wpList_append_own _ rfl (.tmp 23) (.tmp 29) 47 rfl w.heap.size 9 i0 (.string ⟨#[]⟩) 1 16 Tryd.underlying47 hi hz0 hz1 hz2 rfl (by decide) u5 k _ rfl (HO.out.alloc _) ⟨wr.heap.size, 0, none⟩ 1 1 [.string (strOfNums p)] rfl rfl (cell_one_new _ _ _) (by intro u hu; simp at hu; subst hu; rfl) (by unfold maxLen; omega) (by omega) (by simp; omega) ?_; intro v4 w4 hown4 hgrow4 _; have hB4 := (hbr.alloc hbs _).grown hgrow4 (by simp; omega) (own_base HO.out); have hc4 : w4.cell? ⟨b, off + k, none⟩ = some (.slice au pl cu) := (hB4.cell (p := ⟨b, off + k, none⟩) hblt).trans HU.out; have H4 := hid hown4; clear hown4) | (go_at_call 10; refine (HA.out _ hB4).mono ?_; rintro e w5 ⟨rfl, hb5⟩))
          go_ret
          exact ⟨rfl, hB4.trans (hb5.mono hB4.size)⟩
        · have d1 : decide ((5000 : Int) < (S : Int) + (pl : Int)) = false := by simp; omega
          have d2 : decide ((100 : Int) < (k : Int)) = true := by simp; omega
          go_wp2_with (first | (at_builtin; refine wpList_append_own _ rfl (.tmp 23) (.tmp 29) 47 rfl w.heap.size 9 i0 (.string ⟨#[]⟩) 1 16 Tryd.underlying47 hi hz0 hz1 hz2 rfl (by decide) u5 k _ rfl (HO.out.alloc _) ⟨wr.heap.size, 0, none⟩ 1 1 [.string (strOfNums p)] rfl rfl (cell_one_new _ _ _) (by intro u hu; simp at hu; subst hu; rfl) (by unfold maxLen; omega) (by omega) (by simp; omega) ?_; intro v4 w4 hown4 hgrow4 _; have hB4 := (hbr.alloc hbs _).grown hgrow4 (by simp; omega) (own_base HO.out); have hc4 : w4.cell? ⟨b, off + k, none⟩ = some (.slice au pl cu) := (hB4.cell (p := ⟨b, off + k, none⟩) hblt).trans HU.out; have H4 := hid hown4; clear hown4) | (go_at_call 10; refine (HA.out _ hB4).mono ?_; rintro e w5 ⟨rfl, hb5⟩))
          go_ret
          exact ⟨rfl, hB4.trans (hb5.mono hB4.size)⟩
      · have d1 : decide ((5000 : Int) < (S : Int) + (pl : Int)) = false := by simp; omega
        have d2 : decide ((100 : Int) < (k : Int)) = false := by simp; omega
        go_wp2_with (at_builtin; refine wpList_append_own _ rfl (.tmp 23) (.tmp 29) 47 rfl w.heap.size 9 i0 (.string ⟨#[]⟩) 1 16 Tryd.underlying47 hi hz0 hz1 hz2 rfl (by decide) u5 k _ rfl (HO.out.alloc _) ⟨wr.heap.size, 0, none⟩ 1 1 [.string (strOfNums p)] rfl rfl (cell_one_new _ _ _) (by intro u hu; simp at hu; subst hu; rfl) (by unfold maxLen; omega) (by omega) (by simp; omega) ?_; intro v4 w4 hown4 hgrow4 _; have hB4 := (hbr.alloc hbs _).grown hgrow4 (by simp; omega) (own_base HO.out); have hc4 : w4.cell? ⟨b, off + k, none⟩ = some (.slice au pl cu) := (hB4.cell (p := ⟨b, off + k, none⟩) hblt).trans HU.out; have H4 := hid hown4; clear hown4)
        go_roundw
        case rel =>
          refine ⟨k + 1, by omega, by omega, ?_, by go_num, ?_, ?_, hB4⟩
          · rw [HLS.out]; omega
          · rw [HLS.out]; simp
          · rw [HSS.out]; exact H4.out
        case measure => simp [intOf]; omega
    · obtain rfl : k = len := by omega
      have hTk : pss.take k = pss := List.take_of_length_le (by rw [HL.out]; exact Nat.le_refl _)
      rw [hTk] at HO hk5 ⊢
      have hjl := joinL_len pss
      have HPB : Hid (∀ p ∈ pss, (∀ b ∈ p, 0 ≤ b ∧ b ≤ 255) ∧ p.length ≤ 140737488355328) := by
        intro p hp
        obtain ⟨j, hj, rfl⟩ := List.getElem_of_mem hp
        obtain ⟨b, off, rfl, hx⟩ := HC.out (by rw [HL.out]; omega)
        obtain ⟨u, _, hh⟩ := hx j (by rw [HL.out]; exact hj)
        rw [List.getD_eq_getElem?_getD, List.getElem?_eq_getElem hj] at hh
        exact ⟨hh.byte, hh.2.1⟩
      obtain ⟨J, hJ⟩ : ∃ J, J = joinL pss := ⟨_, rfl⟩
      have hJl : J.length ≤ 6010 := by have := HL.out; unfold lensL at hk5; rw [hJ]; omega
      have HJB : Hid (∀ b ∈ J, 0 ≤ b ∧ b ≤ 255) := by rw [hJ]; exact joinL_byte HPB.out
      have HJ := hid hJ
      have hP' := HP.out.below hbr
      have HJN : Hid (Calls Tryd.prog 19 #[.slice ao k cap] wr fun e w' => ∃ v', e = .returned v' ∧ w'.ownsRow wr.heap.size 5 1 v' J.length (J.map (Value.int .u8)) ∧ Below wr.heap.size wr w') := by
        rw [hJ]
        exact join_any hP' (by rw [← HL.out]; omega) (by rw [← hJ]; omega)
      obtain ⟨sJ, hsJ⟩ : ∃ s, s = strOfNums J := ⟨_, rfl⟩
      have HSJ := hid hsJ
      obtain ⟨ag, cg, rfl, _, hf⟩ := own_any HO.out
      clear hTk hjl hP' hJ hsJ hk hlt
      go_upto_region 11 with (go_at_call 19; refine HJN.out.mono ?_; rintro e w2 ⟨v2, rfl, hown2, hb2⟩; have hS2 := has_of_own hown2 HJB.out (by omega); have hO2 := own_below HO.out hb2; obtain ⟨a2, c2, rfl, _⟩ := hS2.open)
      have hD2 := hS2.below (Below.refl _ _).drew
      have hcv := hD2.conv
      rw [← HSJ.out] at hcv
      have HD2 := hid hD2
      have HO2 := hid hO2.drew
      have hB2 := hbr.trans (hb2.mono hbs)
      have HRJ : Hid (Calls Tryd.prog 20 #[.slice ag k cg] w2.drew fun e w' => e = .returned (.string sJ) ∧ Below w2.drew.heap.size w2.drew w') := by
        have := refJoin_any (w := w2.drew) (v := .slice ag k cg) (base := w.heap.size) (pss := pss) (by rw [← HL.out]; exact HO2.out) (by rw [← HL.out]; omega) (by rw [← HJ.out]; omega)
        rw [← HJ.out] at this
        unfold strV at this
        rw [← HSJ.out] at this
        exact this
      clear hS2 hO2 hown2 hD2
      obtain ⟨jl, hjl⟩ : ∃ n, n = J.length := ⟨_, rfl⟩
      rw [← hjl] at hcv HD2 hJl ⊢
      have HJLN := hid hjl
      clear hjl
      go_cut [51] from 47 to 51 (fun c wx => c = .bool false ∧ Has wx (.slice a2 jl c2) J ∧ wx.ownsRow w.heap.size 9 1 (.slice ag k cg) k (pss.map strV) ∧ Below w.heap.size w wx)
      case first =>
        go_region_with (go_at_call 20; refine HRJ.out.mono ?_; rintro e w3 ⟨rfl, hb3⟩; have HS3 := hid (HD2.out.below hb3); have cS3 := HS3.out.conv; rw [← HSJ.out] at cS3; have HO3 := hid (own_below HO2.out hb3))
        all_goals
          go_wp2_with fail
          go_meet
          exact ⟨rfl, HS3.out, HO3.out, hB2.drew.trans (hb3.mono hB2.size)⟩
      case rest =>
        obtain ⟨rfl, hS4, hO4, hB4⟩ := hcut
        have hsq : seqOf J = pss.map fun p => (p, (0 : Int)) := by rw [HJ.out]; exact seq_join pss HPB.out
        have HSP := hid (split_any hS4 (by have := HJLN.out; omega))
        rw [hsq, (res_join pss).1, (res_join pss).2] at HSP
        have HO4 := hid hO4
        have HB4 := hid hB4
        clear hsq hS4 hO4 hB4 hcv HD2 HO2 HRJ HJN HO hB2 hb2
        go_wp2_with (go_at_call 21; refine HSP.out.mono ?_; rintro e w5 ⟨v5, rfl, hR5, hb5⟩; have hP5 := hR5.parts HPB.out; have HO5 := hid (own_below HO4.out hb5); obtain ⟨a5, c5, rfl, hx5⟩ := hP5; rw [← HL.out] at hx5 ⊢; have HX5 := hid hx5; have hB5 := HB4.out.trans (hb5.mono HB4.out.size); clear hR5 hx5)
        go_loopw [11] (fun i wx => ∃ j : Nat, j ≤ k ∧ i = .int .i64 j ∧ Below w5.heap.size w5 wx) (fun i _ => k - (intOf i).toNat)
        case atStart => exact ⟨0, Nat.zero_le _, rfl, Below.refl _ _⟩
        case round =>
          obtain ⟨j, hj, rfl, hbx⟩ := hrel
          rename World => wx
          by_cases hjl : j < k
          · obtain ⟨b5, o5, rfl, hx⟩ := HX5.out (by omega)
            obtain ⟨u, hu, hh⟩ := hx j hjl
            obtain ⟨gg, rfl⟩ := hf (by omega)
            have hcg := own_str HO5.out j (by rw [← HL.out]; exact hjl)
            obtain ⟨p, hp⟩ : ∃ p, p = pss.getD j [] := ⟨_, rfl⟩
            rw [← hp] at hcg hh
            have hux : wx.cell? ⟨b5, o5 + j, none⟩ = some u := (hbx.cell (p := ⟨b5, o5 + j, none⟩) (lt_of_cell hu)).trans hu
            have hgx : wx.cell? ⟨gg, j, none⟩ = some (strV p) := (hbx.cell (p := ⟨gg, j, none⟩) (lt_of_cell hcg)).trans hcg
            have hcv := ((hh.below hbx).below (Below.refl _ _).drew).conv
            obtain ⟨au, cu, rfl, _⟩ := hh.open
            unfold strV at hgx
            generalize strOfNums p = sp at *
            generalize p.length = pl at *
            clear hx hu hh hcg hp
            go_upto_region 19 with fail
            go_region
            go_wp2
            go_roundw
            case rel => exact ⟨j + 1, by omega, by go_num, hbx.drew⟩
            case measure => simp [intOf]; omega
          · obtain rfl : j = k := by omega
            have hBx := hB5.trans (hbx.mono hB5.size)
            have hbz := HB.out.below hBx
            have HSP2 := hid (split_any hbz (by have := HZ.out; omega))
            have HRS := hid fun wy => refSplit_any hbz.str (by have := HZ.out; omega) wy
            have HRB := hid (resL_bytes hbz.byte (by have := HZ.out; omega))
            have hRl := resL_len zs
            have hRl' : (resL (seqOf zs)).length ≤ 1048576 := by have := HZ.out; omega
            have HBZ := hid hbz
            obtain ⟨sz, hsz⟩ : ∃ s, s = strOfNums zs := ⟨_, rfl⟩
            rw [← hsz] at HRS
            generalize resL (seqOf zs) = R at *
            generalize resE (seqOf zs) = er at *
            have HSZ := hid hsz
            clear hsz hbz hRl hf HX5 HO5 HO4 HSP hbx hb5
            obtain ⟨m, hm⟩ : ∃ m, m = R.length := ⟨_, rfl⟩
            rw [← hm] at HRS hRl'
            have HM := hid hm
            clear hm
            go_wp2_with (first | (go_at_call 21; refine HSP2.out.mono ?_; rintro e w6 ⟨v6, rfl, hR6, hb6⟩; have hP6 := hR6.parts HRB.out; obtain ⟨a6, c6, rfl, hx6⟩ := hP6; rw [← HM.out] at hx6 ⊢; have HX6 := hid hx6; have hB6 := hBx.trans (hb6.mono hBx.size); have cZ := (HBZ.out.below hb6).conv; rw [← HSZ.out] at cZ; clear hR6 hx6) | (go_at_call 22; refine (HRS.out w6).mono ?_; rintro e w7 ⟨v7, rfl, hO7, hb7⟩; have HO7 := hid hO7; obtain ⟨a7, c7, rfl, hc7, hf7⟩ := own_any hO7; have hB7 := hB6.trans (hb7.mono hB6.size); clear hO7))
            go_loopw [16] (fun i wx => ∃ j : Nat, j ≤ m ∧ i = .int .i64 j ∧ Below w7.heap.size w7 wx) (fun i _ => m - (intOf i).toNat)
            case atStart => exact ⟨0, Nat.zero_le _, rfl, Below.refl _ _⟩
            case round =>
              obtain ⟨q, hq, rfl, hby⟩ := hrel
              rename World => wy
              by_cases hql : q < m
              · obtain ⟨b6, o6, rfl, hx⟩ := HX6.out (by omega)
                obtain ⟨u, hu, hh⟩ := hx q hql
                obtain ⟨gg, rfl⟩ := hf7 (by omega)
                have hcg := own_str HO7.out q (by rw [← HM.out]; exact hql)
                obtain ⟨p, hp⟩ : ∃ p, p = R.getD q [] := ⟨_, rfl⟩
                rw [← hp] at hcg hh
                have hb67 := hb7.trans (hby.mono hb7.size)
                have hux : wy.cell? ⟨b6, o6 + q, none⟩ = some u := (hb67.cell (p := ⟨b6, o6 + q, none⟩) (lt_of_cell hu)).trans hu
                have hgx : wy.cell? ⟨gg, q, none⟩ = some (strV p) := (hby.cell (p := ⟨gg, q, none⟩) (lt_of_cell hcg)).trans hcg
                have hcv := ((hh.below hb67).below (Below.refl _ _).drew).conv
                obtain ⟨au, cu, rfl, _⟩ := hh.open
                unfold strV at hgx
                generalize strOfNums p = sp at *
                generalize p.length = pl at *
                clear hx hu hh hcg hp cZ
                go_upto_region 28 with fail
                go_region
                go_wp2
                go_roundw
                case rel => exact ⟨q + 1, by omega, by go_num, hby.drew⟩
                case measure => simp [intOf]; omega
              · obtain rfl : q = m := by omega
                have hBy := hB7.trans (hby.mono hB7.size)
                have HW := hid (awake_any wy (HT.out.below hBy (Nat.le_refl _)))
                clear cZ HX6 HO7 hf7
                go_wp2_with (go_at_call 10; refine HW.out.mono ?_; rintro e w8 ⟨rfl, hb8⟩)
                go_ret
                exact ⟨rfl, hBy.trans (hb8.mono hBy.size)⟩
end Go.Proofs.YtongdccpoefnlaaDoor
