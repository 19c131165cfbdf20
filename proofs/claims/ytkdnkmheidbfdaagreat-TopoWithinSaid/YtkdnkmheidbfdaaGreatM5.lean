/-
  Layer 15: face's Regions.
-/
import Derived.Test.YtkdnkmheidbfdaaGreatMV
import Derived.Test.YtkdnkmheidbfdaaGreatFLook
import Derived.Test.YtkdnkmheidbfdaaGreatMS
import Derived.Test.YtkdnkmheidbfdaaGreatMQ
namespace Go.Proofs.YtkdnkmheidbfdaaGreat
open Go.RowKit Go.Shelf Go.Sort Go.Maps

/-- An append whose run is known, at a step of a region that draws its order. -/
theorem stepAppendF {P : Program} {ops : Array Oper} {o : Oper} {a : Act} {ts : Array Value} {w w' : World} {K : Act → World → Prop} {Q : Exit → Act → World → Prop} {E : Prop} (hg : o.guard = none) (s x : Operand) (t : TypeId) (hop : o.op = Op.call { callee := Callee.builtin Builtin.append, args := #[s, x], argTypes := #[t, t] }) {v u v' : Value} (hs : a.eval s = v) (hx : a.eval x = u)
    (hrun : (Builtin.append_ #[t, t] o.type #[v, u]).run P w = .ok v' w') (hK : K (a.put o.dst v') w') : if Region.wanted o (yielded ops ts) = true then Oper.wp P o a w K Q else E := by
  have hw : Region.wanted o (yielded ops ts) = true := by simp [Region.wanted, hg]
  rw [if_pos hw]
  unfold Oper.wp
  rw [show (execOp a.eval o).run P w = .ok (.value v') w' by simp [execOp, hop, resolve, invoke, builtin, hs, hx, hrun, Result.andThen]]
  exact hK
/-- All ways through a piece of code end alike. -/
theorem wp_oneF {P : Program} {c : Code} {Q : Exit → Act → World → Prop} {a : Act} {w : World} (V : World) (A : Act) (h1 : c.wp P (fun e a' V' => e = .normal ∧ a' = A ∧ V' = V) a w) (h2 : Q .normal A V) : c.wp P Q a w :=
  Code.wp_mono (fun e a' V' ⟨he, ha, hV⟩ => by rw [he, ha, hV]; exact h2) h1
theorem BdIs.base {W : World} {b b' : Nat} {x : Bd} {p : BP} (h : BdIs W b x p) (hb : b' ≤ b) : BdIs W b' x p := ⟨nrow_base h.ways hb, PtRow.base h.pts hb, h.few, h.lx, h.ly, h.hx, h.hy, h.ar, h.pt, h.nr⟩
/-- What Regions tells. -/
def RegIs (w w' : World) (v : Value) (bs os : List BP) (al : List NR) (m : Nat) : Prop :=
  ∃ (G : Nat) (wS : World) (zs : List Zb) (IV NV : Nat → Value), v = .slice (some ⟨G, 0, none⟩) m m ∧ zs.map (·.2) = bs ∧ RgI wS G m (rgsF (·.2) os zs).1 IV NV (rgsF (·.2) os zs).2 (ndsF os al) w' ∧ ∀ z ∈ zs, BdIs w' w.heap.size z.1 z.2

set_option maxRecDepth 100000 in
set_option maxHeartbeats 12800000 in
theorem regions_any {w : World} {b off n cap : Nat} {ao : Option Addr} {xs : List ER} {ls : List (List Pp)} (h : PlE w b off n ao xs ls) {nb noff nl nc : Nat} {no : Option Addr} {ns : List NR} (hd : NdE w nb noff nl no ns) (h0 : nl = 0 → no = none) (hi : ∀ x ∈ ns, -1000000 ≤ x.id ∧ x.id ≤ 1000000) (hr : RiseN ns) (hP : ∀ r ∈ ringsL xs ls, (ringPtsF xs ls r).length ≤ 4096) {M : Nat} (hM : ((bordersL xs ls).filter BP.out).length = M) (hM19 : M ≤ 19) :
    Calls Tryz.prog 31 #[plV (.slice no nl nc) (.slice ao n cap)] w fun e w' => (∃ v, e = .returned v ∧ RegIs w w' v (bordersL xs ls) (outersL xs ls) (ns.filter (notJ (partsF n xs))) (M + 1)) ∧ Below w.heap.size w w' := by
  obtain ⟨wP, hwP⟩ : ∃ wP, w.alloc (.cells #[.slice no nl nc, .slice ao n cap] 32) = wP := ⟨_, rfl⟩
  have hbP : Below w.heap.size w wP := by rw [← hwP]; exact (Below.refl _ w).alloc (Nat.le_refl _) _
  have hhP : wP.heap[w.heap.size]? = some (.cells #[.slice no nl nc, .slice ao n cap] 32 (0, 0)) := by rw [← hwP]; exact World.alloc_heap_new w _
  have c0 : wP.cell? ⟨w.heap.size, 0, none⟩ = some (.slice no nl nc) := by simp [World.cell?, hhP]
  have c1 : wP.cell? ⟨w.heap.size, 1, none⟩ = some (.slice ao n cap) := by simp [World.cell?, hhP]
  have HLK := hid (look_any (cap := cap) (h.below hbP) no nl nc hP (by rw [hM]; exact hM19))
  have HAL := hid (fun W (hW : Below w.heap.size w W) => alone_any (cap := cap) (nc := nc) (h.below hW) (hd.below hW) h0 hi hr)
  have HRN := hid (fun b hb => region_num xs ls hM (b := b) hb)
  have HLN := hid (least_num xs ls hM)
  have HB := hid (And.intro hbP hhP)
  have HBL := hid (show (bordersL xs ls).length ≤ 1000 by
    have q : ∀ rs : List (List Int), (lookF xs.length xs ls rs).2.length = rs.length := by
      suffices hq : ∀ n (rs : List (List Int)), rs.length = n → (lookF xs.length xs ls rs).2.length = n from fun rs => hq _ rs rfl
      intro n
      induction n with
      | zero =>
        intro rs hrs
        obtain rfl := List.eq_nil_of_length_eq_zero hrs
        rfl
      | succ n ih =>
        intro rs hrs
        obtain ⟨rs', r, rfl⟩ : ∃ rs' r, rs = rs' ++ [r] := ⟨rs.dropLast, rs.getLast (by intro e; rw [e] at hrs; cases hrs), (List.dropLast_concat_getLast _).symm⟩
        have hl : rs'.length = n := by simp at hrs; exact hrs
        rw [lookF_snoc]
        unfold lookStep
        rw [List.length_append, ih rs' hl]
        rfl
    have q2 := ringsL_len xs ls
    have q3 := h.few
    have q4 := h.len
    unfold bordersL
    rw [q]
    omega)
  have HALL := hid (show (ns.filter (notJ (partsF n xs))).length ≤ 1000 by have := List.length_filter_le (notJ (partsF n xs)) ns; have := hd.len; have := hd.few; omega)
  generalize ns.filter (notJ (partsF n xs)) = L at HAL HALL ⊢
  generalize hOS : outersL xs ls = OS at HLK HRN HLN ⊢
  generalize hBS : bordersL xs ls = BS at HLK HRN HBL hM ⊢
  have HM := hid hM
  clear h hd h0 hi hr hP hM hbP hhP hOS hBS
  obtain ⟨m, hm⟩ : ∃ m, M + 1 = m := ⟨_, rfl⟩
  rw [hm] at HRN HLN ⊢
  obtain ⟨C, hmkD⟩ := make_regions m (by omega)
  have hmk : ∀ wx : World, (Instr.makeSlice 68 (.int .i64 (1 + (M : Int))) (.int .i64 (1 + (M : Int)))).run Tryz.prog wx = .ok (.slice (some ⟨wx.heap.size, 0, none⟩) m m) (wx.alloc (.cells C 67)) := fun wx => by rw [show 1 + (M : Int) = ((m : Nat) : Int) by omega]; exact (hmkD wx).1
  have HMD := hid (fun wx => (hmkD wx).2)
  clear hmkD
  go_enter Tryz.func31, Tryz.ntmps31
  go_wp2_with (first
    | (go_at_call 60; (refine HLK.out.mono ?_; rintro e w1 ⟨bo, bl, bc, oo, ol, oc, gb, g, zs, os, rfl, hsv, hzs, hos, hol, hb1⟩; rw [HM.out] at hol; have hol2 := hol.symm; clear hol; subst hol2; obtain ⟨wS, hwS⟩ : ∃ wS, w1.alloc (.cells #[.slice bo bl bc, .slice oo M oc] 101) = wS := ⟨_, rfl⟩; have hbS : Below w1.heap.size w1 wS := (by rw [← hwS]; exact (Below.refl _ w1).alloc (Nat.le_refl _) _); have hhS : wS.heap[w1.heap.size]? = some (.cells #[.slice bo bl bc, .slice oo M oc] 101 (0, 0)) := (by rw [← hwS]; exact World.alloc_heap_new w1 _); have s0 : wS.cell? ⟨w1.heap.size, 0, none⟩ = some (.slice bo bl bc) := (by simp [World.cell?, hhS]); have s1 : wS.cell? ⟨w1.heap.size, 1, none⟩ = some (.slice oo M oc) := (by simp [World.cell?, hhS]); have s0a : ∀ o, (wS.alloc o).cell? ⟨w1.heap.size, 0, none⟩ = some (.slice bo bl bc) := (fun o => cell_below s0 ((Below.refl _ wS).alloc (Nat.le_refl _) o) (lt_of_cell s0)); have hbPS : Below wP.heap.size wP wS := hb1.trans (hbS.mono hb1.size); have H1 := hid (And.intro (hsv.below hbS) (And.intro hzs (And.intro hos (And.intro hhS (And.intro (HB.out.1.trans (hbPS.mono HB.out.1.size)) (show wS.heap[w.heap.size]? = some (.cells #[.slice no nl nc, .slice ao n cap] 32 (0, 0)) from (hbPS.block _ (lt_of_heap HB.out.2)).trans HB.out.2)))))); clear HLK hsv hzs hos hb1 hbS hhS hbPS c0 c1)))
  have HI3 := hid (HMD.out wS)
  obtain ⟨W3, hW3⟩ : ∃ W3, wS.alloc (.cells C 67) = W3 := ⟨_, rfl⟩
  have HB3 := hid (show Below wS.heap.size wS W3 by rw [← hW3]; exact (Below.refl _ wS).alloc (Nat.le_refl _) _)
  rw [hW3] at HI3 ⊢
  clear HMD hmk hW3 s0 s1 s0a
  have HZL := hid (show zs.length ≤ 1000 by have q := congrArg List.length H1.out.2.1; rw [List.length_map] at q; have := HBL.out; omega)
  have hblb : bl ≤ 1000 := by have := H1.out.1.len; have := HZL.out; omega
  go_loopw [21] (fun iv wr => ∃ (k : Nat) (IV NV : Nat → Value), k ≤ bl ∧ iv = .int .i64 (k : Int) ∧ RgI wS wS.heap.size m (rgsF (·.2) OS (zs.take k)).1 IV NV (rgsF (·.2) OS (zs.take k)).2 (fun _ => []) wr) (fun iv _ => bl - (intOf iv).toNat)
  case atStart => exact ⟨0, fun _ => nilV, fun _ => nilV, Nat.zero_le _, rfl, ⟨HI3.out, fun k _ => IRow.nil _ _, (fun j k _ _ _ g hg => by cases hg), fun k _ => NRow.nil _ _, (fun j k _ _ _ g hg => by cases hg), Nat.le_refl _, HB3.out⟩⟩
  case round =>
    obtain ⟨k, IV, NV, hk, rfl, hI⟩ := hrel
    have hsv := H1.out.1.below hI.below
    by_cases hlt : k < bl
    · have hltI : (k : Int) < (bl : Int) := by omega
      obtain ⟨z, hz⟩ : ∃ z, zs[k]? = some z := ⟨zs[k]'(by have := hsv.len; omega), by rw [List.getElem?_eq_getElem]⟩
      have hzm := List.mem_of_getElem? hz
      obtain rfl := hsv.bat (by omega)
      obtain ⟨a0, a1, a2, a3, a4, a5, a6, a7, a8⟩ := hsv.bcells k z hz
      have hsS := (hI.below.block _ (lt_of_heap H1.out.2.2.2.1)).trans H1.out.2.2.2.1
      obtain ⟨Wb, hWb⟩ : ∃ Wb, wr.alloc (bdO z.1) = Wb := ⟨_, rfl⟩
      have hbW : Below wr.heap.size wr Wb := by rw [← hWb]; exact (Below.refl _ wr).alloc (Nat.le_refl _) _
      have hhW : Wb.heap[wr.heap.size]? = some (bdO z.1) := by rw [← hWb]; exact bd_new wr z.1
      have hsB := (hbW.block _ (lt_of_heap hsS)).trans hsS
      have s0 : Wb.cell? ⟨w1.heap.size, 0, none⟩ = some (.slice (some ⟨gb, 0, none⟩) bl bc) := by simp [World.cell?, hsB]
      have s1 : Wb.cell? ⟨w1.heap.size, 1, none⟩ = some (.slice oo M oc) := by simp [World.cell?, hsB]
      obtain ⟨y0, y1, y2, y3, y4, y5, y6, y7, y8⟩ := bd_cells hhW
      obtain ⟨κ, hκ, hκm⟩ := HRN.out z.2 (by rw [← H1.out.2.1]; exact List.mem_map_of_mem hzm)
      have hκI : (κ : Int) < (m : Int) := by omega
      have HRG := hid ((hsv.below hbW).region bc oc hzm)
      rw [H1.out.2.2.1, hκ] at HRG
      have HOU := hid (outer_any z.1)
      rw [(hsv.is z hzm).out] at HOU
      have HIB := hid (hI.fresh hbW)
      have HK := hid (show rgsF (·.2) OS (zs.take (k + 1)) = rgStep (·.2) OS (rgsF (·.2) OS (zs.take k)) z by rw [List.take_add_one, hz]; exact rgsF_snoc _ _ _ _)
      have HLZ := hid (show ((rgsF (·.2) OS (zs.take k)).2 κ).length ≤ 100000 by have := rgsF_len (fun z : Zb => z.2) OS (zs.take k) κ; have := HZL.out; have := List.length_take_le k zs; omega)
      have HX := hid (And.intro hhW (show (regionP z.2 OS).toNat = κ by rw [hκ]; rfl))
      clear hz hzm hsv hsS hbW hhW hsB hI hκ
      obtain ⟨S, hS⟩ : ∃ S, rgsF (·.2) OS (zs.take k) = S := ⟨_, rfl⟩
      rw [hS] at HIB HK HLZ
      clear hS
      cases ho : z.2.out with
      | true =>
        rw [ho] at HOU
        have HO := hid ho
        clear ho
        go_wp2_with (first
          | (go_at_call 63; refine HRG.out.mono ?_; rintro e w2 ⟨rfl, hb2⟩; have hh2 := (hb2.block _ (lt_of_heap HX.out.1)).trans HX.out.1; have HI2 := hid (HIB.out.fresh hb2); clear y0 y1 y2 y3 y4 y5 y6 y7 y8; obtain ⟨y0, y1, y2, y3, y4, y5, y6, y7, y8⟩ := bd_cells hh2; have HH2 := hid hh2; clear HRG hb2 hh2)
          | (go_at_call 64; refine (HOU.out _).mono ?_; rintro e w3 ⟨rfl, hb3⟩; have hh3 := (hb3.block _ (lt_of_heap HH2.out)).trans HH2.out; have hI3 := HI2.out.fresh hb3; clear y0 y1 y2 y3 y4 y5 y6 y7 y8; obtain ⟨y0, y1, y2, y3, y4, y5, y6, y7, y8⟩ := bd_cells hh3; obtain ⟨e0, _, _⟩ := hI3.cells.at hκm; have f0 := hI3.cells.frz (κ * 3); have HFIN := hid (hI3.outer hκm z); clear HOU hb3 hh3 hI3))
        go_roundw
        case rel =>
          refine ⟨k + 1, IV, NV, by omega, by go_num, ?_⟩
          rw [HK.out]
          unfold rgStep
          rw [if_pos HO.out, HX.out.2]
          exact HFIN.out
        case measure => simp [intOf]; omega
      | false =>
        rw [ho] at HOU
        have HO := hid ho
        clear ho
        have HRUNS := hid (fun W (hW : RgI wS wS.heap.size m S.1 IV NV S.2 (fun _ => []) W) => hW.inner hκm HLZ.out z)
        go_wp2_with (first
          | (go_at_call 63; refine HRG.out.mono ?_; rintro e w2 ⟨rfl, hb2⟩; have hh2 := (hb2.block _ (lt_of_heap HX.out.1)).trans HX.out.1; have HI2 := hid (HIB.out.fresh hb2); clear y0 y1 y2 y3 y4 y5 y6 y7 y8; obtain ⟨y0, y1, y2, y3, y4, y5, y6, y7, y8⟩ := bd_cells hh2; have HH2 := hid hh2; clear HRG hb2 hh2)
          | (go_at_call 64; refine (HOU.out _).mono ?_; rintro e w3 ⟨rfl, hb3⟩; have hh3 := (hb3.block _ (lt_of_heap HH2.out)).trans HH2.out; have hI3 := HI2.out.fresh hb3; clear y0 y1 y2 y3 y4 y5 y6 y7 y8; obtain ⟨y0, _, _, _, _, _, _, _, _⟩ := bd_cells hh3; obtain ⟨io, ic, ao1, cap1, W1, hio, hrun, e1, f1, hI4⟩ := HRUNS.out _ (hI3.fresh (Below.refl _ w3).drew); have y0a : ∀ o, (w3.alloc o).cell? ⟨wr.heap.size, 0, none⟩ = some (.slice z.1.wo z.1.wl z.1.wc) := (fun o => cell_below y0 ((Below.refl _ w3).alloc (Nat.le_refl _) o) (lt_of_cell y0)); obtain ⟨_, e0, _⟩ := hI3.cells.at hκm; rw [hio] at e0; have e0a : ∀ o, (w3.alloc o).cell? ⟨wS.heap.size, κ * 3 + 1, none⟩ = some (.slice io (S.2 κ).length ic) := (fun o => cell_below e0 ((Below.refl _ w3).alloc (Nat.le_refl _) o) (lt_of_cell e0)); have HRUN := hid hrun; have HFIN := hid hI4; clear HOU hb3 hh3 hI3 hrun hI4 hio HRUNS))
        apply wp_oneF (V := W1.setCell ⟨wS.heap.size, κ * 3 + 1, none⟩ (.slice ao1 ((S.2 κ).length + 1) cap1))
        · refine wp_region_noPanic ?_
          go_region_law (first
            | (refine stepAppendF rfl (.tmp 41) (.tmp 44) 65 rfl rfl rfl HRUN.out ?_))
          all_goals exact NoPanic.normal ⟨rfl, rfl, rfl⟩
        clear e0 e0a e1 f1 y0 y0a
        go_wp2
        go_roundw
        case rel =>
          refine ⟨k + 1, updV IV κ (.slice ao1 ((S.2 κ).length + 1) cap1), NV, by omega, by go_num, ?_⟩
          rw [HK.out]
          unfold rgStep
          rw [if_neg (by rw [HO.out]; exact Bool.false_ne_true), HX.out.2]
          exact HFIN.out
        case measure => simp [intOf]; omega
    · have hltI : ¬ (k : Int) < (bl : Int) := by omega
      obtain rfl : k = bl := by omega
      rw [List.take_of_length_le (by rw [hsv.len]; exact Nat.le_refl _)] at hI
      have hpW := (hI.below.block _ (lt_of_heap H1.out.2.2.2.2.2)).trans H1.out.2.2.2.2.2
      have hsW := (hI.below.block _ (lt_of_heap H1.out.2.2.2.1)).trans H1.out.2.2.2.1
      have c0 : wr.cell? ⟨w.heap.size, 0, none⟩ = some (.slice no nl nc) := by simp [World.cell?, hpW]
      have c1 : wr.cell? ⟨w.heap.size, 1, none⟩ = some (.slice ao n cap) := by simp [World.cell?, hpW]
      have HA1 := hid (HAL.out wr (H1.out.2.2.2.2.1.trans (hI.below.mono H1.out.2.2.2.2.1.size)))
      have HI := hid hI
      obtain ⟨S, hS⟩ : ∃ S, rgsF (·.2) OS zs = S := ⟨_, rfl⟩
      rw [hS] at HI
      have HSS := hid hS
      clear hI hsv hpW hsW hS HAL
      go_wp2_with (go_at_call 65; refine HA1.out.mono ?_; rintro e w2 ⟨⟨v, rfl, ao2, g2, cap2, rfl, hat, hrow⟩, hb2⟩; have H2 := hid (And.intro hat (And.intro hrow (HI.out.fresh hb2))); clear HA1 hat hrow hb2 c0 c1)
      have hLl := HALL.out
      go_loopw [52] (fun iv wq => ∃ (j : Nat) (NV : Nat → Value), j ≤ L.length ∧ iv = .int .i64 (j : Int) ∧ RgI wS wS.heap.size m S.1 IV NV S.2 (ndsF OS (L.take j)) wq ∧ NwI wq g2 L.length L) (fun iv _ => L.length - (intOf iv).toNat)
      case atStart => exact ⟨0, NV, Nat.zero_le _, rfl, H2.out.2.2, H2.out.2.1⟩
      case round =>
        obtain ⟨j, NV, hj, rfl, hI, hrow⟩ := hrel
        have hsv := H1.out.1.below hI.below
        by_cases hlt : j < L.length
        · have hltI : (j : Int) < (L.length : Int) := by omega
          obtain ⟨x, hx⟩ : ∃ x, L[j]? = some x := ⟨L[j], by rw [List.getElem?_eq_getElem]⟩
          obtain rfl := H2.out.1 (by omega)
          obtain ⟨a0, a1, a2, a3⟩ := hrow.cells j x hx
          have hsS := (hI.below.block _ (lt_of_heap H1.out.2.2.2.1)).trans H1.out.2.2.2.1
          obtain ⟨Wb, hWb⟩ : ∃ Wb, wr.alloc (nrO x) = Wb := ⟨_, rfl⟩
          have hbW : Below wr.heap.size wr Wb := by rw [← hWb]; exact (Below.refl _ wr).alloc (Nat.le_refl _) _
          have hhW : Wb.heap[wr.heap.size]? = some (nrO x) := by rw [← hWb]; exact World.alloc_heap_new wr _
          have hsB := (hbW.block _ (lt_of_heap hsS)).trans hsS
          have s0 : Wb.cell? ⟨w1.heap.size, 0, none⟩ = some (.slice bo k bc) := by simp [World.cell?, hsB]
          have s1 : Wb.cell? ⟨w1.heap.size, 1, none⟩ = some (.slice oo M oc) := by simp [World.cell?, hsB]
          obtain ⟨y0, y1, y2, y3⟩ := nr_cells hhW
          obtain ⟨κ, hκ, hκm⟩ := HLN.out (fun _ => true) (x.x, x.y)
          have hκI : (κ : Int) < (m : Int) := by omega
          have HRG := hid ((hsv.below hbW).at_ bc oc x.x x.y)
          rw [H1.out.2.2.1, hκ] at HRG
          have HIB := hid (hI.fresh hbW)
          have HRW := hid (hrow.same (hbW.block _ (hrow.lt (by omega))))
          have HK := hid (show ndsF OS (L.take (j + 1)) = updF (ndsF OS (L.take j)) κ (ndsF OS (L.take j) κ ++ [x.id]) by
            rw [List.take_add_one, hx]
            show ndsF OS (L.take j ++ [x]) = _
            rw [ndsF_snoc]
            unfold ndStep
            rw [hκ]
            rfl)
          have HLZ := hid (show (ndsF OS (L.take j) κ).length ≤ 100000 by have := ndsF_len OS (L.take j) κ; have := List.length_take_le j L; omega)
          have HX := hid hhW
          obtain ⟨T, hT⟩ : ∃ T, ndsF OS (L.take j) = T := ⟨_, rfl⟩
          rw [hT] at HIB HK HLZ
          have HRUNS := hid (fun W (hW : RgI wS wS.heap.size m S.1 IV NV S.2 T W) => hW.node hκm HLZ.out x.id)
          clear hx hsv hsS hbW hhW hsB hI hκ hrow hT
          go_wp2_with (go_at_call 61; refine HRG.out.mono ?_; rintro e w3 ⟨rfl, hb3⟩; have hh3 := (hb3.block _ (lt_of_heap HX.out)).trans HX.out; have hI3 := HIB.out.fresh hb3; clear y0 y1 y2 y3; obtain ⟨y0, _, _, _⟩ := nr_cells hh3; obtain ⟨io, ic, ao1, cap1, W1, hio, hrun, e1, f1, hI4, hoff⟩ := HRUNS.out _ (hI3.fresh (Below.refl _ w3).drew); have y0a : ∀ o, (w3.alloc o).cell? ⟨wr.heap.size, 0, none⟩ = some (.int .i64 x.id) := (fun o => cell_below y0 ((Below.refl _ w3).alloc (Nat.le_refl _) o) (lt_of_cell y0)); obtain ⟨_, _, e0⟩ := hI3.cells.at hκm; rw [hio] at e0; have e0a : ∀ o, (w3.alloc o).cell? ⟨wS.heap.size, κ * 3 + 2, none⟩ = some (.slice io (T κ).length ic) := (fun o => cell_below e0 ((Below.refl _ w3).alloc (Nat.le_refl _) o) (lt_of_cell e0)); have HRUN := hid hrun; have hr3 := HRW.out.same (hb3.block _ (HRW.out.lt (by omega))); have HFIN := hid (And.intro hI4 (hr3.same (by obtain ⟨c, hc, _⟩ := hr3.blk (by omega); exact hoff g2 c _ hc (by decide) (by decide)))); clear HRG hb3 hh3 hI3 hrun hI4 hio HRUNS hoff hr3)
          apply wp_oneF (V := W1.setCell ⟨wS.heap.size, κ * 3 + 2, none⟩ (.slice ao1 ((T κ).length + 1) cap1))
          · refine wp_region_noPanic ?_
            go_region_law (first
              | (refine stepAppendF rfl (.tmp 66) (.tmp 69) 47 rfl rfl rfl HRUN.out ?_))
            all_goals exact NoPanic.normal ⟨rfl, rfl, rfl⟩
          clear e0 e0a e1 f1 y0 y0a
          go_wp2
          go_roundw
          case rel =>
            refine ⟨j + 1, updV NV κ (.slice ao1 ((T κ).length + 1) cap1), by omega, by go_num, ?_, HFIN.out.2⟩
            rw [HK.out]
            exact HFIN.out.1
          case measure => simp [intOf]; omega
        · have hltI : ¬ (j : Int) < (L.length : Int) := by omega
          have hjL : j = L.length := by omega
          rw [hjL, List.take_of_length_le (Nat.le_refl _)] at hI
          have HFIN := hid (And.intro hI hsv)
          clear hI hsv hrow hjL
          go_wp2
          go_ret
          obtain ⟨hI, hsv⟩ := HFIN.out
          refine ⟨⟨_, rfl, wS.heap.size, wS, zs, IV, NV, rfl, H1.out.2.1, ?_, fun z hz => (hsv.is z hz).base HB.out.1.size⟩, H1.out.2.2.2.2.1.trans (hI.below.mono H1.out.2.2.2.2.1.size)⟩
          rw [HSS.out]
          exact hI
end Go.Proofs.YtkdnkmheidbfdaaGreat

namespace Go.Proofs.YtkdnkmheidbfdaaGreat
open Go.RowKit Go.Shelf Go.Sort Go.Maps

/-- Is q on the line of edge k? -/
def onE (ls : List (List Pp)) (q : Pp) (k : Nat) : Bool := (athL (ls.getD k []) q).isSome
theorem atI_ge (o : Option Nat) : decide (0 ≤ atI o) = o.isSome := by
  cases o with
  | none => rfl
  | some k => simp [atI]
abbrev erO (x : ER) : Obj := .cells #[.int .i64 x.id, .int .i64 x.st, .int .i64 x.en, .slice x.lo x.ll x.lc, .int .i64 x.lf, .int .i64 x.rt] 29 (0, 0)

set_option maxRecDepth 100000 in
set_option maxHeartbeats 1600000 in
theorem taken2_any (x : ER) {l : List Pp} {qx qy : Int} {g : Nat} {w : World} (hs : Src w (.slice x.lo x.ll x.lc) l) (hl : l.length ≤ 1000) (h0 : w.cell? ⟨g, 0, none⟩ = some (.int .i64 qx)) (h1 : w.cell? ⟨g, 1, none⟩ = some (.int .i64 qy)) :
    Calls Tryz.prog 86 #[erV x, .pointer (some ⟨g, 0, none⟩)] w fun e w' => e = .returned (.bool (athL l (qx, qy)).isSome) ∧ Below w.heap.size w w' := by
  obtain ⟨wA, hwA⟩ : ∃ wA, w.alloc (erO x) = wA := ⟨_, rfl⟩
  have hbA : Below w.heap.size w wA := by rw [← hwA]; exact (Below.refl _ w).alloc (Nat.le_refl _) _
  obtain ⟨a0, a1, a2, a3, a4, a5⟩ : EAt wA w.heap.size 0 x := by rw [← hwA]; exact ebox w x _
  have b0 := cell_below h0 hbA (lt_of_cell h0)
  have b1 := cell_below h1 hbA (lt_of_cell h1)
  have HA := hid (lineAtH_any _ l qx qy wA (hs.below hbA).pts (by omega))
  have HB := hid hbA
  rw [← atI_ge]
  generalize atI (athL l (qx, qy)) = z at HA ⊢
  clear hbA h0 h1 hs
  go_enter Tryz.func86, Tryz.ntmps86
  go_wp2_with (go_at_call 82; refine HA.out.mono ?_; rintro e w1 ⟨rfl, hb1⟩; have H1 := hid (HB.out.trans (hb1.mono HB.out.size)); clear hb1 HA)
  go_ret
  exact ⟨rfl, H1.out⟩

set_option maxRecDepth 100000 in
set_option maxHeartbeats 1600000 in
theorem indexT_any {w : World} {b off n cap : Nat} {ao : Option Addr} {xs : List ER} {ls : List (List Pp)} (h : PlE w b off n ao xs ls) {qx qy : Int} {g : Nat} (h0 : w.cell? ⟨g, 0, none⟩ = some (.int .i64 qx)) (h1 : w.cell? ⟨g, 1, none⟩ = some (.int .i64 qy)) :
    Calls Tryz.prog 71 #[.slice ao n cap, .func (.func 86) #[] #[.pointer (some ⟨g, 0, none⟩)]] w fun e w' => (∃ r : Int, e = .returned (.int .i64 r) ∧ decide (0 ≤ r) = (List.range n).any (onE ls (qx, qy))) ∧ Below w.heap.size w w' := by
  have HC0 := hid (fun (k : Nat) (x : ER) (hx : xs[k]? = some x) W (hW : Below w.heap.size w W) => taken2_any x (w := W) (l := ls.getD k []) ((h.lines k x hx).1.below hW) (h.short k) (cell_below h0 hW (lt_of_cell h0)) (cell_below h1 hW (lt_of_cell h1)))
  have HE := hid (fun (k : Nat) (x : ER) (hx : xs[k]? = some x) W (hW : Below w.heap.size w W) => (h.cells k x hx).below hW (h.cells k x hx).lt)
  have HAO := hid h.at'
  have hln := h.len
  have hfew := h.few
  clear h h0 h1
  go_enter Tryz.func71, Tryz.ntmps71
  go_wp2
  go_loopw [5, 8] (fun _ iv wr => ∃ k : Nat, k ≤ n ∧ iv = .int .i64 (k : Int) ∧ (∀ j, j < k → onE ls (qx, qy) j = false) ∧ Below w.heap.size w wr) (fun _ iv _ => n - (intOf iv).toNat)
  case atStart => exact ⟨0, Nat.zero_le _, rfl, (fun j hj => absurd hj (Nat.not_lt_zero j)), Below.refl _ _⟩
  case round =>
    obtain ⟨k, hk, rfl, hno, hbr⟩ := hrel
    have HBR := hid hbr
    have HNO := hid hno
    clear hno
    by_cases hlt : k < n
    · have hltI : (k : Int) < (n : Int) := by omega
      obtain ⟨x, hx⟩ : ∃ x, xs[k]? = some x := ⟨xs[k]'(by omega), by rw [List.getElem?_eq_getElem]⟩
      obtain rfl := HAO.out (by omega)
      obtain ⟨a0, a1, a2, a3, a4, a5⟩ := HE.out k x hx wr hbr
      have HC := hid (HC0.out k x hx wr hbr)
      clear hx hbr
      obtain ⟨B, hB⟩ : ∃ B, onE ls (qx, qy) k = B := ⟨_, rfl⟩
      have hB' : (athL (ls.getD k []) (qx, qy)).isSome = B := hB
      rw [hB'] at HC
      have HBK := hid hB
      clear hB hB'
      cases B with
      | true =>
        go_wp2_with (go_at_call 86; refine HC.out.mono ?_; rintro e w1 ⟨rfl, hb1⟩; have HB1 := hid (HBR.out.trans (hb1.mono HBR.out.size)); clear hb1 HC)
        go_ret
        refine ⟨?_, HB1.out⟩
        have q : (List.range n).any (onE ls (qx, qy)) = true := List.any_eq_true.2 ⟨k, List.mem_range.2 hlt, HBK.out⟩
        rw [q]
        simp
      | false =>
        go_wp2_with (go_at_call 86; refine HC.out.mono ?_; rintro e w1 ⟨rfl, hb1⟩; have HB1 := hid (HBR.out.trans (hb1.mono HBR.out.size)); clear hb1 HC)
        go_roundw
        case rel =>
          refine ⟨k + 1, by omega, by go_num, fun j hj => ?_, HB1.out⟩
          by_cases e : j = k
          · rw [e]; exact HBK.out
          · exact HNO.out j (by omega)
        case measure => simp [intOf]; omega
    · have hltI : ¬ (k : Int) < (n : Int) := by omega
      have HX := hid (show (List.range n).any (onE ls (qx, qy)) = false by
        rw [List.any_eq_false]
        intro j hj
        rw [HNO.out j (by have := List.mem_range.1 hj; omega)]
        exact Bool.false_ne_true)
      clear hbr
      go_wp2
      go_ret
      refine ⟨?_, HBR.out⟩
      rw [HX.out]
      simp

set_option maxRecDepth 100000 in
set_option maxHeartbeats 1600000 in
theorem containsT_any {w : World} {b off n cap : Nat} {ao : Option Addr} {xs : List ER} {ls : List (List Pp)} (h : PlE w b off n ao xs ls) {qx qy : Int} {g : Nat} (h0 : w.cell? ⟨g, 0, none⟩ = some (.int .i64 qx)) (h1 : w.cell? ⟨g, 1, none⟩ = some (.int .i64 qy)) :
    Calls Tryz.prog 41 #[.slice ao n cap, .func (.func 86) #[] #[.pointer (some ⟨g, 0, none⟩)]] w fun e w' => e = .returned (.bool ((List.range n).any (onE ls (qx, qy)))) ∧ Below w.heap.size w w' := by
  have HC := hid (indexT_any (cap := cap) h h0 h1)
  generalize (List.range n).any (onE ls (qx, qy)) = R at HC ⊢
  clear h h0 h1
  go_enter Tryz.func41, Tryz.ntmps41
  go_wp2_with (go_at_call 71; refine HC.out.mono ?_; rintro e w1 ⟨⟨r, rfl, hr⟩, hb1⟩; have HB1 := hid (And.intro hr hb1); clear hr hb1 HC)
  go_ret
  exact ⟨by rw [HB1.out.1]; rfl, HB1.out.2⟩

/-- Is q a node of a plan, or on an edge? -/
def takenF (ns : List NR) (n : Nat) (ls : List (List Pp)) (q : Pp) : Bool := ns.any (atN q.1 q.2) || (List.range n).any (onE ls q)
set_option maxRecDepth 100000 in
set_option maxHeartbeats 3200000 in
theorem taken_any {w : World} {b off n cap : Nat} {ao : Option Addr} {xs : List ER} {ls : List (List Pp)} (h : PlE w b off n ao xs ls) {nb noff nl nc : Nat} {no : Option Addr} {ns : List NR} (hd : NdE w nb noff nl no ns) (qx qy : Int) :
    Calls Tryz.prog 59 #[plV (.slice no nl nc) (.slice ao n cap), pv qx qy] w fun e w' => e = .returned (.bool (takenF ns n ls (qx, qy))) ∧ Below w.heap.size w w' := by
  obtain ⟨wP, hwP⟩ : ∃ wP, w.alloc (.cells #[.slice no nl nc, .slice ao n cap] 32) = wP := ⟨_, rfl⟩
  have hbP : Below w.heap.size w wP := by rw [← hwP]; exact (Below.refl _ w).alloc (Nat.le_refl _) _
  have hhP : wP.heap[w.heap.size]? = some (.cells #[.slice no nl nc, .slice ao n cap] 32 (0, 0)) := by rw [← hwP]; exact World.alloc_heap_new w _
  obtain ⟨wQ, hwQ⟩ : ∃ wQ, wP.alloc (.cells #[.int .i64 qx, .int .i64 qy] 23) = wQ := ⟨_, rfl⟩
  have hbQ : Below wP.heap.size wP wQ := by rw [← hwQ]; exact (Below.refl _ wP).alloc (Nat.le_refl _) _
  have hhQ : wQ.heap[wP.heap.size]? = some (.cells #[.int .i64 qx, .int .i64 qy] 23 (0, 0)) := by rw [← hwQ]; exact World.alloc_heap_new wP _
  have hh2 := (hbQ.block _ (lt_of_heap hhP)).trans hhP
  have hb : Below w.heap.size w wQ := hbP.trans (hbQ.mono hbP.size)
  have c0 : wQ.cell? ⟨w.heap.size, 0, none⟩ = some (.slice no nl nc) := by simp [World.cell?, hh2]
  have c1 : wQ.cell? ⟨w.heap.size, 1, none⟩ = some (.slice ao n cap) := by simp [World.cell?, hh2]
  have q0 : wQ.cell? ⟨wP.heap.size, 0, none⟩ = some (.int .i64 qx) := by simp [World.cell?, hhQ]
  have q1 : wQ.cell? ⟨wP.heap.size, 1, none⟩ = some (.int .i64 qy) := by simp [World.cell?, hhQ]
  have HN := hid (containsN_any (cap := nc) (hd.below hb) q0 q1)
  have HT := hid (fun W (hW : Below wQ.heap.size wQ W) => containsT_any (cap := cap) (h.below (hb.trans (hW.mono hb.size))) (cell_below q0 hW (lt_of_cell q0)) (cell_below q1 hW (lt_of_cell q1)))
  have HB := hid hb
  unfold takenF
  dsimp only
  clear h hd hbP hhP hbQ hhQ hh2 hb
  cases hn : ns.any (atN qx qy) with
  | true =>
    rw [hn] at HN
    clear hn
    go_enter Tryz.func59, Tryz.ntmps59
    go_wp2_with (go_at_call 84; refine HN.out.mono ?_; rintro e w1 ⟨rfl, hb1⟩; have H1 := hid (HB.out.trans (hb1.mono HB.out.size)); clear hb1 HN)
    go_ret
    exact ⟨rfl, H1.out⟩
  | false =>
    rw [hn] at HN
    clear hn
    go_enter Tryz.func59, Tryz.ntmps59
    go_wp2_with (first
      | (go_at_call 84; refine HN.out.mono ?_; rintro e w1 ⟨rfl, hb1⟩; have H1 := hid hb1; have d1 := cell_below c1 hb1 (lt_of_cell c1); clear hb1 HN)
      | (go_at_call 41; refine (HT.out _ H1.out).mono ?_; rintro e w2 ⟨rfl, hb2⟩; have H2 := hid (HB.out.trans ((H1.out.trans (hb2.mono H1.out.size)).mono HB.out.size)); clear hb2 HT))
    go_ret
    exact ⟨rfl, H2.out⟩
set_option maxRecDepth 100000 in
set_option maxHeartbeats 3200000 in
theorem faceAt_any {w : World} {b off n cap : Nat} {ao : Option Addr} {xs : List ER} {ls : List (List Pp)} (h : PlE w b off n ao xs ls) {nb noff nl nc : Nat} {no : Option Addr} {ns : List NR} (hd : NdE w nb noff nl no ns) (hP : ∀ r ∈ ringsL xs ls, (ringPtsF xs ls r).length ≤ 4096) (hout : ((bordersL xs ls).filter BP.out).length ≤ 19) (qx qy : Int) :
    Calls Tryz.prog 29 #[plV (.slice no nl nc) (.slice ao n cap), pv qx qy] w fun e w' => e = .returned (.tuple #[.int .i64 (if takenF ns n ls (qx, qy) then 0 else leastP (fun _ => true) (qx, qy) (outersL xs ls)), .bool !(takenF ns n ls (qx, qy))]) ∧ Below w.heap.size w w' := by
  obtain ⟨wP, hwP⟩ : ∃ wP, w.alloc (.cells #[.slice no nl nc, .slice ao n cap] 32) = wP := ⟨_, rfl⟩
  have hbP : Below w.heap.size w wP := by rw [← hwP]; exact (Below.refl _ w).alloc (Nat.le_refl _) _
  have hhP : wP.heap[w.heap.size]? = some (.cells #[.slice no nl nc, .slice ao n cap] 32 (0, 0)) := by rw [← hwP]; exact World.alloc_heap_new w _
  obtain ⟨wQ, hwQ⟩ : ∃ wQ, wP.alloc (.cells #[.int .i64 qx, .int .i64 qy] 23) = wQ := ⟨_, rfl⟩
  have hbQ : Below wP.heap.size wP wQ := by rw [← hwQ]; exact (Below.refl _ wP).alloc (Nat.le_refl _) _
  have hhQ : wQ.heap[wP.heap.size]? = some (.cells #[.int .i64 qx, .int .i64 qy] 23 (0, 0)) := by rw [← hwQ]; exact World.alloc_heap_new wP _
  have hh2 := (hbQ.block _ (lt_of_heap hhP)).trans hhP
  have hb : Below w.heap.size w wQ := hbP.trans (hbQ.mono hbP.size)
  have c0 : wQ.cell? ⟨w.heap.size, 0, none⟩ = some (.slice no nl nc) := by simp [World.cell?, hh2]
  have c1 : wQ.cell? ⟨w.heap.size, 1, none⟩ = some (.slice ao n cap) := by simp [World.cell?, hh2]
  have q0 : wQ.cell? ⟨wP.heap.size, 0, none⟩ = some (.int .i64 qx) := by simp [World.cell?, hhQ]
  have q1 : wQ.cell? ⟨wP.heap.size, 1, none⟩ = some (.int .i64 qy) := by simp [World.cell?, hhQ]
  have HT := hid (taken_any (cap := cap) (nc := nc) (h.below hb) (hd.below hb) qx qy)
  have HL := hid (fun W (hW : Below w.heap.size w W) => look_any (cap := cap) (h.below hW) no nl nc hP hout)
  have HB := hid hb
  clear h hd hP hout hbP hhP hbQ hhQ hh2 hb
  generalize outersL xs ls = OS at HL ⊢
  cases ht : takenF ns n ls (qx, qy) with
  | true =>
    rw [ht] at HT
    clear ht HL
    go_enter Tryz.func29, Tryz.ntmps29
    go_wp2_with (go_at_call 59; refine HT.out.mono ?_; rintro e w1 ⟨rfl, hb1⟩; have H1 := hid (HB.out.trans (hb1.mono HB.out.size)); clear hb1 HT)
    go_ret2
    exact ⟨rfl, H1.out⟩
  | false =>
    rw [ht] at HT
    clear ht
    go_enter Tryz.func29, Tryz.ntmps29
    go_wp2_with (go_at_call 59; refine HT.out.mono ?_; rintro e w1 ⟨rfl, hb1⟩; have H1 := hid (HB.out.trans (hb1.mono HB.out.size)); have d0 := cell_below c0 hb1 (lt_of_cell c0); have d1 := cell_below c1 hb1 (lt_of_cell c1); have r0 := cell_below q0 hb1 (lt_of_cell q0); have r1 := cell_below q1 hb1 (lt_of_cell q1); clear hb1 HT c0 c1 q0 q1)
    go_region_held (fun w' => w'.cell? ⟨w.heap.size, 0, none⟩ = some (.slice no nl nc) ∧ w'.cell? ⟨w.heap.size, 1, none⟩ = some (.slice ao n cap) ∧ w'.cell? ⟨wP.heap.size, 0, none⟩ = some (.int .i64 qx) ∧ w'.cell? ⟨wP.heap.size, 1, none⟩ = some (.int .i64 qy)) (first | exact ⟨d0, d1, r0, r1⟩ | exact HX2.out | exact HX3.out) (first
      | (go_at_call 60; refine (HL.out _ H1.out.drew).mono ?_; rintro e w2 ⟨bo, bl, bc, oo, ol, oc, gb, g, zs, os, rfl, hsv, hzs, hos, hol, hb2⟩; have HX2 := hid (And.intro (cell_below (show w1.drew.cell? ⟨w.heap.size, 0, none⟩ = _ from d0) hb2 (lt_of_cell d0)) (And.intro (cell_below (show w1.drew.cell? ⟨w.heap.size, 1, none⟩ = _ from d1) hb2 (lt_of_cell d1)) (And.intro (cell_below (show w1.drew.cell? ⟨wP.heap.size, 0, none⟩ = _ from r0) hb2 (lt_of_cell r0)) (cell_below (show w1.drew.cell? ⟨wP.heap.size, 1, none⟩ = _ from r1) hb2 (lt_of_cell r1))))); have HA := hid (hsv.at_ bc oc qx qy); rw [hos] at HA; have H2 := hid (H1.out.trans (((Below.refl _ w1).drew.trans hb2).mono H1.out.size)); clear HL hsv hzs hos hol hb2)
      | (go_at_call 61; refine HA.out.mono ?_; rintro e w3 ⟨rfl, hb3⟩; have HX3 := hid (And.intro (cell_below HX2.out.1 hb3 (lt_of_cell HX2.out.1)) (And.intro (cell_below HX2.out.2.1 hb3 (lt_of_cell HX2.out.2.1)) (And.intro (cell_below HX2.out.2.2.1 hb3 (lt_of_cell HX2.out.2.2.1)) (cell_below HX2.out.2.2.2 hb3 (lt_of_cell HX2.out.2.2.2))))); have H3 := hid (H2.out.trans (hb3.mono H2.out.size)); clear HA hb3))
    go_wp2
    go_ret2
    exact ⟨rfl, H3.out⟩
end Go.Proofs.YtkdnkmheidbfdaaGreat
