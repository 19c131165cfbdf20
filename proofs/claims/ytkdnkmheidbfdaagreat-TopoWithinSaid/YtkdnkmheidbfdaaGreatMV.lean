/-
  Layer 15: DeleteFunc of nodes.
-/
import Derived.Test.YtkdnkmheidbfdaaGreatMU
import Derived.Deep.RegionLaw
namespace Go.Proofs.YtkdnkmheidbfdaaGreat
open Go.RowKit Go.Sort Go.Maps

theorem DlI.fresh {w W W' : World} {base g n j c : Nat} {f : Int → Option Int} {L : List NR} (h : DlI w base g n j c f L W) (hb : Below W.heap.size W W') (hg : g < W.heap.size) (hs : base ≤ W.heap.size) : DlI w base g n j c f L W' := by
  obtain ⟨X, hX, hrow⟩ := h.row
  exact ⟨h.cnt, ⟨X, hX, hrow.same (hb.block _ hg)⟩, h.kg.trans (KG.below hb), h.below.trans (hb.mono hs)⟩
theorem setCells_heap {t : TypeId} {g : Nat} : ∀ (vs : List Value) (o : Nat) (W : World) (C : Array Value), W.heap[g]? = some (.cells C t (0, 0)) → ∃ C' : Array Value, (W.setCells g o vs).heap[g]? = some (.cells C' t (0, 0)) ∧ C'.size = C.size
  | [], _, _, C, h => ⟨C, h, rfl⟩
  | v :: vs, o, W, C, h => by
    obtain ⟨C', h1, h2⟩ := setCells_heap vs (o + 1) (W.setCell ⟨g, o, none⟩ v) _ (set1 h v)
    exact ⟨C', h1, by rw [h2]; simp⟩
theorem setCells_below {w : World} {base g : Nat} (hg : base ≤ g) : ∀ (vs : List Value) (o : Nat) (W : World), Below base w W → Below base w (W.setCells g o vs)
  | [], _, _, h => h
  | v :: vs, o, _W, h => setCells_below hg vs (o + 1) _ (h.setCell (p := ⟨g, o, none⟩) hg v)
theorem setCells_kg {g : Nat} : ∀ (vs : List Value) (o : Nat) (W : World), KG g W (W.setCells g o vs)
  | [], _, W => KG.refl g W
  | v :: vs, o, W => (⟨by rw [World.size_setCell]; exact Nat.le_refl _, fun _ _ hk => RowKit.Below.heap_setCell _ _ _ _ hk⟩ : KG g W (W.setCell ⟨g, o, none⟩ v)).trans (setCells_kg vs (o + 1) _)
/-- What stands ahead of the cells that are cleared. -/
theorem NwI.head {W : World} {g n c : Nat} {F X : List NR} (h : NwI W g n (F ++ X)) (hc : F.length = c) (vs : List Value) : NwI (W.setCells g (c * 4) vs) g c F := by
  have hl := h.len
  rw [List.length_append] at hl
  refine ⟨hc, fun h1 => ?_, fun k x hx => ?_⟩
  · obtain ⟨C, hC, hs⟩ := h.blk (by omega)
    obtain ⟨C', h2, h3⟩ := setCells_heap vs (c * 4) W C hC
    exact ⟨C', h2, by omega⟩
  · have hk : k < F.length := (List.getElem?_eq_some_iff.1 hx).1
    obtain ⟨h0, h1, h2, h3⟩ := h.cells k x (by rw [List.getElem?_append_left hk]; exact hx)
    have key : ∀ r u, r < 4 → W.cell? ⟨g, k * 4 + r, none⟩ = some u → (W.setCells g (c * 4) vs).cell? ⟨g, k * 4 + r, none⟩ = some u := fun r u hr hu => by
      rw [World.cell?_setCells_out g vs (c * 4) W ⟨g, k * 4 + r, none⟩ (fun _ _ => .inl (by show k * 4 + r < c * 4; omega))]
      exact hu
    exact ⟨key 0 _ (by omega) h0, key 1 _ (by omega) h1, key 2 _ (by omega) h2, key 3 _ (by omega) h3⟩

set_option maxRecDepth 100000 in
set_option maxHeartbeats 6400000 in
theorem deleteJ_any {w : World} {base g n cap : Nat} {ao : Option Addr} {L : List NR} (h : NwI w g n L) (hbg : base ≤ g) (hbw : base ≤ w.heap.size) (hao : 1 ≤ n → ao = some ⟨g, 0, none⟩) (hcap : n ≤ cap) (hl : n ≤ 1000) {J B N : Nat} {f : Int → Option Int} (hJ : w.cell? ⟨J, 0, none⟩ = some (.map (some B))) (hm : MapI w B N f) (hJg : J ≠ g) (hBg : B ≠ g) (hn : ∀ x ∈ L, -1000000 ≤ x.id ∧ x.id ≤ 1000000) :
    Calls Tryz.prog 98 #[.slice ao n cap, .func (.func 99) #[] #[.pointer (some ⟨J, 0, none⟩)]] w fun e w' => e = .returned (.slice ao (L.filter (notJ f)).length cap) ∧ NwI w' g (L.filter (notJ f)).length (L.filter (notJ f)) ∧ KG g w w' ∧ Below base w w' := by
  have HIX := hid (indexJ_any (cap := cap) h hao hl hJ hm hn)
  have HE := hid h
  have HBG := hid (And.intro hbg hbw)
  have HN := hid hn
  have HC1 := hid (fun W (hW : KG g w W) x (hx : x ∈ L) => alone1_any x (w := W) (by rw [← hJ]; exact cellSame 0 (hW.keep J (lt_of_cell hJ) hJg)) (mapI_same hm (hW.keep B (by obtain ⟨o, ho, _⟩ := mapI_block hm; exact lt_of_heap ho) hBg)) (hn x hx))
  clear hJ hm hn hJg hBg
  by_cases hi : idxP (isJ f) L 0 = -1
  · have hall := idxP_none L 0 hi
    have hfl : L.filter (notJ f) = L := List.filter_eq_self.2 fun x hx => by unfold notJ; rw [hall x hx]; rfl
    rw [hi] at HIX
    rw [hfl, h.len]
    clear hi hall hfl h hao hbg hbw
    go_enter Tryz.func98, Tryz.ntmps98
    go_wp2_with (go_at_call 43; refine HIX.out.mono ?_; rintro e w1 ⟨rfl, hb1⟩; have H1 := hid hb1; clear hb1 HIX)
    go_ret
    refine ⟨rfl, ?_, KG.below H1.out, H1.out.mono HBG.out.2⟩
    by_cases h1 : 1 ≤ n
    · exact HE.out.same (H1.out.block _ (HE.out.lt h1))
    · refine ⟨HE.out.len, fun h2 => absurd h2 h1, fun k x hx => ?_⟩
      have := (List.getElem?_eq_some_iff.1 hx).1
      have := HE.out.len
      omega
  · obtain ⟨j0, x0, hj0, hx0, hf0, ht0⟩ := idxP_some L 0 hi
    rw [Nat.zero_add] at hj0
    rw [hj0] at HIX
    have hj0n : j0 < n := by have := (List.getElem?_eq_some_iff.1 hx0).1; have := h.len; omega
    have hgl := h.lt (by omega)
    obtain rfl := hao (by omega)
    have HS := hid (show ∀ W, Below w.heap.size w W → DlI w base g n (j0 + 1) j0 f L W from fun W hW => by
      have hfl : (L.take j0).filter (notJ f) = L.take j0 := List.filter_eq_self.2 fun x hx => by unfold notJ; rw [ht0 x hx]; rfl
      have q : DlI w base g n j0 j0 f L W := ⟨by rw [hfl, List.length_take]; have := HE.out.len; omega, ⟨[], by simp, by rw [hfl, List.append_nil, List.take_append_drop]; exact HE.out.same (hW.block _ hgl)⟩, KG.below hW, hW.mono HBG.out.2⟩
      exact q.skip hx0 hf0 (KG.refl _ _) rfl (hW.mono HBG.out.2))
    have hw0 : IntKind.i64.wrap ((j0 : Int) + 1) = (j0 : Int) + 1 := by rw [IntKind.wrap_i64]; omega
    have hj1 : (((j0 : Int)) == -1) = false := beq_eq_false_iff_ne.2 (by omega)
    have HG := hid hgl
    clear hi hj0 hx0 hf0 ht0 h hao hbg hbw hgl
    go_enter Tryz.func98, Tryz.ntmps98
    go_wp2_with (go_at_call 43; refine HIX.out.mono ?_; rintro e w1 ⟨rfl, hb1⟩; have H1 := hid hb1; clear hb1 HIX)
    go_loopw [5, 6] (fun cv iv wr => ∃ c j : Nat, c < j ∧ j ≤ n ∧ cv = .int .i64 (c : Int) ∧ iv = .int .i64 (j : Int) ∧ DlI w base g n j c f L wr) (fun _ iv _ => n - (intOf iv).toNat)
    case atStart => exact ⟨j0, j0 + 1, Nat.lt_succ_self _, hj0n, rfl, by go_num, HS.out _ H1.out⟩
    case round =>
      obtain ⟨c, j, hcj, hjn, rfl, rfl, hD⟩ := hrel
      have HD := hid hD
      have hgr : g < wr.heap.size := Nat.lt_of_lt_of_le HG.out hD.kg.size
      have hsr : base ≤ wr.heap.size := Nat.le_trans HBG.out.2 hD.kg.size
      clear hD hj0n hj1 hw0 HS
      by_cases hlt : j < n
      · have hltI : (j : Int) < (n : Int) := by omega
        have hcI : (c : Int) < (n : Int) := by omega
        obtain ⟨x, hx⟩ : ∃ x, L[j]? = some x := ⟨L[j]'(by have := HE.out.len; omega), by rw [List.getElem?_eq_getElem]⟩
        have hcx : NAt wr g (j * 4) x := by
          obtain ⟨X, hX, hrow⟩ := HD.out.row
          refine hrow.cells j x ?_
          rw [List.getElem?_append_right (by rw [List.length_append, HD.out.cnt]; omega), List.length_append, HD.out.cnt, show j - (c + X.length) = 0 by omega, List.getElem?_drop]
          exact hx
        obtain ⟨a0, a1, a2, a3⟩ := hcx
        obtain ⟨Wb, hWb⟩ : ∃ Wb, wr.alloc (nrO x) = Wb := ⟨_, rfl⟩
        have hbW : Below wr.heap.size wr Wb := by rw [← hWb]; exact (Below.refl _ wr).alloc (Nat.le_refl _) _
        have hhW : Wb.heap[wr.heap.size]? = some (nrO x) := by rw [← hWb]; exact World.alloc_heap_new wr _
        obtain ⟨b0, b1, b2, b3⟩ := nr_cells hhW
        have HC := hid (HC1.out Wb (HD.out.kg.trans (KG.below hbW)) x (List.mem_of_getElem? hx))
        have HX := hid (And.intro hx (And.intro hbW hhW))
        have HGR := hid (And.intro hgr hsr)
        clear hx hbW hhW hgr hsr
        cases ha : isJ f x with
        | true =>
          rw [ha] at HC
          have HA := hid ha
          clear ha
          go_wp2_with (go_at_call 99; refine HC.out.mono ?_; rintro e w2 ⟨rfl, hb2⟩; have H2 := hid (HX.out.2.1.trans (hb2.mono HX.out.2.1.size)); clear hb2 HC)
          have HFIN := hid (HD.out.skip HX.out.1 HA.out (KG.below H2.out) (H2.out.block _ HGR.out.1) (HD.out.below.trans (H2.out.mono HGR.out.2)))
          go_roundw
          case rel => exact ⟨c, j + 1, by omega, by omega, rfl, by go_num, HFIN.out⟩
          case measure => simp [intOf]; omega
        | false =>
          rw [ha] at HC
          have HA := hid ha
          clear ha
          have HD2 := hid (fun W (hW : Below wr.heap.size wr W) => HD.out.fresh hW HGR.out.1 HGR.out.2)
          go_wp2_with (go_at_call 99; refine HC.out.mono ?_; rintro e w2 ⟨rfl, hb2⟩; have H2 := hid (HX.out.2.1.trans (hb2.mono HX.out.2.1.size)); have hh2 := (hb2.block _ (lt_of_heap HX.out.2.2)).trans HX.out.2.2; clear b0 b1 b2 b3; obtain ⟨b0, b1, b2, b3⟩ := nr_cells hh2; obtain ⟨X2, hX2, hrow2⟩ := (HD2.out _ H2.out).row; obtain ⟨z, hz⟩ : ∃ z, ((L.take j).filter (notJ f) ++ X2 ++ L.drop j)[c]? = some z := ⟨_, List.getElem?_eq_getElem (by have := hrow2.len; omega)⟩; obtain ⟨z0, z1, z2, z3⟩ := hrow2.cells c z hz; have f0 := hrow2.frz (by omega) (c * 4); have f1 := hrow2.frz (by omega) (c * 4 + 1); have f2 := hrow2.frz (by omega) (c * 4 + 2); have f3 := hrow2.frz (by omega) (c * 4 + 3); have HFIN := hid ((HD2.out _ H2.out).keep HX.out.1 HA.out hcj HBG.out.1); clear hb2 HC hh2 hX2 hrow2 hz)
          unfold put4 at HFIN
          go_roundw
          case rel => exact ⟨c + 1, j + 1, by omega, by omega, by go_num, by go_num, HFIN.out⟩
          case measure => simp [intOf]; omega
      · have hltI : ¬ (j : Int) < (n : Int) := by omega
        obtain rfl : j = n := by omega
        obtain ⟨X, hX, hrow⟩ := HD.out.row
        have hcn := HD.out.cnt
        rw [List.take_of_length_le (by have := HE.out.len; omega)] at hrow hcn
        rw [List.drop_of_length_le (by have := HE.out.len; omega), List.append_nil] at hrow
        have HCN := hid hcn
        obtain ⟨C, hC, hCs⟩ := hrow.blk (by omega)
        have HCL := hid (fun ty => run_clearN wr ty (g := g) (o := c * 4) (m := j - c) (c := cap - c) hC (by omega) (by omega))
        have HFIN := hid (And.intro (hrow.head hcn (List.replicate ((j - c) * 4) (.int .i64 0))) (And.intro (HD.out.kg.trans (setCells_kg (List.replicate ((j - c) * 4) (.int .i64 0)) (c * 4) wr)) (setCells_below HBG.out.1 (List.replicate ((j - c) * 4) (.int .i64 0)) (c * 4) wr HD.out.below)))
        have hci : ¬ cap = c := by omega
        have hcI : (c : Int) ≤ (j : Int) := by omega
        have hcC : (c : Int) ≤ (cap : Int) := by omega
        clear hX hrow hcn hC hCs
        have hcl := HCL.out 0
        clear HCL
        go_wp2
        go_ret
        rw [HCN.out]
        exact ⟨rfl, HFIN.out.1, HFIN.out.2.1, HFIN.out.2.2⟩
end Go.Proofs.YtkdnkmheidbfdaaGreat

namespace Go.Proofs.YtkdnkmheidbfdaaGreat
open Go.RowKit Go.Sort Go.Maps

theorem riseN_filter {xs : List NR} (h : RiseN xs) (p : NR → Bool) : RiseN (xs.filter p) := by
  have h1 : xs.Pairwise (fun a b => a.id < b.id) := List.pairwise_iff_getElem.2 fun i j hi hj hij => h i j _ _ hij (List.getElem?_eq_getElem hi) (List.getElem?_eq_getElem hj)
  have h2 := List.pairwise_iff_getElem.1 (h1.filter p)
  intro i j x y hij hx hy
  obtain ⟨hi, rfl⟩ := List.getElem?_eq_some_iff.1 hx
  obtain ⟨hj, rfl⟩ := List.getElem?_eq_some_iff.1 hy
  exact h2 i j hi hj hij
/-- A row of nodes that a call leaves. -/
def RowN (w' : World) (v : Value) (L : List NR) : Prop := ∃ ao g cap, v = .slice ao L.length cap ∧ (1 ≤ L.length → ao = some ⟨g, 0, none⟩) ∧ NwI w' g L.length L

set_option maxRecDepth 100000 in
set_option maxHeartbeats 3200000 in
theorem alone_any {w : World} {b off n cap : Nat} {ao : Option Addr} {xs : List ER} {ls : List (List Pp)} (h : PlE w b off n ao xs ls) {nb noff nl nc : Nat} {no : Option Addr} {ns : List NR} (hd : NdE w nb noff nl no ns) (h0 : nl = 0 → no = none) (hi : ∀ x ∈ ns, -1000000 ≤ x.id ∧ x.id ≤ 1000000) (hr : RiseN ns) :
    Calls Tryz.prog 65 #[plV (.slice no nl nc) (.slice ao n cap)] w fun e w' => (∃ v, e = .returned v ∧ RowN w' v (ns.filter (notJ (partsF n xs)))) ∧ Below w.heap.size w w' := by
  obtain ⟨wP, hwP⟩ : ∃ wP, w.alloc (.cells #[.slice no nl nc, .slice ao n cap] 32) = wP := ⟨_, rfl⟩
  have hbP : Below w.heap.size w wP := by rw [← hwP]; exact (Below.refl _ w).alloc (Nat.le_refl _) _
  have hhP : wP.heap[w.heap.size]? = some (.cells #[.slice no nl nc, .slice ao n cap] 32 (0, 0)) := by rw [← hwP]; exact World.alloc_heap_new w _
  have c0 : wP.cell? ⟨w.heap.size, 0, none⟩ = some (.slice no nl nc) := by simp [World.cell?, hhP]
  have c1 : wP.cell? ⟨w.heap.size, 1, none⟩ = some (.slice ao n cap) := by simp [World.cell?, hhP]
  have HPO := hid (partsOf_any (cap := cap) (h.below hbP) no nl nc)
  have HCL := hid (fun W (hW : Below w.heap.size w W) => cloneN_any (cap := nc) (hd.below hW) h0)
  have HI := hid hi
  have HR := hid (riseN_filter hr (notJ (partsF n xs)))
  have HB := hid (And.intro hbP hhP)
  have hfew := hd.few
  have HDE := hid (fun (W : World) (g : Nat) (cap' : Nat) (ao' : Option Addr) (hrow : NwI W g nl ns) (hg : w.heap.size ≤ g) (hgW : w.heap.size ≤ W.heap.size) (hat : 1 ≤ nl → ao' = some ⟨g, 0, none⟩) (hcap : nl ≤ cap') (J B N : Nat) (hJ : W.cell? ⟨J, 0, none⟩ = some (.map (some B))) (hm : MapI W B N (partsF n xs)) (hJg : J ≠ g) (hBg : B ≠ g) => deleteJ_any (base := w.heap.size) (cap := cap') hrow hg hgW hat hcap hfew hJ hm hJg hBg hi)
  have HST := hid (fun (W : World) (g cap' : Nat) (ao' : Option Addr) (hrow : NwI W g (ns.filter (notJ (partsF n xs))).length (ns.filter (notJ (partsF n xs)))) (hat : 1 ≤ (ns.filter (notJ (partsF n xs))).length → ao' = some ⟨g, 0, none⟩) => stableN_any (w := W) (b := g) (off := 0) (cap := cap') (xs := ns.filter (notJ (partsF n xs))) rfl (by have := List.length_filter_le (notJ (partsF n xs)) ns; have := hd.len; omega) (fun k x hx => by rw [Nat.zero_add]; exact hrow.cells k x hx) HR.out hrow.lt hat)
  have HLN := hid (show (ns.filter (notJ (partsF n xs))).length ≤ nl by have := List.length_filter_le (notJ (partsF n xs)) ns; have := hd.len; omega)
  generalize ns.filter (notJ (partsF n xs)) = L at HDE HST HLN ⊢
  clear h hd h0 hi hr hbP hhP HR HI
  go_enter Tryz.func65, Tryz.ntmps65
  go_wp2_with (first
    | (go_at_call 87; refine HPO.out.mono ?_; rintro e w1 ⟨B, N, rfl, hB, hN, hm, _, hb1⟩; obtain ⟨wJ, hwJ⟩ : ∃ wJ, w1.alloc (.cells #[.map (some B)] 121) = wJ := ⟨_, rfl⟩; have hbJ : Below w1.heap.size w1 wJ := (by rw [← hwJ]; exact (Below.refl _ w1).alloc (Nat.le_refl _) _); have hhJ : wJ.heap[w1.heap.size]? = some (.cells #[.map (some B)] 121 (0, 0)) := (by rw [← hwJ]; exact World.alloc_heap_new w1 _); have hbPJ : Below wP.heap.size wP wJ := hb1.trans (hbJ.mono hb1.size); have d0 := cell_below c0 hbPJ (lt_of_cell c0); have H1 := hid (And.intro hB (And.intro (MapV.kept hm (grownOf hbJ) (by simp)) (And.intro hhJ (And.intro (HB.out.1.trans (hbPJ.mono HB.out.1.size)) (lt_of_heap hhJ))))); have hBl : B < w1.heap.size := (by obtain ⟨o, ho, _⟩ := mapI_block hm; exact lt_of_heap ho); have HBL := hid (And.intro hBl hbJ.size); clear HPO hB hN hm hb1 hbJ hhJ hbPJ c0 c1 hBl)
    | (go_at_call 37; refine (HCL.out wJ H1.out.2.2.2.1).mono ?_; rintro e w2 ⟨⟨v, rfl, ao2, g, cap2, rfl, hat, hg, hcap, hrow⟩, hb2⟩; have hwg : w.heap.size ≤ g := Nat.le_trans H1.out.2.2.2.1.size hg; have hh2 := (hb2.block _ (lt_of_heap H1.out.2.2.1)).trans H1.out.2.2.1; have HD2 := hid (HDE.out w2 g cap2 ao2 hrow hwg (Nat.le_trans H1.out.2.2.2.1.size hb2.size) hat hcap w1.heap.size B N (by simp [World.cell?, hh2]) (MapV.kept H1.out.2.1 (grownOf hb2) (by simp)) (fun e => by have := H1.out.2.2.2.2; omega) (fun e => by have := HBL.out; omega)); have H2 := hid (And.intro hat (H1.out.2.2.2.1.trans (hb2.mono H1.out.2.2.2.1.size))); have HNL := hid (And.intro hwg hrow.len); clear HCL HDE hat hg hcap hrow hb2 hwg hh2 d0)
    | (go_at_call 98; refine HD2.out.mono ?_; rintro e w3 ⟨rfl, hrow3, hkg3, hb3⟩; have hlen : L.length ≤ nl := HLN.out; have hat3 : 1 ≤ L.length → ao2 = some ⟨g, 0, none⟩ := (fun h1 => H2.out.1 (by omega)); have HS3 := hid (HST.out w3 g cap2 ao2 hrow3 hat3); have H3 := hid (And.intro hat3 (And.intro hrow3 (show Below w.heap.size w w3 from ⟨hb3.os.trans H2.out.2.os, hb3.tape.trans H2.out.2.tape, hb3.output.trans H2.out.2.output, Nat.le_trans H2.out.2.size hb3.size, fun k hk => (hb3.block k hk).trans (H2.out.2.block k hk)⟩))); clear HD2 HST hrow3 hkg3 hb3 hlen hat3)
    | (go_at_call 100; refine HS3.out.mono ?_; rintro e w4 ⟨rfl, hb4⟩; have H4 := hid (And.intro (show NwI w4 g L.length L from ⟨rfl, fun h1 => by obtain ⟨C, hC, hs⟩ := H3.out.2.1.blk h1; exact ⟨C, (hb4.block _ (lt_of_heap hC)).trans hC, hs⟩, fun k x hx => (H3.out.2.1.cells k x hx).below hb4 (lt_of_cell (H3.out.2.1.cells k x hx).1)⟩) (H3.out.2.2.trans (hb4.mono H3.out.2.2.size))); clear HS3 hb4))
  go_ret
  exact ⟨⟨_, rfl, ao2, g, cap2, rfl, H3.out.1, H4.out.1⟩, H4.out.2⟩
end Go.Proofs.YtkdnkmheidbfdaaGreat

namespace Go.Proofs.YtkdnkmheidbfdaaGreat
open Go.RowKit Go.Sort Go.Maps

theorem infoRg : (Tryz.prog.info? 67).map (fun i => (i.zero, i.size, i.bytes)) = some (some (.agg #[.slice none 0 0, .slice none 0 0, .slice none 0 0]), 3, 72) := by kernel_rfl
/-- The cells of regions: each one's outer ring, inner rings, nodes. -/
def RgC (W : World) (G m : Nat) (OV IV NV : Nat → Value) : Prop := ∃ C : Array Value, W.heap[G]? = some (.cells C 67 (0, 0)) ∧ C.size = m * 3 ∧ ∀ k, k < m → C[k * 3]? = some (OV k) ∧ C[k * 3 + 1]? = some (IV k) ∧ C[k * 3 + 2]? = some (NV k)
def updV (f : Nat → Value) (k : Nat) (v : Value) : Nat → Value := fun j => if j = k then v else f j
theorem RgC.same {W W' : World} {G m : Nat} {OV IV NV : Nat → Value} (h : RgC W G m OV IV NV) (hk : W'.heap[G]? = W.heap[G]?) : RgC W' G m OV IV NV := by
  obtain ⟨C, hC, h2⟩ := h
  exact ⟨C, hk.trans hC, h2⟩
theorem RgC.lt {W : World} {G m : Nat} {OV IV NV : Nat → Value} (h : RgC W G m OV IV NV) : G < W.heap.size := by
  obtain ⟨C, hC, _⟩ := h
  exact lt_of_heap hC
theorem RgC.frz {W : World} {G m : Nat} {OV IV NV : Nat → Value} (h : RgC W G m OV IV NV) (i : Nat) : W.frozen? ⟨G, i, none⟩ = false := by
  obtain ⟨C, hC, _⟩ := h
  simp [World.frozen?, hC]
theorem RgC.at {W : World} {G m : Nat} {OV IV NV : Nat → Value} (h : RgC W G m OV IV NV) {k : Nat} (hk : k < m) : W.cell? ⟨G, k * 3, none⟩ = some (OV k) ∧ W.cell? ⟨G, k * 3 + 1, none⟩ = some (IV k) ∧ W.cell? ⟨G, k * 3 + 2, none⟩ = some (NV k) := by
  obtain ⟨C, hC, _, h2⟩ := h
  obtain ⟨c0, c1, c2⟩ := h2 k hk
  exact ⟨by simp [World.cell?, hC, c0], by simp [World.cell?, hC, c1], by simp [World.cell?, hC, c2]⟩
theorem RgC.putO {W : World} {G m : Nat} {OV IV NV : Nat → Value} (h : RgC W G m OV IV NV) {k : Nat} (hk : k < m) (v : Value) : RgC (W.setCell ⟨G, k * 3, none⟩ v) G m (updV OV k v) IV NV := by
  obtain ⟨C, hC, hs, h2⟩ := h
  refine ⟨_, set1 hC v, by simp [hs], fun j hj => ?_⟩
  obtain ⟨c0, c1, c2⟩ := h2 j hj
  refine ⟨?_, sin_ne (by omega) c1, sin_ne (by omega) c2⟩
  unfold updV
  by_cases e : j = k
  · subst e
    rw [if_pos rfl]
    exact sin_eq (by omega)
  · rw [if_neg e]
    exact sin_ne (by omega) c0
theorem RgC.putI {W : World} {G m : Nat} {OV IV NV : Nat → Value} (h : RgC W G m OV IV NV) {k : Nat} (hk : k < m) (v : Value) : RgC (W.setCell ⟨G, k * 3 + 1, none⟩ v) G m OV (updV IV k v) NV := by
  obtain ⟨C, hC, hs, h2⟩ := h
  refine ⟨_, set1 hC v, by simp [hs], fun j hj => ?_⟩
  obtain ⟨c0, c1, c2⟩ := h2 j hj
  refine ⟨sin_ne (by omega) c0, ?_, sin_ne (by omega) c2⟩
  unfold updV
  by_cases e : j = k
  · subst e
    rw [if_pos rfl]
    exact sin_eq (by omega)
  · rw [if_neg e]
    exact sin_ne (by omega) c1
theorem RgC.putN {W : World} {G m : Nat} {OV IV NV : Nat → Value} (h : RgC W G m OV IV NV) {k : Nat} (hk : k < m) (v : Value) : RgC (W.setCell ⟨G, k * 3 + 2, none⟩ v) G m OV IV (updV NV k v) := by
  obtain ⟨C, hC, hs, h2⟩ := h
  refine ⟨_, set1 hC v, by simp [hs], fun j hj => ?_⟩
  obtain ⟨c0, c1, c2⟩ := h2 j hj
  refine ⟨sin_ne (by omega) c0, sin_ne (by omega) c1, ?_⟩
  unfold updV
  by_cases e : j = k
  · subst e
    rw [if_pos rfl]
    exact sin_eq (by omega)
  · rw [if_neg e]
    exact sin_ne (by omega) c2
abbrev nilV : Value := .slice none 0 0
theorem make_regions (m : Nat) (hm : m ≤ 100000) : ∃ C, ∀ w : World, (Instr.makeSlice 68 (.int .i64 (m : Int)) (.int .i64 (m : Int))).run Tryz.prog w = .ok (.slice (some ⟨w.heap.size, 0, none⟩) m m) (w.alloc (.cells C 67)) ∧
    RgC (w.alloc (.cells C 67)) w.heap.size m (fun _ => nilV) (fun _ => nilV) (fun _ => nilV) := by
  obtain ⟨i0, hi, hz0, hz1, hz2⟩ := info_parts infoRg
  refine ⟨madeCells #[.slice none 0 0, .slice none 0 0, .slice none 0 0] (m * 3), fun w => ⟨?_, madeCells #[.slice none 0 0, .slice none 0 0, .slice none 0 0] (m * 3), World.alloc_heap_new w _, by rw [size_madeCells], fun k hk => ⟨?_, ?_, ?_⟩⟩⟩
  · have := run_make (P := Tryz.prog) w 68 67 i0 _ Tryz.underlying68 hi hz0 .i64 .i64 m m (by omega) (by omega) (by rw [hz2]; omega) (by omega)
    rw [hz1] at this
    rw [this]
    simp [Value.cells]
  · simp [madeCells, show k * 3 < m * 3 by omega, Nat.mul_mod_left]
  · simp [madeCells, show k * 3 + 1 < m * 3 by omega, show (k * 3 + 1) % 3 = 1 by omega]
  · simp [madeCells, show k * 3 + 2 < m * 3 by omega, show (k * 3 + 2) % 3 = 2 by omega]

/-- A row of slices in memory of the call's own. -/
def IRow (W : World) (base : Nat) (v : Value) (vs : List Value) : Prop := W.ownsRow base 47 1 v vs.length vs
theorem IRow.nil (W : World) (base : Nat) : IRow W base nilV [] := World.ownsRow_nil W base 47 1
theorem IRow.form {W : World} {base : Nat} {v : Value} {vs : List Value} (h : IRow W base v vs) : ∃ ao cap, v = .slice ao vs.length cap := own_form h
theorem IRow.own {W : World} {base : Nat} {v : Value} {vs : List Value} (h : IRow W base v vs) {g : Nat} (hg : v.ownBlock = some g) : base ≤ g ∧ ∃ c, W.heap[g]? = some (.cells c 47 (0, 0)) := own_block h g hg
theorem IRow.same {W W' : World} {base : Nat} {v : Value} {vs : List Value} (h : IRow W base v vs) (hk : ∀ g, v.ownBlock = some g → W'.heap[g]? = W.heap[g]?) : IRow W' base v vs := by
  refine ⟨h.1, ?_⟩
  rcases h.2 with h0 | ⟨g, cap, cur, h1, h2, h3, h4⟩
  · exact .inl h0
  · exact .inr ⟨g, cap, cur, h1, h2, (hk g (by rw [h1]; rfl)).trans h3, h4⟩
theorem nrow_same {W W' : World} {base : Nat} {v : Value} {zs : List Int} (h : NRow W base v zs) (hk : ∀ g, v.ownBlock = some g → W'.heap[g]? = W.heap[g]?) : NRow W' base v zs := by
  refine ⟨h.1, ?_⟩
  rcases h.2 with h0 | ⟨g, cap, cur, h1, h2, h3, h4⟩
  · exact .inl h0
  · exact .inr ⟨g, cap, cur, h1, h2, (hk g (by rw [h1]; rfl)).trans h3, h4⟩
/-- A slice more. -/
theorem IRow.snoc {w : World} {base : Nat} {v : Value} {vs : List Value} (h : IRow w base v vs) (hb : base ≤ w.heap.size) (hl : vs.length ≤ 1000000) (uo : Option Addr) (ul uc : Nat) :
    ∃ ao cap w', (Builtin.append_ #[65, 65] 65 #[v, .slice (some ⟨w.heap.size, 0, none⟩) 1 1]).run Tryz.prog (w.alloc (.cells #[.slice uo ul uc] 47)) = .ok (.slice ao (vs.length + 1) cap) w' ∧
      IRow w' base (.slice ao (vs.length + 1) cap) (vs ++ [.slice uo ul uc]) ∧ (w.alloc (.cells #[.slice uo ul uc] 47)).grownBy w' v.ownBlock ∧ ((Value.slice ao (vs.length + 1) cap).ownBlock = v.ownBlock ∨ (Value.slice ao (vs.length + 1) cap).ownBlock = some (w.heap.size + 1)) := by
  obtain ⟨i0, hi, hz0, hz1, hz2⟩ := info_parts infoRw
  obtain ⟨wA, hwA⟩ : ∃ wA, wA = w.alloc (.cells #[.slice uo ul uc] 47) := ⟨_, rfl⟩
  have hbA : Below w.heap.size w wA := by rw [hwA]; exact (Below.refl _ _).alloc (Nat.le_refl _) _
  have hh : wA.heap[w.heap.size]? = some (.cells #[.slice uo ul uc] 47 (0, 0)) := by rw [hwA]; exact World.alloc_heap_new w _
  have hP : wA.cell? ⟨w.heap.size, 0, none⟩ = some (.slice uo ul uc) := by simp [World.cell?, hh]
  have ho2 : wA.ownsRow base 47 1 v vs.length vs := own_keep h fun k _ hk => hbA.block k (lt_of_heap hk)
  obtain ⟨v', w', hrun, r1, r2, _, r4⟩ := run_append_own_at (P := Tryz.prog) wA base 65 65 47 i0 _ 1 24 Tryz.underlying65 hi hz0 hz1 hz2 rfl (by decide) v vs.length _ ho2 ⟨w.heap.size, 0, none⟩ 1 1 [.slice uo ul uc] rfl
    (fun j x hj => by
      match j, hj with
      | 0, hj => simp at hj; subst hj; exact hP
      | j + 1, hj => simp at hj) (by intro x hx; simp at hx; subst hx; rfl) (by unfold maxLen; omega) (by omega) (by rw [hwA]; simp; omega)
  obtain ⟨ao, cap, rfl⟩ := own_form r1
  rw [← hwA]
  refine ⟨ao, cap, w', hrun, ?_, r2, by rw [hwA, World.size_alloc] at r4; exact r4⟩
  unfold IRow
  rw [List.length_append]
  exact r1
end Go.Proofs.YtkdnkmheidbfdaaGreat

namespace Go.Proofs.YtkdnkmheidbfdaaGreat
open Go.RowKit Go.Sort Go.Maps

/-- A border's ways, as a slice. -/
abbrev zV (z : Zb) : Value := .slice z.1.wo z.1.wl z.1.wc
def oV : Option Zb → Value
  | none => nilV
  | some z => zV z
def updF {α : Type} (f : Nat → α) (k : Nat) (a : α) : Nat → α := fun j => if j = k then a else f j
theorem updF_same {α : Type} (f : Nat → α) (k : Nat) (a : α) : updF f k a k = a := if_pos rfl
theorem updF_other {α : Type} (f : Nat → α) {k j : Nat} (a : α) (h : j ≠ k) : updF f k a j = f j := if_neg h
/-- Amid Regions. -/
structure RgI (w1 : World) (G m : Nat) (oz : Nat → Option Zb) (IV NV : Nat → Value) (iz : Nat → List Zb) (nd : Nat → List Int) (W : World) : Prop where
  cells : RgC W G m (fun k => oV (oz k)) IV NV
  inn : ∀ k, k < m → IRow W w1.heap.size (IV k) ((iz k).map zV)
  sepI : ∀ j k, j < m → k < m → j ≠ k → Apart (IV j) (IV k)
  nod : ∀ k, k < m → NRow W w1.heap.size (NV k) (nd k)
  sepN : ∀ j k, j < m → k < m → j ≠ k → Apart (NV j) (NV k)
  base : w1.heap.size ≤ G
  below : Below w1.heap.size w1 W
theorem rgc_type {W : World} {G m : Nat} {OV IV NV : Nat → Value} (h : RgC W G m OV IV NV) {g : Nat} {c : Array Value} {t : TypeId} {q : Nat × Nat} (hg : W.heap[g]? = some (.cells c t q)) (ht : t ≠ 67) : g ≠ G := fun e => by
  subst e
  obtain ⟨C, hC, _⟩ := h
  rw [hC] at hg
  injection hg with hg
  injection hg with _ e2 _
  exact ht e2.symm
theorem RgI.turn {w1 W W' : World} {G m : Nat} {oz : Nat → Option Zb} {IV NV : Nat → Value} {iz : Nat → List Zb} {nd : Nat → List Int} (h : RgI w1 G m oz IV NV iz nd W) (hG : W'.heap[G]? = W.heap[G]?) (hk : ∀ (g : Nat) (c : Array Value) (t : TypeId), W.heap[g]? = some (.cells c t (0, 0)) → (t = 47 ∨ t = 3) → W'.heap[g]? = W.heap[g]?) (hb : Below w1.heap.size w1 W') : RgI w1 G m oz IV NV iz nd W' :=
  ⟨h.cells.same hG, fun k hk' => (h.inn k hk').same fun g hg => by obtain ⟨_, c, hc⟩ := (h.inn k hk').own hg; exact hk g c _ hc (.inl rfl), h.sepI, fun k hk' => nrow_same (h.nod k hk') fun g hg => by obtain ⟨_, c, hc⟩ := own_block (h.nod k hk') g hg; exact hk g c _ hc (.inr rfl), h.sepN, h.base, hb⟩
theorem RgI.fresh {w1 W W' : World} {G m : Nat} {oz : Nat → Option Zb} {IV NV : Nat → Value} {iz : Nat → List Zb} {nd : Nat → List Int} (h : RgI w1 G m oz IV NV iz nd W) (hb : Below W.heap.size W W') : RgI w1 G m oz IV NV iz nd W' :=
  h.turn (hb.block _ h.cells.lt) (fun _g _ _ hg _ => hb.block _ (lt_of_heap hg)) (h.below.trans (hb.mono h.below.size))
/-- An outer ring is set. -/
theorem RgI.outer {w1 W : World} {G m : Nat} {oz : Nat → Option Zb} {IV NV : Nat → Value} {iz : Nat → List Zb} {nd : Nat → List Int} (h : RgI w1 G m oz IV NV iz nd W) {k : Nat} (hk : k < m) (z : Zb) : RgI w1 G m (updF oz k (some z)) IV NV iz nd (W.setCell ⟨G, k * 3, none⟩ (zV z)) := by
  have hc := h.cells.putO hk (zV z)
  have e : updV (fun j => oV (oz j)) k (zV z) = fun j => oV (updF oz k (some z) j) := by
    funext j
    unfold updV updF
    by_cases hj : j = k
    · rw [if_pos hj, if_pos hj]; rfl
    · rw [if_neg hj, if_neg hj]
  rw [e] at hc
  have hoff : ∀ (g : Nat) (c : Array Value) (t : TypeId), W.heap[g]? = some (.cells c t (0, 0)) → t ≠ 67 → (W.setCell ⟨G, k * 3, none⟩ (zV z)).heap[g]? = W.heap[g]? := fun g c t hg ht => RowKit.Below.heap_setCell _ _ _ _ (rgc_type h.cells hg ht)
  exact ⟨hc, fun j hj => (h.inn j hj).same fun g hg => by obtain ⟨_, c, hc'⟩ := (h.inn j hj).own hg; exact hoff g c _ hc' (by decide), h.sepI, fun j hj => nrow_same (h.nod j hj) fun g hg => by obtain ⟨_, c, hc'⟩ := own_block (h.nod j hj) g hg; exact hoff g c _ hc' (by decide), h.sepN, h.base, h.below.setCell (p := ⟨G, k * 3, none⟩) h.base _⟩
/-- A row that another one's growth does not touch. -/
theorem apart_grown {IV : Nat → Value} {m k : Nat} {V : Value} {W : World} (hs : ∀ i j, i < m → j < m → i ≠ j → Apart (IV i) (IV j)) (hk : k < m) (hown : V.ownBlock = (IV k).ownBlock ∨ V.ownBlock = some (W.heap.size + 1)) (hlt : ∀ j, j < m → ∀ g, (IV j).ownBlock = some g → g < W.heap.size) : ∀ i j, i < m → j < m → i ≠ j → Apart (updV IV k V i) (updV IV k V j) := fun i j hi hj hij g hg hg' => by
  unfold updV at hg hg'
  by_cases hik : i = k
  · rw [if_pos hik] at hg
    rw [if_neg (fun e => hij (hik.trans e.symm))] at hg'
    rcases hown with e | e
    · exact hs k j hk hj (fun e' => hij (hik.trans e')) g (e.symm.trans hg) hg'
    · rw [e] at hg
      injection hg with hg
      have := hlt j hj g hg'
      omega
  · rw [if_neg hik] at hg
    by_cases hjk : j = k
    · rw [if_pos hjk] at hg'
      rcases hown with e | e
      · exact hs i k hi hk hik g hg (e.symm.trans hg')
      · rw [e] at hg'
        injection hg' with hg'
        have := hlt i hi g hg
        omega
    · rw [if_neg hjk] at hg'
      exact hs i j hi hj hij g hg hg'
/-- An inner ring more. -/
theorem RgI.inner {w1 W : World} {G m : Nat} {oz : Nat → Option Zb} {IV NV : Nat → Value} {iz : Nat → List Zb} {nd : Nat → List Int} (h : RgI w1 G m oz IV NV iz nd W) {k : Nat} (hk : k < m) (hl : (iz k).length ≤ 100000) (z : Zb) :
    ∃ io ic ao cap W1, IV k = .slice io (iz k).length ic ∧ (Builtin.append_ #[65, 65] 65 #[.slice io (iz k).length ic, .slice (some ⟨W.heap.size, 0, none⟩) 1 1]).run Tryz.prog (W.alloc (.cells #[.slice z.1.wo z.1.wl z.1.wc] 47)) = .ok (.slice ao ((iz k).length + 1) cap) W1 ∧ W1.cell? ⟨G, k * 3 + 1, none⟩ = some (.slice io (iz k).length ic) ∧ W1.frozen? ⟨G, k * 3 + 1, none⟩ = false ∧
      RgI w1 G m oz (updV IV k (.slice ao ((iz k).length + 1) cap)) NV (updF iz k (iz k ++ [z])) nd (W1.setCell ⟨G, k * 3 + 1, none⟩ (.slice ao ((iz k).length + 1) cap)) := by
  have hrow := h.inn k hk
  obtain ⟨io, ic, hio⟩ := hrow.form
  rw [List.length_map] at hio
  obtain ⟨ao, cap, W1, hrun, hrow1, hgr, hown⟩ := hrow.snoc h.below.size (by rw [List.length_map]; omega) z.1.wo z.1.wl z.1.wc
  rw [List.length_map] at hrun hrow1 hown
  rw [hio] at hrun
  refine ⟨io, ic, ao, cap, W1, hio, hrun, ?_⟩
  generalize Value.slice ao ((iz k).length + 1) cap = V at hrow1 hown ⊢
  have hA : ∀ g, g < W.heap.size → (W.alloc (.cells #[.slice z.1.wo z.1.wl z.1.wc] 47)).heap[g]? = W.heap[g]? := fun g hg => ((Below.refl _ W).alloc (Nat.le_refl _) _).block g hg
  have h1 : ∀ g, g < W.heap.size → (IV k).ownBlock ≠ some g → W1.heap[g]? = W.heap[g]? := fun g hg hne => (hgr.block g (by simp; omega) (fun e => hne e.symm)).trans (hA g hg)
  have hkG : (IV k).ownBlock ≠ some G := fun e => by
    obtain ⟨_, c, hc⟩ := hrow.own e
    exact rgc_type h.cells hc (by decide) rfl
  have hlt : ∀ j, j < m → ∀ g, (IV j).ownBlock = some g → g < W.heap.size := fun j hj g hg => by obtain ⟨_, c, hc⟩ := (h.inn j hj).own hg; exact lt_of_heap hc
  have hc1 := h.cells.same (h1 G h.cells.lt hkG)
  have hc2 := hc1.putI hk V
  have h2 : ∀ g, g ≠ G → (W1.setCell ⟨G, k * 3 + 1, none⟩ V).heap[g]? = W1.heap[g]? := fun g hg => RowKit.Below.heap_setCell _ _ _ _ hg
  have hneG : ∀ (g : Nat) (c : Array Value) (t : TypeId), W1.heap[g]? = some (.cells c t (0, 0)) → t ≠ 67 → g ≠ G := fun g c t hg ht => rgc_type hc1 hg ht
  refine ⟨by rw [← hio]; exact (hc1.at hk).2.1, hc1.frz _, ⟨hc2, fun j hj => ?_, apart_grown h.sepI hk hown hlt, fun j hj => ?_, h.sepN, h.base, ?_⟩⟩
  · unfold updV updF
    by_cases hjk : j = k
    · rw [if_pos hjk, if_pos hjk, List.map_append]
      exact IRow.same hrow1 fun g hg => by
        obtain ⟨_, c, hc⟩ := IRow.own hrow1 hg
        exact h2 g (hneG g c _ hc (by decide))
    · rw [if_neg hjk, if_neg hjk]
      exact (h.inn j hj).same fun g hg => by
        obtain ⟨_, c, hc⟩ := (h.inn j hj).own hg
        have e1 := h1 g (lt_of_heap hc) (fun e => h.sepI j k hj hk hjk g hg e)
        exact (h2 g (rgc_type h.cells hc (by decide))).trans e1
  · exact nrow_same (h.nod j hj) fun g hg => by
      obtain ⟨_, c, hc⟩ := own_block (h.nod j hj) g hg
      have e1 := h1 g (lt_of_heap hc) (fun e => by
        obtain ⟨_, c', hc'⟩ := hrow.own e
        rw [hc] at hc'
        injection hc' with hc'
        injection hc' with _ e2 _
        exact absurd e2 (by decide))
      exact (h2 g (rgc_type h.cells hc (by decide))).trans e1
  · have q1 : Below w1.heap.size w1 (W.alloc (.cells #[.slice z.1.wo z.1.wl z.1.wc] 47)) := h.below.alloc h.below.size _
    have q2 := q1.grown hgr q1.size (fun g e => (hrow.own e).1)
    exact q2.setCell (p := ⟨G, k * 3 + 1, none⟩) h.base V
/-- A node more. -/
theorem RgI.node {w1 W : World} {G m : Nat} {oz : Nat → Option Zb} {IV NV : Nat → Value} {iz : Nat → List Zb} {nd : Nat → List Int} (h : RgI w1 G m oz IV NV iz nd W) {k : Nat} (hk : k < m) (hl : (nd k).length ≤ 100000) (z : Int) :
    ∃ io ic ao cap W1, NV k = .slice io (nd k).length ic ∧ (Builtin.append_ #[47, 47] 47 #[.slice io (nd k).length ic, .slice (some ⟨W.heap.size, 0, none⟩) 1 1]).run Tryz.prog (W.alloc (.cells #[.int .i64 z] 3)) = .ok (.slice ao ((nd k).length + 1) cap) W1 ∧ W1.cell? ⟨G, k * 3 + 2, none⟩ = some (.slice io (nd k).length ic) ∧ W1.frozen? ⟨G, k * 3 + 2, none⟩ = false ∧
      RgI w1 G m oz IV (updV NV k (.slice ao ((nd k).length + 1) cap)) iz (updF nd k (nd k ++ [z])) (W1.setCell ⟨G, k * 3 + 2, none⟩ (.slice ao ((nd k).length + 1) cap)) ∧
      ∀ (g : Nat) (c : Array Value) (t : TypeId), W.heap[g]? = some (.cells c t (0, 0)) → t ≠ 67 → t ≠ 3 → (W1.setCell ⟨G, k * 3 + 2, none⟩ (.slice ao ((nd k).length + 1) cap)).heap[g]? = W.heap[g]? := by
  have hrow := h.nod k hk
  obtain ⟨io, ic, hio⟩ := hrow.form
  obtain ⟨ao, cap, W1, hrun, hrow1, hbw, hgr⟩ := NRow.snoc hrow h.below.size (by omega) z
  rw [hio] at hrun
  refine ⟨io, ic, ao, cap, W1, hio, hrun, ?_⟩
  generalize Value.slice ao ((nd k).length + 1) cap = V at hrow1 hgr ⊢
  have h1 : ∀ g, g < W.heap.size → (NV k).ownBlock ≠ some g → W1.heap[g]? = W.heap[g]? := fun g hg hne => hgr.keep g hg hne
  have hkG : (NV k).ownBlock ≠ some G := fun e => by
    obtain ⟨_, c, hc⟩ := own_block hrow G e
    exact rgc_type h.cells hc (by decide) rfl
  have hlt : ∀ j, j < m → ∀ g, (NV j).ownBlock = some g → g < W.heap.size := fun j hj g hg => by obtain ⟨_, c, hc⟩ := own_block (h.nod j hj) g hg; exact lt_of_heap hc
  have hc1 := h.cells.same (h1 G h.cells.lt hkG)
  have hc2 := hc1.putN hk V
  have h2 : ∀ g, g ≠ G → (W1.setCell ⟨G, k * 3 + 2, none⟩ V).heap[g]? = W1.heap[g]? := fun g hg => RowKit.Below.heap_setCell _ _ _ _ hg
  have hneG : ∀ (g : Nat) (c : Array Value) (t : TypeId), W1.heap[g]? = some (.cells c t (0, 0)) → t ≠ 67 → g ≠ G := fun g c t hg ht => rgc_type hc1 hg ht
  have hsep : ∀ i j, i < m → j < m → i ≠ j → Apart (updV NV k V i) (updV NV k V j) := fun i j hi hj hij g hg hg' => by
    unfold updV at hg hg'
    by_cases hik : i = k
    · rw [if_pos hik] at hg
      rw [if_neg (fun e => hij (hik.trans e.symm))] at hg'
      rcases hgr.own g hg with e | e
      · exact h.sepN k j hk hj (fun e' => hij (hik.trans e')) g e hg'
      · have := hlt j hj g hg'
        omega
    · rw [if_neg hik] at hg
      by_cases hjk : j = k
      · rw [if_pos hjk] at hg'
        rcases hgr.own g hg' with e | e
        · exact h.sepN i k hi hk hik g hg e
        · have := hlt i hi g hg
          omega
      · rw [if_neg hjk] at hg'
        exact h.sepN i j hi hj hij g hg hg'
  refine ⟨by rw [← hio]; exact (hc1.at hk).2.2, hc1.frz _, ⟨hc2, fun j hj => ?_, h.sepI, fun j hj => ?_, hsep, h.base, (h.below.trans (hbw.mono (Nat.le_refl _))).setCell (p := ⟨G, k * 3 + 2, none⟩) h.base V⟩, fun g c t hg ht1 ht2 => (h2 g (rgc_type h.cells hg ht1)).trans (h1 g (lt_of_heap hg) (fun e => by
    obtain ⟨_, c', hc'⟩ := own_block hrow g e
    rw [hg] at hc'
    injection hc' with hc'
    injection hc' with _ e2 _
    exact ht2 e2))⟩
  · exact (h.inn j hj).same fun g hg => by
      obtain ⟨_, c, hc⟩ := (h.inn j hj).own hg
      have e1 := h1 g (lt_of_heap hc) (fun e => by
        obtain ⟨_, c', hc'⟩ := own_block hrow g e
        rw [hc] at hc'
        injection hc' with hc'
        injection hc' with _ e2 _
        exact absurd e2 (by decide))
      exact (h2 g (rgc_type h.cells hc (by decide))).trans e1
  · unfold updV updF
    by_cases hjk : j = k
    · rw [if_pos hjk, if_pos hjk]
      exact nrow_same hrow1 fun g hg => by
        obtain ⟨_, c, hc⟩ := own_block hrow1 g hg
        exact h2 g (hneG g c _ hc (by decide))
    · rw [if_neg hjk, if_neg hjk]
      exact nrow_same (h.nod j hj) fun g hg => by
        obtain ⟨_, c, hc⟩ := own_block (h.nod j hj) g hg
        have e1 := h1 g (lt_of_heap hc) (fun e => h.sepN j k hj hk hjk g hg e)
        exact (h2 g (rgc_type h.cells hc (by decide))).trans e1
end Go.Proofs.YtkdnkmheidbfdaaGreat

namespace Go.Proofs.YtkdnkmheidbfdaaGreat
open Go.RowKit Go.Sort Go.Maps

/-- A border goes to its region: as the outer ring, or as an inner one more. -/
def rgStep {α : Type} (π : α → BP) (os : List BP) (s : (Nat → Option α) × (Nat → List α)) (z : α) : (Nat → Option α) × (Nat → List α) :=
  if (π z).out then (updF s.1 (regionP (π z) os).toNat (some z), s.2) else (s.1, updF s.2 (regionP (π z) os).toNat (s.2 (regionP (π z) os).toNat ++ [z]))
def rgsF {α : Type} (π : α → BP) (os : List BP) (zs : List α) : (Nat → Option α) × (Nat → List α) := zs.foldl (rgStep π os) (fun _ => none, fun _ => [])
/-- A node goes to its region. -/
def ndStep (os : List BP) (nd : Nat → List Int) (n : NR) : Nat → List Int := updF nd (leastP (fun _ => true) (n.x, n.y) os).toNat (nd (leastP (fun _ => true) (n.x, n.y) os).toNat ++ [n.id])
def ndsF (os : List BP) (al : List NR) : Nat → List Int := al.foldl (ndStep os) (fun _ => [])
theorem rgsF_snoc {α : Type} (π : α → BP) (os : List BP) (zs : List α) (z : α) : rgsF π os (zs ++ [z]) = rgStep π os (rgsF π os zs) z := by unfold rgsF; rw [List.foldl_append]; rfl
theorem ndsF_snoc (os : List BP) (al : List NR) (n : NR) : ndsF os (al ++ [n]) = ndStep os (ndsF os al) n := by unfold ndsF; rw [List.foldl_append]; rfl
theorem rgsF_map {α : Type} (π : α → BP) (os : List BP) (zs : List α) (k : Nat) : ((rgsF π os zs).1 k).map π = (rgsF id os (zs.map π)).1 k ∧ ((rgsF π os zs).2 k).map π = (rgsF id os (zs.map π)).2 k := by
  suffices h : ∀ (zs : List α) (s : (Nat → Option α) × (Nat → List α)) (t : (Nat → Option BP) × (Nat → List BP)), (∀ k, (s.1 k).map π = t.1 k ∧ (s.2 k).map π = t.2 k) → ∀ k, ((zs.foldl (rgStep π os) s).1 k).map π = ((zs.map π).foldl (rgStep id os) t).1 k ∧ ((zs.foldl (rgStep π os) s).2 k).map π = ((zs.map π).foldl (rgStep id os) t).2 k from h zs _ _ (fun k => ⟨rfl, rfl⟩) k
  intro zs
  induction zs with
  | nil => intro s t h; exact h
  | cons z zs ih =>
    intro s t h
    rw [List.map_cons, List.foldl_cons, List.foldl_cons]
    refine ih _ _ fun j => ?_
    unfold rgStep updF
    dsimp only [id]
    by_cases ho : (π z).out = true
    · rw [if_pos ho, if_pos ho]
      dsimp only
      by_cases e : j = (regionP (π z) os).toNat
      · rw [if_pos e, if_pos e]
        exact ⟨rfl, (h j).2⟩
      · rw [if_neg e, if_neg e]
        exact h j
    · rw [if_neg ho, if_neg ho]
      dsimp only
      by_cases e : j = (regionP (π z) os).toNat
      · rw [if_pos e, if_pos e, List.map_append, (h _).2]
        exact ⟨(h j).1, rfl⟩
      · rw [if_neg e, if_neg e]
        exact h j
theorem rgsF_len {α : Type} (π : α → BP) (os : List BP) (zs : List α) (k : Nat) : ((rgsF π os zs).2 k).length ≤ zs.length := by
  suffices h : ∀ (zs : List α) (s : (Nat → Option α) × (Nat → List α)) (n : Nat), (∀ k, (s.2 k).length ≤ n) → ∀ k, ((zs.foldl (rgStep π os) s).2 k).length ≤ n + zs.length by
    have := h zs (fun _ => none, fun _ => []) 0 (fun k => Nat.le_refl _) k
    unfold rgsF
    omega
  intro zs
  induction zs with
  | nil => intro s n h k; have := h k; simpa using this
  | cons z zs ih =>
    intro s n h k
    rw [List.foldl_cons, List.length_cons]
    have := ih (rgStep π os s z) (n + 1) (fun j => by
      unfold rgStep updF
      split
      · have := h j
        dsimp only
        omega
      · dsimp only
        split
        · rw [List.length_append]
          have := h (regionP (π z) os).toNat
          simp
          omega
        · have := h j
          omega) k
    omega
theorem ndsF_len (os : List BP) (al : List NR) (k : Nat) : (ndsF os al k).length ≤ al.length := by
  suffices h : ∀ (al : List NR) (s : Nat → List Int) (n : Nat), (∀ k, (s k).length ≤ n) → ∀ k, ((al.foldl (ndStep os) s) k).length ≤ n + al.length by
    have := h al (fun _ => []) 0 (fun k => Nat.le_refl _) k
    unfold ndsF
    omega
  intro al
  induction al with
  | nil => intro s n h k; have := h k; simpa using this
  | cons z zs ih =>
    intro s n h k
    rw [List.foldl_cons, List.length_cons]
    have := ih (ndStep os s z) (n + 1) (fun j => by
      unfold ndStep updF
      split
      · rw [List.length_append]
        have := h (leastP (fun _ => true) (z.x, z.y) os).toNat
        simp
        omega
      · have := h j
        omega) k
    omega
theorem insRP_mem (x : BP) : ∀ (l : List BP) (y : BP), y ∈ insRP x l ↔ y = x ∨ y ∈ l
  | [], y => by simp [insRP]
  | z :: l, y => by
    unfold insRP
    split
    · rw [List.mem_cons, insRP_mem x l y, List.mem_cons]
      constructor
      · rintro (h | h | h)
        · exact .inr (.inl h)
        · exact .inl h
        · exact .inr (.inr h)
      · rintro (h | h | h)
        · exact .inr (.inl h)
        · exact .inl h
        · exact .inr (.inr h)
    · rw [List.mem_cons]
theorem sortP_mem (l : List BP) (y : BP) : y ∈ sortP l ↔ y ∈ l := by
  suffices h : ∀ (l S : List BP), y ∈ l.foldl (fun S x => (insRP x S.reverse).reverse) S ↔ y ∈ S ∨ y ∈ l by
    unfold sortP
    rw [h]
    simp
  intro l
  induction l with
  | nil => intro S; simp
  | cons x l ih =>
    intro S
    rw [List.foldl_cons, ih, List.mem_reverse, insRP_mem, List.mem_reverse, List.mem_cons]
    constructor
    · rintro ((h | h) | h)
      · exact .inr (.inl h)
      · exact .inl h
      · exact .inr (.inr h)
    · rintro (h | h | h)
      · exact .inl (.inr h)
      · exact .inl (.inl h)
      · exact .inr h
theorem lookF_num (m : Nat) (xs : List ER) (ls : List (List Pp)) : ∀ rs : List (List Int), ∀ b ∈ (lookF m xs ls rs).2, b.out = true → 1 ≤ b.num ∧ b.num ≤ (((lookF m xs ls rs).2.filter BP.out).length : Int) := by
  suffices h : ∀ n (rs : List (List Int)), rs.length = n → ∀ b ∈ (lookF m xs ls rs).2, b.out = true → 1 ≤ b.num ∧ b.num ≤ (((lookF m xs ls rs).2.filter BP.out).length : Int) from fun rs => h _ rs rfl
  intro n
  induction n with
  | zero =>
    intro rs hr b hb
    obtain rfl := List.eq_nil_of_length_eq_zero hr
    cases hb
  | succ n ih =>
    intro rs hr b hb ho
    obtain ⟨rs', r, rfl⟩ : ∃ rs' r, rs = rs' ++ [r] := ⟨rs.dropLast, rs.getLast (by intro e; rw [e] at hr; cases hr), (List.dropLast_concat_getLast _).symm⟩
    have hl : rs'.length = n := by simp at hr; exact hr
    rw [lookF_snoc] at hb ⊢
    unfold lookStep at hb ⊢
    dsimp only at hb ⊢
    rw [List.filter_append, List.length_append]
    rcases List.mem_append.1 hb with hb | hb
    · obtain ⟨q1, q2⟩ := ih rs' hl b hb ho
      exact ⟨q1, by omega⟩
    · rw [List.mem_singleton] at hb
      subst hb
      have ho' : 0 < areaL (ringPtsF xs ls r) := by unfold BP.out at ho; exact of_decide_eq_true ho
      rw [List.filter_cons_of_pos ho, if_pos ho', List.length_cons]
      constructor <;> (simp; try omega)
theorem leastP_le {am : BP → Bool} {q : Pp} {M : Int} (hM : 0 ≤ M) : ∀ {os : List BP}, (∀ o ∈ os, 0 ≤ o.num ∧ o.num ≤ M) → 0 ≤ leastP am q os ∧ leastP am q os ≤ M
  | [], _ => ⟨Int.le_refl _, hM⟩
  | o :: os, h => by
    unfold leastP
    split
    · exact h o List.mem_cons_self
    · exact leastP_le hM fun p hp => h p (List.mem_cons_of_mem _ hp)
theorem outers_num (xs : List ER) (ls : List (List Pp)) {M : Nat} (hM : ((bordersL xs ls).filter BP.out).length = M) : ∀ o ∈ outersL xs ls, 0 ≤ o.num ∧ o.num ≤ (M : Int) := fun o ho => by
  unfold outersL at ho
  rw [sortP_mem, List.mem_filter] at ho
  have := lookF_num _ xs ls _ o ho.1 ho.2
  have e : ((lookF xs.length xs ls (ringsL xs ls)).2.filter BP.out).length = M := hM
  rw [e] at this
  omega
theorem region_num (xs : List ER) (ls : List (List Pp)) {M : Nat} (hM : ((bordersL xs ls).filter BP.out).length = M) {b : BP} (hb : b ∈ bordersL xs ls) : ∃ k : Nat, regionP b (outersL xs ls) = (k : Int) ∧ k < M + 1 := by
  have h : 0 ≤ regionP b (outersL xs ls) ∧ regionP b (outersL xs ls) ≤ (M : Int) := by
    unfold regionP
    by_cases ho : b.out = true
    · rw [if_pos ho]
      have := lookF_num _ xs ls _ b hb ho
      have e : ((lookF xs.length xs ls (ringsL xs ls)).2.filter BP.out).length = M := hM
      rw [e] at this
      omega
    · rw [if_neg ho]
      cases b.pts with
      | nil => exact ⟨Int.le_refl _, show (0 : Int) ≤ (M : Int) by omega⟩
      | cons p ps => exact leastP_le (by omega) (outers_num xs ls hM)
  exact ⟨(regionP b (outersL xs ls)).toNat, by omega, by omega⟩
theorem least_num (xs : List ER) (ls : List (List Pp)) {M : Nat} (hM : ((bordersL xs ls).filter BP.out).length = M) (am : BP → Bool) (q : Pp) : ∃ k : Nat, leastP am q (outersL xs ls) = (k : Int) ∧ k < M + 1 := by
  have h := leastP_le (am := am) (q := q) (M := (M : Int)) (by omega) (outers_num xs ls hM)
  exact ⟨(leastP am q (outersL xs ls)).toNat, by omega, by omega⟩
end Go.Proofs.YtkdnkmheidbfdaaGreat
