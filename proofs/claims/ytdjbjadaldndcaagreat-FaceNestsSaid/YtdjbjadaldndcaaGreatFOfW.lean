/-
  Layer 15: face's Of.
-/
import Derived.Test.YtdjbjadaldndcaaGreatFTk
namespace Go.Proofs.YtdjbjadaldndcaaGreat
open Go.RowKit Go.Shelf Go.Sort Go.Maps

/-- Is a number in a list? -/
def hasI (zs : List Int) (x : Int) : Bool := zs.contains x
set_option maxRecDepth 100000 in
set_option maxHeartbeats 1600000 in
theorem indexI_any {w : World} {v : Value} {zs : List Int} (h : Nums w v zs) (hl : zs.length ≤ 100000) (x : Int) :
    Calls Tryz.prog 100 #[v, .int .i64 x] w fun e w' => (∃ r : Int, e = .returned (.int .i64 r) ∧ decide (0 ≤ r) = hasI zs x) ∧ Below w.heap.size w w' := by
  obtain ⟨ao, cap, rfl, hc⟩ := h
  obtain ⟨n, hn⟩ : ∃ n, zs.length = n := ⟨_, rfl⟩
  rw [hn] at hc hl ⊢
  have HN := hid hn
  have HC := hid hc
  clear hc hn
  go_enter Tryz.func100, Tryz.ntmps100
  go_wp2
  go_loopw [5, 8] (fun _ iv wr => ∃ k : Nat, k ≤ n ∧ iv = .int .i64 (k : Int) ∧ (∀ j y, j < k → zs[j]? = some y → y ≠ x) ∧ wr = w) (fun _ iv _ => n - (intOf iv).toNat)
  case atStart => exact ⟨0, Nat.zero_le _, rfl, (fun j y hj => absurd hj (Nat.not_lt_zero j)), rfl⟩
  case round =>
    obtain ⟨k, hk, rfl, hno, rfl⟩ := hrel
    have HNO := hid hno
    clear hno
    by_cases hlt : k < n
    · have hltI : (k : Int) < (n : Int) := by omega
      obtain ⟨y, hy⟩ : ∃ y, zs[k]? = some y := ⟨zs[k]'(by have := HN.out; omega), by rw [List.getElem?_eq_getElem]⟩
      obtain ⟨b, o, rfl, hcs⟩ := HC.out (by omega)
      have hcy := hcs k y hy
      have HY := hid hy
      clear hcs hy
      by_cases e : x = y
      · have he : (x == y) = true := beq_iff_eq.2 e
        have HE := hid (show hasI zs x = true by rw [hasI, List.contains_iff_mem]; exact List.mem_of_getElem? (by rw [e]; exact HY.out))
        clear e
        go_wp2
        go_ret
        refine ⟨?_, Below.refl _ _⟩
        rw [HE.out]
        simp
      · have he : (x == y) = false := beq_eq_false_iff_ne.2 e
        have HE := hid e
        clear e
        go_wp2
        go_roundw
        case rel =>
          refine ⟨k + 1, by omega, by go_num, fun j z hj hz => ?_, by first | rfl | trivial⟩
          by_cases ej : j = k
          · subst ej
            rw [HY.out] at hz
            injection hz with hz
            exact fun q => HE.out (by rw [hz, q])
          · exact HNO.out j z (by omega) hz
        case measure => simp [intOf]; omega
    · have hltI : ¬ (k : Int) < (n : Int) := by omega
      have HE := hid (show hasI zs x = false by
        cases hc : hasI zs x with
        | false => rfl
        | true =>
          rw [hasI, List.contains_iff_mem] at hc
          obtain ⟨j, hj⟩ := List.mem_iff_getElem?.1 hc
          have := (List.getElem?_eq_some_iff.1 hj).1
          exact absurd rfl (HNO.out j x (by have := HN.out; omega) hj))
      go_wp2
      go_ret
      refine ⟨?_, Below.refl _ _⟩
      rw [HE.out]
      simp
set_option maxRecDepth 100000 in
set_option maxHeartbeats 1600000 in
theorem containsI_any {w : World} {v : Value} {zs : List Int} (h : Nums w v zs) (hl : zs.length ≤ 100000) (x : Int) :
    Calls Tryz.prog 67 #[v, .int .i64 x] w fun e w' => e = .returned (.bool (hasI zs x)) ∧ Below w.heap.size w w' := by
  have HC := hid (indexI_any h hl x)
  generalize hasI zs x = R at HC ⊢
  clear h hl
  go_enter Tryz.func67, Tryz.ntmps67
  go_wp2_with (go_at_call 100; refine HC.out.mono ?_; rintro e w1 ⟨⟨r, rfl, hr⟩, hb1⟩; have HB1 := hid (And.intro hr hb1); clear hr hb1 HC)
  go_ret
  exact ⟨by rw [HB1.out.1]; rfl, HB1.out.2⟩
set_option maxRecDepth 100000 in
set_option maxHeartbeats 1600000 in
theorem of1_any {w : World} {base : Nat} {x : Bd} {b : BP} (h : BdIs w base x b) (hl : b.ways.length ≤ 100000) {g : Nat} {way : Int} (hg : w.cell? ⟨g, 0, none⟩ = some (.int .i64 way)) :
    Calls Tryz.prog 66 #[bdV x, .pointer (some ⟨g, 0, none⟩)] w fun e w' => e = .returned (.bool (hasI b.ways way)) ∧ Below w.heap.size w w' := by
  obtain ⟨wA, hwA⟩ : ∃ wA, w.alloc (bdO x) = wA := ⟨_, rfl⟩
  have hbA : Below w.heap.size w wA := by rw [← hwA]; exact (Below.refl _ w).alloc (Nat.le_refl _) _
  obtain ⟨y0, _, _, _, _, _, _, _, _⟩ := bd_cells (show wA.heap[w.heap.size]? = some (bdO x) by rw [← hwA]; exact bd_new w x)
  have g0 := cell_below hg hbA (lt_of_cell hg)
  have HC := hid (containsI_any (h.ways.below hbA).nums hl way)
  have HB := hid hbA
  clear hbA hg h
  go_enter Tryz.func66, Tryz.ntmps66
  go_wp2_with (go_at_call 67; refine HC.out.mono ?_; rintro e w1 ⟨rfl, hb1⟩; have H1 := hid (HB.out.trans (hb1.mono HB.out.size)); clear hb1 HC)
  go_ret
  exact ⟨rfl, H1.out⟩
/-- The region at a way's left, by the borders. -/
def ofL (way : Int) (os : List BP) : List BP → Int
  | [] => -1
  | b :: bs => if hasI b.ways way then regionP b os else ofL way os bs
/-- Where the first border with a way stands. -/
def IdxB (way : Int) (zs : List Zb) (r : Int) : Prop := (r = -1 ∧ ∀ z ∈ zs, hasI z.2.ways way = false) ∨ ∃ (k : Nat) (z : Zb), r = (k : Int) ∧ zs[k]? = some z ∧ hasI z.2.ways way = true ∧ ∀ y ∈ zs.take k, hasI y.2.ways way = false
set_option maxRecDepth 100000 in
set_option maxHeartbeats 1600000 in
theorem indexB_any {w : World} {base : Nat} {bo oo : Option Addr} {bl ol gb g : Nat} {zs os : List Zb} (h : SvIs w base bo oo bl ol gb g zs os) (hbl : bl ≤ 1000) (hw : ∀ z ∈ zs, z.2.ways.length ≤ 100000) (cap : Nat) {q : Nat} {way : Int} (hg : w.cell? ⟨q, 0, none⟩ = some (.int .i64 way)) :
    Calls Tryz.prog 65 #[.slice bo bl cap, .func (.func 66) #[] #[.pointer (some ⟨q, 0, none⟩)]] w fun e w' => (∃ r : Int, e = .returned (.int .i64 r) ∧ IdxB way zs r) ∧ Below w.heap.size w w' := by
  have HS := hid h
  have HC0 := hid (fun z (hz : z ∈ zs) W (hW : Below w.heap.size w W) => of1_any ((h.is z hz).below hW) (hw z hz) (cell_below hg hW (lt_of_cell hg)))
  clear h hw hg
  go_enter Tryz.func65, Tryz.ntmps65
  go_wp2
  go_loopw [5, 8] (fun _ iv wr => ∃ k : Nat, k ≤ bl ∧ iv = .int .i64 (k : Int) ∧ (∀ y ∈ zs.take k, hasI y.2.ways way = false) ∧ Below w.heap.size w wr) (fun _ iv _ => bl - (intOf iv).toNat)
  case atStart => exact ⟨0, Nat.zero_le _, rfl, (fun y hy => by simp at hy), Below.refl _ _⟩
  case round =>
    obtain ⟨k, hk, rfl, hno, hbr⟩ := hrel
    have HBR := hid hbr
    have HNO := hid hno
    clear hno
    by_cases hlt : k < bl
    · have hltI : (k : Int) < (bl : Int) := by omega
      obtain ⟨z, hz⟩ : ∃ z, zs[k]? = some z := ⟨zs[k]'(by have := HS.out.len; omega), by rw [List.getElem?_eq_getElem]⟩
      obtain rfl := HS.out.bat (by omega)
      obtain ⟨a0, a1, a2, a3, a4, a5, a6, a7, a8⟩ := (HS.out.bcells k z hz).below hbr (lt_of_cell (HS.out.bcells k z hz).1)
      have HC := hid (HC0.out z (List.mem_of_getElem? hz) wr hbr)
      have HZ := hid hz
      clear hz hbr
      obtain ⟨R, hR⟩ : ∃ R, hasI z.2.ways way = R := ⟨_, rfl⟩
      rw [hR] at HC
      have HR := hid hR
      clear hR
      cases R with
      | true =>
        go_wp2_with (go_at_call 66; refine HC.out.mono ?_; rintro e w1 ⟨rfl, hb1⟩; have HB1 := hid (HBR.out.trans (hb1.mono HBR.out.size)); clear hb1 HC)
        refine bodyPost_ret (v := .int .i64 (k : Int)) (by simp [results, Tryz.results65, go_sem]) rfl ?_
        exact ⟨⟨_, rfl, .inr ⟨k, z, rfl, HZ.out, HR.out, HNO.out⟩⟩, HB1.out⟩
      | false =>
        go_wp2_with (go_at_call 66; refine HC.out.mono ?_; rintro e w1 ⟨rfl, hb1⟩; have HB1 := hid (HBR.out.trans (hb1.mono HBR.out.size)); clear hb1 HC)
        go_roundw
        case rel =>
          refine ⟨k + 1, by omega, by go_num, fun y hy => ?_, HB1.out⟩
          rw [List.take_add_one, HZ.out] at hy
          rcases List.mem_append.1 hy with hy | hy
          · exact HNO.out y hy
          · simp at hy
            rw [hy]
            exact HR.out
        case measure => simp [intOf]; omega
    · have hltI : ¬ (k : Int) < (bl : Int) := by omega
      have HX := hid (show ∀ z ∈ zs, hasI z.2.ways way = false from fun z hz => HNO.out z (by rw [List.take_of_length_le (by have := HS.out.len; omega)]; exact hz))
      clear hbr
      go_wp2
      refine bodyPost_ret (v := .int .i64 (-1)) (by simp [results, Tryz.results65, go_sem]) rfl ?_
      exact ⟨⟨_, rfl, .inl ⟨rfl, HX.out⟩⟩, HBR.out⟩
theorem ofL_none {way : Int} {os : List BP} : ∀ {bs : List BP}, (∀ b ∈ bs, hasI b.ways way = false) → ofL way os bs = -1
  | [], _ => rfl
  | b :: bs, h => by rw [ofL, h b List.mem_cons_self, if_neg Bool.false_ne_true, ofL_none fun c hc => h c (List.mem_cons_of_mem _ hc)]
theorem ofL_some {way : Int} {os : List BP} : ∀ {bs : List BP} {k : Nat} {b : BP}, bs[k]? = some b → hasI b.ways way = true → (∀ c ∈ bs.take k, hasI c.ways way = false) → ofL way os bs = regionP b os
  | [], k, b, h, _, _ => by simp at h
  | c :: bs, 0, b, h, hb, _ => by
    simp at h
    subst h
    rw [ofL, if_pos hb]
  | c :: bs, k + 1, b, h, hb, h0 => by
    rw [List.getElem?_cons_succ] at h
    rw [List.take_succ_cons] at h0
    rw [ofL, h0 c List.mem_cons_self, if_neg Bool.false_ne_true]
    exact ofL_some h hb fun d hd => h0 d (List.mem_cons_of_mem _ hd)

set_option maxRecDepth 100000 in
set_option maxHeartbeats 3200000 in
theorem faceOf_any {w : World} {b off n cap : Nat} {ao : Option Addr} {xs : List ER} {ls : List (List Pp)} (h : PlE w b off n ao xs ls) (no : Option Addr) (nl nc : Nat) (hP : ∀ r ∈ ringsL xs ls, (ringPtsF xs ls r).length ≤ 4096) (hout : ((bordersL xs ls).filter BP.out).length ≤ 19) (hw : ∀ b ∈ bordersL xs ls, b.ways.length ≤ 100000) (hbl : (bordersL xs ls).length ≤ 1000) (way : Int) :
    Calls Tryz.prog 28 #[plV (.slice no nl nc) (.slice ao n cap), .int .i64 way] w fun e w' => e = .returned (.int .i64 (ofL way (outersL xs ls) (bordersL xs ls))) ∧ Below w.heap.size w w' := by
  obtain ⟨wP, hwP⟩ : ∃ wP, w.alloc (.cells #[.slice no nl nc, .slice ao n cap] 25) = wP := ⟨_, rfl⟩
  have hbP : Below w.heap.size w wP := by rw [← hwP]; exact (Below.refl _ w).alloc (Nat.le_refl _) _
  have hhP : wP.heap[w.heap.size]? = some (.cells #[.slice no nl nc, .slice ao n cap] 25 (0, 0)) := by rw [← hwP]; exact World.alloc_heap_new w _
  obtain ⟨wQ, hwQ⟩ : ∃ wQ, wP.alloc (.cells #[.int .i64 way] 3) = wQ := ⟨_, rfl⟩
  have hbQ : Below wP.heap.size wP wQ := by rw [← hwQ]; exact (Below.refl _ wP).alloc (Nat.le_refl _) _
  have hhQ : wQ.heap[wP.heap.size]? = some (.cells #[.int .i64 way] 3 (0, 0)) := by rw [← hwQ]; exact World.alloc_heap_new wP _
  have hh2 := (hbQ.block _ (lt_of_heap hhP)).trans hhP
  have hb : Below w.heap.size w wQ := hbP.trans (hbQ.mono hbP.size)
  have c0 : wQ.cell? ⟨w.heap.size, 0, none⟩ = some (.slice no nl nc) := by simp [World.cell?, hh2]
  have c1 : wQ.cell? ⟨w.heap.size, 1, none⟩ = some (.slice ao n cap) := by simp [World.cell?, hh2]
  have HQ := hid hhQ
  have HL := hid (look_any (cap := cap) (h.below hb) no nl nc hP hout)
  have HW := hid hw
  have HBL := hid hbl
  have HB := hid hb
  clear h hP hout hbP hhP hbQ hhQ hh2 hb hw hbl
  generalize outersL xs ls = OS at HL ⊢
  generalize bordersL xs ls = BS at HL HW HBL ⊢
  by_cases hno : ∀ b ∈ BS, hasI b.ways way = false
  · have HNO := hid hno
    clear hno
    go_enter Tryz.func28, Tryz.ntmps28
    go_wp2_with (first
      | (go_at_call 19; refine HL.out.mono ?_; rintro e w1 ⟨bo, bl, bc, oo, ol, oc, gb, g, zs, os, rfl, hsv, hzs, hos, hol, hb1⟩; obtain ⟨wS, hwS⟩ : ∃ wS, w1.alloc (.cells #[.slice bo bl bc, .slice oo ol oc] 59) = wS := ⟨_, rfl⟩; have hbS : Below w1.heap.size w1 wS := (by rw [← hwS]; exact (Below.refl _ w1).alloc (Nat.le_refl _) _); have hhS : wS.heap[w1.heap.size]? = some (.cells #[.slice bo bl bc, .slice oo ol oc] 59 (0, 0)) := (by rw [← hwS]; exact World.alloc_heap_new w1 _); have s0 : wS.cell? ⟨w1.heap.size, 0, none⟩ = some (.slice bo bl bc) := (by simp [World.cell?, hhS]); have s1 : wS.cell? ⟨w1.heap.size, 1, none⟩ = some (.slice oo ol oc) := (by simp [World.cell?, hhS]); have hqS : wS.heap[wP.heap.size]? = some (.cells #[.int .i64 way] 3 (0, 0)) := ((hb1.trans (hbS.mono hb1.size)).block _ (lt_of_heap HQ.out)).trans HQ.out; have HIX := hid (indexB_any (hsv.below hbS) (by rw [← hsv.len, ← List.length_map (·.2), hzs]; exact HBL.out) (fun z hz => HW.out z.2 (by rw [← hzs]; exact List.mem_map_of_mem hz)) bc (q := wP.heap.size) (way := way) (by simp [World.cell?, hqS])); have H1 := hid (And.intro (hsv.below hbS) (And.intro hzs (And.intro hos (HB.out.trans ((hb1.trans (hbS.mono hb1.size)).mono HB.out.size))))); clear HL hsv hzs hos hol hb1 hbS hhS hqS c0 c1)
      | (go_at_call 65; refine HIX.out.mono ?_; rintro e w2 ⟨⟨r, rfl, hr⟩, hb2⟩; have hr2 : r = -1 := (by
          rcases hr with ⟨e, _⟩ | ⟨k, z, _, hz, hc, _⟩
          · exact e
          · have q := HNO.out z.2 (by rw [← H1.out.2.1]; exact List.mem_map_of_mem (List.mem_of_getElem? hz))
            rw [hc] at q
            cases q); subst hr2; have H2 := hid (H1.out.2.2.2.trans (hb2.mono H1.out.2.2.2.size)); clear HIX hr hb2 s0 s1))
    go_ret
    rw [ofL_none HNO.out]
    exact ⟨rfl, H2.out⟩
  · have HNO := hid hno
    clear hno
    go_enter Tryz.func28, Tryz.ntmps28
    go_wp2_with (first
      | (go_at_call 19; refine HL.out.mono ?_; rintro e w1 ⟨bo, bl, bc, oo, ol, oc, gb, g, zs, os, rfl, hsv, hzs, hos, hol, hb1⟩; obtain ⟨wS, hwS⟩ : ∃ wS, w1.alloc (.cells #[.slice bo bl bc, .slice oo ol oc] 59) = wS := ⟨_, rfl⟩; have hbS : Below w1.heap.size w1 wS := (by rw [← hwS]; exact (Below.refl _ w1).alloc (Nat.le_refl _) _); have hhS : wS.heap[w1.heap.size]? = some (.cells #[.slice bo bl bc, .slice oo ol oc] 59 (0, 0)) := (by rw [← hwS]; exact World.alloc_heap_new w1 _); have s0 : wS.cell? ⟨w1.heap.size, 0, none⟩ = some (.slice bo bl bc) := (by simp [World.cell?, hhS]); have s1 : wS.cell? ⟨w1.heap.size, 1, none⟩ = some (.slice oo ol oc) := (by simp [World.cell?, hhS]); have hqS : wS.heap[wP.heap.size]? = some (.cells #[.int .i64 way] 3 (0, 0)) := ((hb1.trans (hbS.mono hb1.size)).block _ (lt_of_heap HQ.out)).trans HQ.out; have HIX := hid (indexB_any (hsv.below hbS) (by rw [← hsv.len, ← List.length_map (·.2), hzs]; exact HBL.out) (fun z hz => HW.out z.2 (by rw [← hzs]; exact List.mem_map_of_mem hz)) bc (q := wP.heap.size) (way := way) (by simp [World.cell?, hqS])); have H1 := hid (And.intro (hsv.below hbS) (And.intro hzs (And.intro hos (HB.out.trans ((hb1.trans (hbS.mono hb1.size)).mono HB.out.size))))); clear HL hsv hzs hos hol hb1 hbS hhS hqS c0 c1)
      | (go_at_call 65; refine HIX.out.mono ?_; rintro e w2 ⟨⟨r, rfl, hr⟩, hb2⟩; obtain ⟨k, z, hrk, hz, hc, h0⟩ : ∃ (k : Nat) (z : Zb), r = (k : Int) ∧ zs[k]? = some z ∧ hasI z.2.ways way = true ∧ ∀ y ∈ zs.take k, hasI y.2.ways way = false := (by
          rcases hr with ⟨_, hno⟩ | hh
          · exact absurd (fun b hb => by
              rw [← H1.out.2.1] at hb
              obtain ⟨z, hz, rfl⟩ := List.mem_map.1 hb
              exact hno z hz) HNO.out
          · exact hh); subst hrk; have t0 := cell_below s0 hb2 (lt_of_cell s0); have t1 := cell_below s1 hb2 (lt_of_cell s1); have hk : k < bl := (by have := (List.getElem?_eq_some_iff.1 hz).1; have := H1.out.1.len; omega); obtain rfl := H1.out.1.bat (by omega); have hkI : (k : Int) < (bl : Int) := (by omega); have hsv2 := H1.out.1.below hb2; obtain ⟨a0, a1, a2, a3, a4, a5, a6, a7, a8⟩ := hsv2.bcells k z hz; have HRG := hid (fun W (hW : Below w2.heap.size w2 W) => (hsv2.below hW).region bc oc (List.mem_of_getElem? hz)); have H2 := hid (And.intro (H1.out.2.2.2.trans (hb2.mono H1.out.2.2.2.size)) (And.intro hz (And.intro hc h0))); clear HIX hr hb2 s0 s1 hz hc h0 hk hsv2))
    rw [H1.out.2.2.1] at HRG
    obtain ⟨κ, hκ⟩ : ∃ κ, regionP z.2 OS = κ := ⟨_, rfl⟩
    rw [hκ] at HRG
    have HK := hid hκ
    clear hκ
    go_region_held (fun w' => w'.cell? ⟨w1.heap.size, 0, none⟩ = some (.slice (some ⟨gb, 0, none⟩) bl bc) ∧ w'.cell? ⟨w1.heap.size, 1, none⟩ = some (.slice oo ol oc) ∧ w'.cell? ⟨gb, k * 9, none⟩ = some (.slice z.1.wo z.1.wl z.1.wc) ∧ w'.cell? ⟨gb, k * 9 + 1, none⟩ = some (.slice z.1.po z.1.pl z.1.pc) ∧ w'.cell? ⟨gb, k * 9 + 2, none⟩ = some (.int .i64 z.1.lx) ∧ w'.cell? ⟨gb, k * 9 + 3, none⟩ = some (.int .i64 z.1.ly) ∧ w'.cell? ⟨gb, k * 9 + 4, none⟩ = some (.int .i64 z.1.hx) ∧ w'.cell? ⟨gb, k * 9 + 5, none⟩ = some (.int .i64 z.1.hy) ∧ w'.cell? ⟨gb, k * 9 + 6, none⟩ = some (.int .i64 z.1.ar) ∧ w'.cell? ⟨gb, k * 9 + 7, none⟩ = some (.int .i64 z.1.pt) ∧ w'.cell? ⟨gb, k * 9 + 8, none⟩ = some (.int .i64 z.1.nr)) (first | exact ⟨t0, t1, a0, a1, a2, a3, a4, a5, a6, a7, a8⟩ | exact HX3.out) (first
      | (go_at_call 20; refine (HRG.out _ (Below.refl _ w2).drew).mono ?_; rintro e w3 ⟨rfl, hb3⟩; have HX3 := hid (And.intro (cell_below (show w2.drew.cell? ⟨w1.heap.size, 0, none⟩ = _ from t0) hb3 (lt_of_cell t0)) (And.intro (cell_below (show w2.drew.cell? ⟨w1.heap.size, 1, none⟩ = _ from t1) hb3 (lt_of_cell t1)) (show BAt w3 gb (k * 9) z.1 from (show BAt w2.drew gb (k * 9) z.1 from ⟨a0, a1, a2, a3, a4, a5, a6, a7, a8⟩).below hb3 (lt_of_cell a0)))); have H3 := hid (H2.out.1.trans (((Below.refl _ w2).drew.trans hb3).mono H2.out.1.size)); clear HRG hb3))
    go_wp2
    go_ret
    rw [← H1.out.2.1, ofL_some (k := k) (b := z.2) (by rw [List.getElem?_map, H2.out.2.1]; rfl) H2.out.2.2.1 (fun c hc => by
      rw [← List.map_take] at hc
      obtain ⟨y, hy, rfl⟩ := List.mem_map.1 hc
      exact H2.out.2.2.2 y hy), HK.out]
    exact ⟨rfl, H3.out⟩
end Go.Proofs.YtdjbjadaldndcaaGreat
