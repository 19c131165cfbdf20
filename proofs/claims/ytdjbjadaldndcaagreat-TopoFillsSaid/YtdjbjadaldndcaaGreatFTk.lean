/-
  Layer 15: whether a point is a node or on an edge; the region in which it lies.
-/
import Derived.Test.YtdjbjadaldndcaaGreatFLook
import Derived.Test.YtdjbjadaldndcaaGreatMS
import Derived.Test.YtdjbjadaldndcaaGreatMQ
namespace Go.Proofs.YtdjbjadaldndcaaGreat
open Go.RowKit Go.Shelf Go.Sort Go.Maps

/-- Is q on the line of edge k? -/
def onE (ls : List (List Pp)) (q : Pp) (k : Nat) : Bool := (athL (ls.getD k []) q).isSome
theorem atI_ge (o : Option Nat) : decide (0 ≤ atI o) = o.isSome := by
  cases o with
  | none => rfl
  | some k => simp [atI]
abbrev erO (x : ER) : Obj := .cells #[.int .i64 x.id, .int .i64 x.st, .int .i64 x.en, .slice x.lo x.ll x.lc, .int .i64 x.lf, .int .i64 x.rt] 32 (0, 0)

set_option maxRecDepth 100000 in
set_option maxHeartbeats 1600000 in
theorem taken2_any (x : ER) {l : List Pp} {qx qy : Int} {g : Nat} {w : World} (hs : Src w (.slice x.lo x.ll x.lc) l) (hl : l.length ≤ 1000) (h0 : w.cell? ⟨g, 0, none⟩ = some (.int .i64 qx)) (h1 : w.cell? ⟨g, 1, none⟩ = some (.int .i64 qy)) :
    Calls Tryz.prog 60 #[erV x, .pointer (some ⟨g, 0, none⟩)] w fun e w' => e = .returned (.bool (athL l (qx, qy)).isSome) ∧ Below w.heap.size w w' := by
  obtain ⟨wA, hwA⟩ : ∃ wA, w.alloc (erO x) = wA := ⟨_, rfl⟩
  have hbA : Below w.heap.size w wA := by rw [← hwA]; exact (Below.refl _ w).alloc (Nat.le_refl _) _
  obtain ⟨a0, a1, a2, a3, a4, a5⟩ : EAt wA w.heap.size 0 x := by rw [← hwA]; exact ebox w x _
  have b0 := cell_below h0 hbA (lt_of_cell h0)
  have b1 := cell_below h1 hbA (lt_of_cell h1)
  have HA := hid (lineAtH_any _ l qx qy wA (hs.below hbA).pts (by omega))
  have HB := hid hbA
  rw [← atI_ge]
  generalize atI (athL l (qx, qy)) = z at HA ⊢
  clear hbA h0 h1 hs
  go_enter Tryz.func60, Tryz.ntmps60
  go_wp2_with (go_at_call 61; refine HA.out.mono ?_; rintro e w1 ⟨rfl, hb1⟩; have H1 := hid (HB.out.trans (hb1.mono HB.out.size)); clear hb1 HA)
  go_ret
  exact ⟨rfl, H1.out⟩

set_option maxRecDepth 100000 in
set_option maxHeartbeats 1600000 in
theorem indexT_any {w : World} {b off n cap : Nat} {ao : Option Addr} {xs : List ER} {ls : List (List Pp)} (h : PlE w b off n ao xs ls) {qx qy : Int} {g : Nat} (h0 : w.cell? ⟨g, 0, none⟩ = some (.int .i64 qx)) (h1 : w.cell? ⟨g, 1, none⟩ = some (.int .i64 qy)) :
    Calls Tryz.prog 94 #[.slice ao n cap, .func (.func 60) #[] #[.pointer (some ⟨g, 0, none⟩)]] w fun e w' => (∃ r : Int, e = .returned (.int .i64 r) ∧ decide (0 ≤ r) = (List.range n).any (onE ls (qx, qy))) ∧ Below w.heap.size w w' := by
  have HC0 := hid (fun (k : Nat) (x : ER) (hx : xs[k]? = some x) W (hW : Below w.heap.size w W) => taken2_any x (w := W) (l := ls.getD k []) ((h.lines k x hx).1.below hW) (h.short k) (cell_below h0 hW (lt_of_cell h0)) (cell_below h1 hW (lt_of_cell h1)))
  have HE := hid (fun (k : Nat) (x : ER) (hx : xs[k]? = some x) W (hW : Below w.heap.size w W) => (h.cells k x hx).below hW (h.cells k x hx).lt)
  have HAO := hid h.at'
  have hln := h.len
  have hfew := h.few
  clear h h0 h1
  go_enter Tryz.func94, Tryz.ntmps94
  go_wp2
  go_loopw [5, 8] (fun _ iv wr => ∃ k : Nat, k ≤ n ∧ iv = .int .i64 (k : Int) ∧ (∀ j, j < k → onE ls (qx, qy) j = false) ∧ Below w.heap.size w wr) (fun _ iv _ => n - (intOf iv).toNat)
  case atStart => exact ⟨0, Nat.zero_le _, rfl, (fun j hj => absurd hj (Nat.not_lt_zero j)), Below.refl _ _⟩
  case round =>
    obtain ⟨k, hk, rfl, hno, hbr⟩ := hrel
    have HBR := hid hbr
    have HNO := hid hno
    clear hno
    by_cases hlt : k < n
    · have hltI : (k : Int) < (n : Int) := by omega
      obtain ⟨x, hx⟩ : ∃ x, xs[k]? = some x := ⟨xs[k]'(by omega), by rw [List.getElem?_eq_getElem]⟩
      obtain rfl := HAO.out (by omega)
      obtain ⟨a0, a1, a2, a3, a4, a5⟩ := HE.out k x hx wr hbr
      have HC := hid (HC0.out k x hx wr hbr)
      clear hx hbr
      obtain ⟨B, hB⟩ : ∃ B, onE ls (qx, qy) k = B := ⟨_, rfl⟩
      have hB' : (athL (ls.getD k []) (qx, qy)).isSome = B := hB
      rw [hB'] at HC
      have HBK := hid hB
      clear hB hB'
      cases B with
      | true =>
        go_wp2_with (go_at_call 60; refine HC.out.mono ?_; rintro e w1 ⟨rfl, hb1⟩; have HB1 := hid (HBR.out.trans (hb1.mono HBR.out.size)); clear hb1 HC)
        go_ret
        refine ⟨?_, HB1.out⟩
        have q : (List.range n).any (onE ls (qx, qy)) = true := List.any_eq_true.2 ⟨k, List.mem_range.2 hlt, HBK.out⟩
        rw [q]
        simp
      | false =>
        go_wp2_with (go_at_call 60; refine HC.out.mono ?_; rintro e w1 ⟨rfl, hb1⟩; have HB1 := hid (HBR.out.trans (hb1.mono HBR.out.size)); clear hb1 HC)
        go_roundw
        case rel =>
          refine ⟨k + 1, by omega, by go_num, fun j hj => ?_, HB1.out⟩
          by_cases e : j = k
          · rw [e]; exact HBK.out
          · exact HNO.out j (by omega)
        case measure => simp [intOf]; omega
    · have hltI : ¬ (k : Int) < (n : Int) := by omega
      have HX := hid (show (List.range n).any (onE ls (qx, qy)) = false by
        rw [List.any_eq_false]
        intro j hj
        rw [HNO.out j (by have := List.mem_range.1 hj; omega)]
        exact Bool.false_ne_true)
      clear hbr
      go_wp2
      go_ret
      refine ⟨?_, HBR.out⟩
      rw [HX.out]
      simp

set_option maxRecDepth 100000 in
set_option maxHeartbeats 1600000 in
theorem containsT_any {w : World} {b off n cap : Nat} {ao : Option Addr} {xs : List ER} {ls : List (List Pp)} (h : PlE w b off n ao xs ls) {qx qy : Int} {g : Nat} (h0 : w.cell? ⟨g, 0, none⟩ = some (.int .i64 qx)) (h1 : w.cell? ⟨g, 1, none⟩ = some (.int .i64 qy)) :
    Calls Tryz.prog 59 #[.slice ao n cap, .func (.func 60) #[] #[.pointer (some ⟨g, 0, none⟩)]] w fun e w' => e = .returned (.bool ((List.range n).any (onE ls (qx, qy)))) ∧ Below w.heap.size w w' := by
  have HC := hid (indexT_any (cap := cap) h h0 h1)
  generalize (List.range n).any (onE ls (qx, qy)) = R at HC ⊢
  clear h h0 h1
  go_enter Tryz.func59, Tryz.ntmps59
  go_wp2_with (go_at_call 94; refine HC.out.mono ?_; rintro e w1 ⟨⟨r, rfl, hr⟩, hb1⟩; have HB1 := hid (And.intro hr hb1); clear hr hb1 HC)
  go_ret
  exact ⟨by rw [HB1.out.1]; rfl, HB1.out.2⟩

/-- Is q a node of a plan, or on an edge? -/
def takenF (ns : List NR) (n : Nat) (ls : List (List Pp)) (q : Pp) : Bool := ns.any (atN q.1 q.2) || (List.range n).any (onE ls q)
set_option maxRecDepth 100000 in
set_option maxHeartbeats 3200000 in
theorem taken_any {w : World} {b off n cap : Nat} {ao : Option Addr} {xs : List ER} {ls : List (List Pp)} (h : PlE w b off n ao xs ls) {nb noff nl nc : Nat} {no : Option Addr} {ns : List NR} (hd : NdE w nb noff nl no ns) (qx qy : Int) :
    Calls Tryz.prog 25 #[plV (.slice no nl nc) (.slice ao n cap), pv qx qy] w fun e w' => e = .returned (.bool (takenF ns n ls (qx, qy))) ∧ Below w.heap.size w w' := by
  obtain ⟨wP, hwP⟩ : ∃ wP, w.alloc (.cells #[.slice no nl nc, .slice ao n cap] 25) = wP := ⟨_, rfl⟩
  have hbP : Below w.heap.size w wP := by rw [← hwP]; exact (Below.refl _ w).alloc (Nat.le_refl _) _
  have hhP : wP.heap[w.heap.size]? = some (.cells #[.slice no nl nc, .slice ao n cap] 25 (0, 0)) := by rw [← hwP]; exact World.alloc_heap_new w _
  obtain ⟨wQ, hwQ⟩ : ∃ wQ, wP.alloc (.cells #[.int .i64 qx, .int .i64 qy] 27) = wQ := ⟨_, rfl⟩
  have hbQ : Below wP.heap.size wP wQ := by rw [← hwQ]; exact (Below.refl _ wP).alloc (Nat.le_refl _) _
  have hhQ : wQ.heap[wP.heap.size]? = some (.cells #[.int .i64 qx, .int .i64 qy] 27 (0, 0)) := by rw [← hwQ]; exact World.alloc_heap_new wP _
  have hh2 := (hbQ.block _ (lt_of_heap hhP)).trans hhP
  have hb : Below w.heap.size w wQ := hbP.trans (hbQ.mono hbP.size)
  have c0 : wQ.cell? ⟨w.heap.size, 0, none⟩ = some (.slice no nl nc) := by simp [World.cell?, hh2]
  have c1 : wQ.cell? ⟨w.heap.size, 1, none⟩ = some (.slice ao n cap) := by simp [World.cell?, hh2]
  have q0 : wQ.cell? ⟨wP.heap.size, 0, none⟩ = some (.int .i64 qx) := by simp [World.cell?, hhQ]
  have q1 : wQ.cell? ⟨wP.heap.size, 1, none⟩ = some (.int .i64 qy) := by simp [World.cell?, hhQ]
  have HN := hid (containsN_any (cap := nc) (hd.below hb) q0 q1)
  have HT := hid (fun W (hW : Below wQ.heap.size wQ W) => containsT_any (cap := cap) (h.below (hb.trans (hW.mono hb.size))) (cell_below q0 hW (lt_of_cell q0)) (cell_below q1 hW (lt_of_cell q1)))
  have HB := hid hb
  unfold takenF
  dsimp only
  clear h hd hbP hhP hbQ hhQ hh2 hb
  cases hn : ns.any (atN qx qy) with
  | true =>
    rw [hn] at HN
    clear hn
    go_enter Tryz.func25, Tryz.ntmps25
    go_wp2_with (go_at_call 57; refine HN.out.mono ?_; rintro e w1 ⟨rfl, hb1⟩; have H1 := hid (HB.out.trans (hb1.mono HB.out.size)); clear hb1 HN)
    go_ret
    exact ⟨rfl, H1.out⟩
  | false =>
    rw [hn] at HN
    clear hn
    go_enter Tryz.func25, Tryz.ntmps25
    go_wp2_with (first
      | (go_at_call 57; refine HN.out.mono ?_; rintro e w1 ⟨rfl, hb1⟩; have H1 := hid hb1; have d1 := cell_below c1 hb1 (lt_of_cell c1); clear hb1 HN)
      | (go_at_call 59; refine (HT.out _ H1.out).mono ?_; rintro e w2 ⟨rfl, hb2⟩; have H2 := hid (HB.out.trans ((H1.out.trans (hb2.mono H1.out.size)).mono HB.out.size)); clear hb2 HT))
    go_ret
    exact ⟨rfl, H2.out⟩
set_option maxRecDepth 100000 in
set_option maxHeartbeats 3200000 in
theorem faceAt_any {w : World} {b off n cap : Nat} {ao : Option Addr} {xs : List ER} {ls : List (List Pp)} (h : PlE w b off n ao xs ls) {nb noff nl nc : Nat} {no : Option Addr} {ns : List NR} (hd : NdE w nb noff nl no ns) (hP : ∀ r ∈ ringsL xs ls, (ringPtsF xs ls r).length ≤ 4096) (hout : ((bordersL xs ls).filter BP.out).length ≤ 19) (qx qy : Int) :
    Calls Tryz.prog 9 #[plV (.slice no nl nc) (.slice ao n cap), pv qx qy] w fun e w' => e = .returned (.tuple #[.int .i64 (if takenF ns n ls (qx, qy) then 0 else leastP (fun _ => true) (qx, qy) (outersL xs ls)), .bool !(takenF ns n ls (qx, qy))]) ∧ Below w.heap.size w w' := by
  obtain ⟨wP, hwP⟩ : ∃ wP, w.alloc (.cells #[.slice no nl nc, .slice ao n cap] 25) = wP := ⟨_, rfl⟩
  have hbP : Below w.heap.size w wP := by rw [← hwP]; exact (Below.refl _ w).alloc (Nat.le_refl _) _
  have hhP : wP.heap[w.heap.size]? = some (.cells #[.slice no nl nc, .slice ao n cap] 25 (0, 0)) := by rw [← hwP]; exact World.alloc_heap_new w _
  obtain ⟨wQ, hwQ⟩ : ∃ wQ, wP.alloc (.cells #[.int .i64 qx, .int .i64 qy] 27) = wQ := ⟨_, rfl⟩
  have hbQ : Below wP.heap.size wP wQ := by rw [← hwQ]; exact (Below.refl _ wP).alloc (Nat.le_refl _) _
  have hhQ : wQ.heap[wP.heap.size]? = some (.cells #[.int .i64 qx, .int .i64 qy] 27 (0, 0)) := by rw [← hwQ]; exact World.alloc_heap_new wP _
  have hh2 := (hbQ.block _ (lt_of_heap hhP)).trans hhP
  have hb : Below w.heap.size w wQ := hbP.trans (hbQ.mono hbP.size)
  have c0 : wQ.cell? ⟨w.heap.size, 0, none⟩ = some (.slice no nl nc) := by simp [World.cell?, hh2]
  have c1 : wQ.cell? ⟨w.heap.size, 1, none⟩ = some (.slice ao n cap) := by simp [World.cell?, hh2]
  have q0 : wQ.cell? ⟨wP.heap.size, 0, none⟩ = some (.int .i64 qx) := by simp [World.cell?, hhQ]
  have q1 : wQ.cell? ⟨wP.heap.size, 1, none⟩ = some (.int .i64 qy) := by simp [World.cell?, hhQ]
  have HT := hid (taken_any (cap := cap) (nc := nc) (h.below hb) (hd.below hb) qx qy)
  have HL := hid (fun W (hW : Below w.heap.size w W) => look_any (cap := cap) (h.below hW) no nl nc hP hout)
  have HB := hid hb
  clear h hd hP hout hbP hhP hbQ hhQ hh2 hb
  generalize outersL xs ls = OS at HL ⊢
  cases ht : takenF ns n ls (qx, qy) with
  | true =>
    rw [ht] at HT
    clear ht HL
    go_enter Tryz.func9, Tryz.ntmps9
    go_wp2_with (go_at_call 25; refine HT.out.mono ?_; rintro e w1 ⟨rfl, hb1⟩; have H1 := hid (HB.out.trans (hb1.mono HB.out.size)); clear hb1 HT)
    go_ret2
    exact ⟨rfl, H1.out⟩
  | false =>
    rw [ht] at HT
    clear ht
    go_enter Tryz.func9, Tryz.ntmps9
    go_wp2_with (go_at_call 25; refine HT.out.mono ?_; rintro e w1 ⟨rfl, hb1⟩; have H1 := hid (HB.out.trans (hb1.mono HB.out.size)); have d0 := cell_below c0 hb1 (lt_of_cell c0); have d1 := cell_below c1 hb1 (lt_of_cell c1); have r0 := cell_below q0 hb1 (lt_of_cell q0); have r1 := cell_below q1 hb1 (lt_of_cell q1); clear hb1 HT c0 c1 q0 q1)
    go_region_held (fun w' => w'.cell? ⟨w.heap.size, 0, none⟩ = some (.slice no nl nc) ∧ w'.cell? ⟨w.heap.size, 1, none⟩ = some (.slice ao n cap) ∧ w'.cell? ⟨wP.heap.size, 0, none⟩ = some (.int .i64 qx) ∧ w'.cell? ⟨wP.heap.size, 1, none⟩ = some (.int .i64 qy)) (first | exact ⟨d0, d1, r0, r1⟩ | exact HX2.out | exact HX3.out) (first
      | (go_at_call 19; refine (HL.out _ H1.out.drew).mono ?_; rintro e w2 ⟨bo, bl, bc, oo, ol, oc, gb, g, zs, os, rfl, hsv, hzs, hos, hol, hb2⟩; have HX2 := hid (And.intro (cell_below (show w1.drew.cell? ⟨w.heap.size, 0, none⟩ = _ from d0) hb2 (lt_of_cell d0)) (And.intro (cell_below (show w1.drew.cell? ⟨w.heap.size, 1, none⟩ = _ from d1) hb2 (lt_of_cell d1)) (And.intro (cell_below (show w1.drew.cell? ⟨wP.heap.size, 0, none⟩ = _ from r0) hb2 (lt_of_cell r0)) (cell_below (show w1.drew.cell? ⟨wP.heap.size, 1, none⟩ = _ from r1) hb2 (lt_of_cell r1))))); have HA := hid (hsv.at_ bc oc qx qy); rw [hos] at HA; have H2 := hid (H1.out.trans (((Below.refl _ w1).drew.trans hb2).mono H1.out.size)); clear HL hsv hzs hos hol hb2)
      | (go_at_call 23; refine HA.out.mono ?_; rintro e w3 ⟨rfl, hb3⟩; have HX3 := hid (And.intro (cell_below HX2.out.1 hb3 (lt_of_cell HX2.out.1)) (And.intro (cell_below HX2.out.2.1 hb3 (lt_of_cell HX2.out.2.1)) (And.intro (cell_below HX2.out.2.2.1 hb3 (lt_of_cell HX2.out.2.2.1)) (cell_below HX2.out.2.2.2 hb3 (lt_of_cell HX2.out.2.2.2))))); have H3 := hid (H2.out.trans (hb3.mono H2.out.size)); clear HA hb3))
    go_wp2
    go_ret2
    exact ⟨rfl, H3.out⟩
end Go.Proofs.YtdjbjadaldndcaaGreat
