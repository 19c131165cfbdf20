/-
  Layer 17: draft's plan of its own.
-/
import Derived.Test.YtkdnkmheidbfdaaGreatN6
import Derived.Test.YtkdnkmheidbfdaaGreatN3
namespace Go.Proofs.YtkdnkmheidbfdaaGreat
open Go.RowKit Go.Shelf Go.Sort Go.Maps

theorem PlO.setLine {w : World} {base g n cap uo' : Nat} {nv : Value} {ns : List NR} {xs : List ER} {ls : List (List Pp)} (h : PlO w base nv (.slice (some ⟨g, 0, none⟩) n cap) ns xs ls) (hn : xs.length = n) {k : Nat} {x : ER} (hx : xs[k]? = some x) {uo : Option Addr} {ul uc : Nat} (hu : PtRow w uo' (.slice uo ul uc) (ls.getD k [])) :
    PlO (w.setCell ⟨g, k * 6 + 3, none⟩ (.slice uo ul uc)) base nv (.slice (some ⟨g, 0, none⟩) n cap) ns (xs.set k (withLine x uo ul uc)) ls := by
  obtain ⟨_, c0, hc0⟩ := own_block h.edges g rfl
  have hO : ∀ j, j ≠ g → (w.setCell ⟨g, k * 6 + 3, none⟩ (.slice uo ul uc)).heap[j]? = w.heap[j]? := fun j hj => Below.heap_setCell _ _ _ j hj
  have hT : ∀ (j : Nat) (c : Array Value) (t : TypeId) (f : Nat × Nat), w.heap[j]? = some (.cells c t f) → t ≠ 29 → (w.setCell ⟨g, k * 6 + 3, none⟩ (.slice uo ul uc)).heap[j]? = w.heap[j]? := fun j c t f hc ht => hO j fun e => by
    subst e
    rw [hc0] at hc
    injection hc with hc
    injection hc with _ e2 _
    exact ht e2.symm
  refine ⟨h.nodes.same fun j hj => ?_, h.edges.setLine hn hx uo ul uc, fun j y hy => ?_⟩
  · obtain ⟨_, c', hc'⟩ := own_block h.nodes j hj
    exact hT j c' _ _ hc' (by decide)
  · have hl := h.lines.keep (w' := w.setCell ⟨g, k * 6 + 3, none⟩ (.slice uo ul uc)) fun j c f hc => hT j c _ f hc (by decide)
    rw [List.getElem?_set] at hy
    by_cases hjk : k = j
    · subst hjk
      rw [if_pos rfl] at hy
      have hy' : y = withLine x uo ul uc := by
        split at hy
        · exact (Option.some.inj hy).symm
        · cases hy
      subst hy'
      have hu' : PtRow (w.setCell ⟨g, k * 6 + 3, none⟩ (.slice uo ul uc)) uo' (.slice uo ul uc) (ls.getD k []) := hu.typed fun j c hc => hT j c _ _ hc (by decide)
      refine ⟨hu'.src, fun a ha => ?_⟩
      have ha' : uo = some a := ha
      rcases hu'.2 with ⟨e, _⟩ | ⟨g', cp, cur, e, _, hg', _⟩
      · injection e with e1 _ _
        rw [e1] at ha'
        cases ha'
      · injection e with e1 _ _
        rw [e1] at ha'
        injection ha' with ha'
        subst ha'
        exact ⟨_, _, hg'⟩
    · rw [if_neg hjk] at hy
      exact hl j y hy
theorem other_block {W : World} {g k : Nat} {c c' : Array Value} {t t' : TypeId} {f f' : Nat × Nat} (h1 : W.heap[g]? = some (.cells c t f)) (h2 : W.heap[k]? = some (.cells c' t' f')) (ht : t ≠ t') : k ≠ g := fun e => by
  subst e
  rw [h1] at h2
  injection h2 with h2
  injection h2 with _ e2 _
  exact ht e2
theorem bareF_set {xs ys : List ER} {k : Nat} {x : ER} (h : ys.map bareF = xs.map bareF) (hx : ys[k]? = some x) (uo : Option Addr) (ul uc : Nat) : (ys.set k (withLine x uo ul uc)).map bareF = xs.map bareF := by
  rw [← h, List.map_set]
  refine List.ext_getElem? fun j => ?_
  rw [List.getElem?_set]
  by_cases hjk : k = j
  · subst hjk
    have hlt : k < ys.length := (List.getElem?_eq_some_iff.1 hx).1
    rw [if_pos rfl, List.length_map, if_pos hlt, List.getElem?_map, hx]
    rfl
  · rw [if_neg hjk]

set_option maxRecDepth 100000 in
set_option maxHeartbeats 6400000 in
theorem ofE_any {w : World} {b off n cap : Nat} {ao : Option Addr} {xs : List ER} {ls : List (List Pp)} (h : PlE w b off n ao xs ls) {nb noff nl nc : Nat} {no : Option Addr} {ns : List NR} (hd : NdE w nb noff nl no ns) (h0 : nl = 0 → no = none) (hn1 : 1 ≤ n) :
    Calls Tryz.prog 16 #[plV (.slice no nl nc) (.slice ao n cap)] w fun e w' => (∃ v u ys, e = .returned (plV v u) ∧ PlO w' w.heap.size v u ns ys ls ∧ ys.map bareF = xs.map bareF) ∧ Below w.heap.size w w' := by
  obtain ⟨wP, hwP⟩ : ∃ wP, w.alloc (.cells #[.slice no nl nc, .slice ao n cap] 32) = wP := ⟨_, rfl⟩
  have hbP : Below w.heap.size w wP := by rw [← hwP]; exact (Below.refl _ w).alloc (Nat.le_refl _) _
  have hhP : wP.heap[w.heap.size]? = some (.cells #[.slice no nl nc, .slice ao n cap] 32 (0, 0)) := by rw [← hwP]; exact World.alloc_heap_new w _
  obtain ⟨wR, hwR⟩ : ∃ wR, wP.alloc (.cells #[.slice none 0 0, .slice none 0 0] 32) = wR := ⟨_, rfl⟩
  have hbR : Below wP.heap.size wP wR := by rw [← hwR]; exact (Below.refl _ wP).alloc (Nat.le_refl _) _
  have hhR : wR.heap[wP.heap.size]? = some (.cells #[.slice none 0 0, .slice none 0 0] 32 (0, 0)) := by rw [← hwR]; exact World.alloc_heap_new wP _
  have hhP' := (hbR.block _ (lt_of_heap hhP)).trans hhP
  obtain ⟨c0, c1, c2, c3⟩ := box2_cell hhP'
  obtain ⟨r0, r1, r2, r3⟩ := box2_cell hhR
  have hb : Below w.heap.size w wR := hbP.trans (hbR.mono hbP.size)
  have hlen := h.len
  have hshort := h.short
  have hfew := h.few
  have HN := hid (fun W (hW : Below w.heap.size w W) => cloneN_row (cap := nc) (hd.below hW) h0)
  have HE := hid (fun W (hW : Below w.heap.size w W) => cloneE_row (cap := cap) h.len (by have := h.few; omega) (h.cells.belowAll hW) h.at' h.nil)
  have HB := hid (And.intro hb (And.intro hhP' (And.intro hhR (show w.heap.size < wP.heap.size from lt_of_heap hhP))))
  have HLN := hid (show Lns w xs ls from h.lines)
  clear hd hbP hhP hbR hhR hhP' hb h
  go_enter Tryz.func16, Tryz.ntmps16
  go_wp2
  go_region_with (first
    | (go_at_call 37; refine (HN.out _ HB.out.1.drew).mono ?_; rintro e w1 ⟨⟨v, rfl, hv⟩, hb1⟩; obtain ⟨vo, vc, hve, _, _⟩ := hv.form; subst hve; have HX1 := hid (box2_cell ((hb1.block _ (show w.heap.size < wR.drew.heap.size from lt_of_heap HB.out.2.1)).trans HB.out.2.1)); obtain ⟨x0, x1, x2, x3⟩ := HX1.out; have H1 := hid (And.intro hv hb1); clear hv hb1)
    | (go_at_call 38; refine (HE.out w1 (HB.out.1.trans (((Below.refl _ wR).drew.trans H1.out.2).mono HB.out.1.size))).mono ?_; rintro e w2 ⟨⟨u, rfl, hu⟩, hb2⟩; obtain ⟨uo, uc, hue, _, hug⟩ := hu.form; subst hue; obtain ⟨g, rfl, _, _⟩ := hug (by omega); have HX2 := hid (box2_cell (((H1.out.2.trans (hb2.mono H1.out.2.size)).block _ (show w.heap.size < wR.drew.heap.size from lt_of_heap HB.out.2.1)).trans HB.out.2.1)); obtain ⟨y0, y1, y2, y3⟩ := HX2.out; have H2 := hid (And.intro hu hb2); clear hu hb2 hug))
  all_goals (
    obtain ⟨hv, hb1⟩ := H1.out
    obtain ⟨hu, hb2⟩ := H2.out
    have hbw : Below wR.drew.heap.size wR.drew w2 := hb1.trans (hb2.mono hb1.size)
    have hbT : Below w.heap.size w w2 := HB.out.1.trans (((Below.refl _ wR).drew.trans hbw).mono HB.out.1.size)
    have hP1 : w2.heap[w.heap.size]? = some (.cells #[.slice no nl nc, .slice ao n cap] 32 (0, 0)) := (hbw.block _ (show w.heap.size < wR.drew.heap.size from lt_of_heap HB.out.2.1)).trans HB.out.2.1
    have hR1 : w2.heap[wP.heap.size]? = some (.cells #[.slice none 0 0, .slice none 0 0] 32 (0, 0)) := (hbw.block _ (show wP.heap.size < wR.drew.heap.size from lt_of_heap HB.out.2.2.1)).trans HB.out.2.2.1
    have hne : wP.heap.size ≠ w.heap.size := Nat.ne_of_gt HB.out.2.2.2
    have hPO : PlO w2 w.heap.size (.slice vo ns.length vc) (.slice (some ⟨g, 0, none⟩) xs.length uc) ns xs ls := ⟨(hv.below hb2).toBase HB.out.1.size, hu.toBase (Nat.le_trans HB.out.1.size hb1.size), HLN.out.keep fun k c f hk => hbT.block k (lt_of_heap hk)⟩
    rw [hlen] at hPO
    obtain ⟨V, hV⟩ : ∃ V, (w2.setCell ⟨w.heap.size, 0, none⟩ (.slice vo ns.length vc)).setCell ⟨w.heap.size, 1, none⟩ (.slice (some ⟨g, 0, none⟩) n uc) = V := ⟨_, rfl⟩
    have hPV : V.heap[w.heap.size]? = some (.cells #[.slice vo ns.length vc, .slice (some ⟨g, 0, none⟩) n uc] 32 (0, 0)) := by rw [← hV]; exact set1 (set1 hP1 _) _
    have hO : ∀ k, k ≠ w.heap.size → V.heap[k]? = w2.heap[k]? := fun k hk => by rw [← hV]; exact (Below.heap_setCell _ _ _ k hk).trans (Below.heap_setCell _ _ _ k hk)
    have hRV := (hO _ hne).trans hR1
    have hPOV : PlO V w.heap.size (.slice vo ns.length vc) (.slice (some ⟨g, 0, none⟩) n uc) ns xs ls := hPO.same fun k c t f hc ht => hO k fun e => by
      subst e
      rw [hP1] at hc
      injection hc with hc
      injection hc with _ e2 _
      exact ht e2.symm
    have hbV : Below w.heap.size w V := by rw [← hV]; exact (hbT.setCell (Nat.le_refl _) _).setCell (Nat.le_refl _) _
    obtain ⟨v0, v1, v2, v3⟩ := box2_cell hPV
    rw [hV]
    have HS := hid (show PlO V w.heap.size (.slice vo ns.length vc) (.slice (some ⟨g, 0, none⟩) n uc) ns xs ls ∧ V.heap[w.heap.size]? = some (.cells #[.slice vo ns.length vc, .slice (some ⟨g, 0, none⟩) n uc] 32 (0, 0)) ∧ V.heap[wP.heap.size]? = some (.cells #[.slice none 0 0, .slice none 0 0] 32 (0, 0)) ∧ Below w.heap.size w V from ⟨hPOV, hPV, hRV, hbV⟩)
    have HNE := hid hne
    have HLT := hid HB.out.2.2.2
    have hnI := hfew
    clear hV hP1 hR1 hPV hRV hO hPO hPOV hbV hbT hbw hv hb1 hu hb2 HX1 x0 x1 x2 x3 HX2 y0 y1 y2 y3 c0 c1 c2 c3 r0 r1 r2 r3 H1 H2 HN HE HLN hne
    go_wp2
    clear v0 v1 v2 v3
    go_loopw [3, 4, 16] (fun _ _ iv wr => ∃ (k : Nat) (ys : List ER), k ≤ n ∧ iv = .int .i64 (k : Int) ∧ ys.map bareF = xs.map bareF ∧ PlO wr w.heap.size (.slice vo ns.length vc) (.slice (some ⟨g, 0, none⟩) n uc) ns ys ls ∧ wr.heap[w.heap.size]? = some (.cells #[.slice vo ns.length vc, .slice (some ⟨g, 0, none⟩) n uc] 32 (0, 0)) ∧ wr.heap[wP.heap.size]? = some (.cells #[.slice none 0 0, .slice none 0 0] 32 (0, 0)) ∧ Below w.heap.size w wr) (fun _ _ iv _ => n - (intOf iv).toNat)
    case atStart => exact ⟨0, xs, Nat.zero_le _, rfl, rfl, HS.out.1, HS.out.2.1, HS.out.2.2.1, HS.out.2.2.2⟩
    case round =>
      obtain ⟨k, ys, hk, rfl, hys, hPO, hP1, hR1, hbr⟩ := hrel
      have hyl : ys.length = n := by rw [← hlen]; simpa using congrArg List.length hys
      by_cases hlt : k < n
      · have hltI : (k : Int) < (n : Int) := by omega
        obtain ⟨x, hx⟩ : ∃ x, ys[k]? = some x := ⟨ys[k]'(by omega), by rw [List.getElem?_eq_getElem]⟩
        obtain ⟨a0, a1, a2, a3, a4, a5⟩ := hPO.edges.eats hyl k x hx
        simp only [Nat.zero_add] at a0 a1 a2 a3 a4 a5
        obtain ⟨V, hV⟩ : ∃ V, wr.alloc (erO x) = V := ⟨_, rfl⟩
        have hbV : Below wr.heap.size wr V := by rw [← hV]; exact (Below.refl _ wr).alloc (Nat.le_refl _) _
        have hhV : V.heap[wr.heap.size]? = some (erO x) := by rw [← hV]; exact World.alloc_heap_new wr _
        obtain ⟨⟨e0, e1, e2, e3, e4, e5⟩, ef⟩ := er_box hhV
        obtain ⟨p0, p1, p2, p3⟩ := box2_cell ((hbV.block _ (lt_of_heap hP1)).trans hP1)
        obtain ⟨L, hL⟩ : ∃ L, ls.getD k [] = L := ⟨_, rfl⟩
        have HC := hid (clone_any (.slice x.lo x.ll x.lc) (ls.getD k []) V.drew ((hPO.lines k x hx).1.below ((hbV).drew)) (by have := hshort k; omega))
        rw [hL] at HC
        have HK := hid (show ∀ w1 : World, Below V.drew.heap.size V.drew w1 → PlO w1 w.heap.size (.slice vo ns.length vc) (.slice (some ⟨g, 0, none⟩) n uc) ns ys ls ∧ w1.heap[w.heap.size]? = some (.cells #[.slice vo ns.length vc, .slice (some ⟨g, 0, none⟩) n uc] 32 (0, 0)) ∧ w1.heap[wP.heap.size]? = some (.cells #[.slice none 0 0, .slice none 0 0] 32 (0, 0)) ∧ Below w.heap.size w w1 ∧ w1.cell? ⟨g, k * 6 + 3, none⟩ = some (.slice x.lo x.ll x.lc) ∧ w1.frozen? ⟨g, k * 6 + 3, none⟩ = false from fun w1 hb1 => by
          have hb2 : Below wr.heap.size wr w1 := (hbV.drew).trans (hb1.mono hbV.size)
          have q := hPO.below hb2
          obtain ⟨_, _, _, d3, _, _⟩ := q.edges.eats hyl k x hx
          rw [Nat.zero_add] at d3
          exact ⟨q, (hb2.block _ (lt_of_heap hP1)).trans hP1, (hb2.block _ (lt_of_heap hR1)).trans hR1, hbr.trans (hb2.mono hbr.size), d3, q.edges.frz hyl _⟩)
        have HX := hid (And.intro hx (And.intro hys (And.intro hyl hL)))
        clear hL hPO hP1 hR1 hbr hhV hbV hx hys
        go_wp2
        go_region_with (go_at_call 39; refine HC.out.mono ?_; rintro e w1 ⟨⟨u, rfl, hu⟩, hb1⟩; obtain ⟨lo, lc, hue⟩ := hu.form; subst hue; obtain ⟨hpo1, hP1, hR1, hb1', q3, q3f⟩ := HK.out _ hb1; clear p0 p1 p2 p3; obtain ⟨p0, p1, p2, p3⟩ := box2_cell hP1; have H1 := hid (And.intro hpo1 (And.intro hP1 (And.intro hR1 (And.intro hb1' hu)))); clear HC HK hu hb1 hpo1 hP1 hR1 hb1')
        all_goals (
          go_wp2
          go_roundw
          case rel =>
            obtain ⟨hpo1, hP1, hR1, hb1, hu⟩ := H1.out
            obtain ⟨hx, hys, hyl, hL⟩ := HX.out
            obtain ⟨hbg, cg, hcg⟩ := own_block hpo1.edges g rfl
            refine ⟨k + 1, ys.set k (withLine x lo L.length lc), by omega, by go_num, bareF_set hys hx _ _ _, ?_, (Below.heap_setCell _ _ _ _ (other_block hcg hP1 (by decide))).trans hP1, (Below.heap_setCell _ _ _ _ (other_block hcg hR1 (by decide))).trans hR1, hb1.setCell hbg _⟩
            exact hpo1.setLine hyl hx (by rw [hL]; exact hu)
          case measure => simp [intOf]; omega)
      · obtain rfl : k = n := by omega
        have hltI : ¬ (k : Int) < (k : Int) := by omega
        obtain ⟨p0, p1, p2, p3⟩ := box2_cell hP1
        obtain ⟨s0, s1, s2, s3⟩ := box2_cell hR1
        have HF := hid (And.intro hPO (And.intro hys (And.intro hbr hR1)))
        clear hPO hys hbr hR1 hP1 HS
        go_wp2
        obtain ⟨hPO, hys, hbr, hR1⟩ := HF.out
        have hle : w.heap.size ≤ wP.heap.size := Nat.le_of_lt HLT.out
        obtain ⟨U, hU⟩ : ∃ U, (wr.setCell ⟨wP.heap.size, 0, none⟩ (.slice vo ns.length vc)).setCell ⟨wP.heap.size, 1, none⟩ (.slice (some ⟨g, 0, none⟩) k uc) = U := ⟨_, rfl⟩
        have hRU : U.heap[wP.heap.size]? = some (.cells #[.slice vo ns.length vc, .slice (some ⟨g, 0, none⟩) k uc] 32 (0, 0)) := by rw [← hU]; exact set1 (set1 hR1 _) _
        have hO2 : ∀ j, j ≠ wP.heap.size → U.heap[j]? = wr.heap[j]? := fun j hj => by rw [← hU]; exact (Below.heap_setCell _ _ _ j hj).trans (Below.heap_setCell _ _ _ j hj)
        have hbU : Below w.heap.size w U := by rw [← hU]; exact (hbr.setCell hle _).setCell hle _
        have hPU : PlO U w.heap.size (.slice vo ns.length vc) (.slice (some ⟨g, 0, none⟩) k uc) ns ys ls := hPO.same fun j c t f hc ht => hO2 j fun e => by
          subst e
          rw [hR1] at hc
          injection hc with hc
          injection hc with _ e2 _
          exact ht e2.symm
        obtain ⟨u0, u1, _, _⟩ := box2_cell hRU
        rw [hU]
        clear hU hRU hO2 hPO hR1 hbr
        (try simp only [Exit.inBlock, Exit.then])
        refine bodyPost_ret (v := plV (.slice vo ns.length vc) (.slice (some ⟨g, 0, none⟩) k uc)) (by simp [results, Tryz.results16, go_sem, u0, u1]) rfl ?_
        first | exact ⟨⟨_, _, rfl, ys, hPU, hys⟩, hbU⟩ | exact ⟨⟨_, _, ys, rfl, hPU, hys⟩, hbU⟩)
end Go.Proofs.YtkdnkmheidbfdaaGreat

namespace Go.Proofs.YtkdnkmheidbfdaaGreat
open Go.RowKit Go.Shelf Go.Sort Go.Maps

set_option maxRecDepth 100000 in
set_option maxHeartbeats 1600000 in
theorem iso1_any (x : ER) {z : Int} {g : Nat} {w : World} (hz : w.cell? ⟨g, 0, none⟩ = some (.int .i64 z)) (h1 : x.st ≠ z) (h2 : x.en ≠ z) :
    Calls Tryz.prog 42 #[erV x, .pointer (some ⟨g, 0, none⟩)] w fun e w' => e = .returned (.bool false) ∧ Below w.heap.size w w' := by
  obtain ⟨wA, hwA⟩ : ∃ wA, w.alloc (erO x) = wA := ⟨_, rfl⟩
  have hbA : Below w.heap.size w wA := by rw [← hwA]; exact (Below.refl _ w).alloc (Nat.le_refl _) _
  obtain ⟨a0, a1, a2, a3, a4, a5⟩ : EAt wA w.heap.size 0 x := by rw [← hwA]; exact ebox w x _
  have b0 := cell_below hz hbA (lt_of_cell hz)
  have HB := hid hbA
  have e1 : (x.st == z) = false := by rw [beq_eq_false_iff_ne]; exact h1
  have e2 : (x.en == z) = false := by rw [beq_eq_false_iff_ne]; exact h2
  clear hbA hz h1 h2
  go_enter Tryz.func42, Tryz.ntmps42
  go_wp2
  go_ret
  exact ⟨rfl, HB.out⟩

set_option maxRecDepth 100000 in
set_option maxHeartbeats 1600000 in
theorem indexIso_any {w : World} {b n cap : Nat} {off : Nat} {ao : Option Addr} {xs : List ER} (hn : xs.length = n) (hl : n ≤ 100000) (h : EAts w b off xs) (hao : 1 ≤ n → ao = some ⟨b, off, none⟩) {z : Int} {g : Nat} (hz : w.cell? ⟨g, 0, none⟩ = some (.int .i64 z)) (hno : ∀ x ∈ xs, x.st ≠ z ∧ x.en ≠ z) :
    Calls Tryz.prog 71 #[.slice ao n cap, .func (.func 42) #[] #[.pointer (some ⟨g, 0, none⟩)]] w fun e w' => e = .returned (.int .i64 (-1)) ∧ Below w.heap.size w w' := by
  have HE := hid (fun (k : Nat) (x : ER) (hx : xs[k]? = some x) W (hW : Below w.heap.size w W) => (h k x hx).below hW (h k x hx).lt)
  have HC0 := hid (fun (k : Nat) (x : ER) (hx : xs[k]? = some x) W (hW : Below w.heap.size w W) => iso1_any x (w := W) (cell_below hz hW (lt_of_cell hz)) (hno x (List.mem_of_getElem? hx)).1 (hno x (List.mem_of_getElem? hx)).2)
  have HAO := hid hao
  clear h hz hno hao
  go_enter Tryz.func71, Tryz.ntmps71
  go_wp2
  go_loopw [5, 8] (fun _ iv wr => ∃ k : Nat, k ≤ n ∧ iv = .int .i64 (k : Int) ∧ Below w.heap.size w wr) (fun _ iv _ => n - (intOf iv).toNat)
  case atStart => exact ⟨0, Nat.zero_le _, rfl, Below.refl _ _⟩
  case round =>
    obtain ⟨k, hk, rfl, hbr⟩ := hrel
    have HBR := hid hbr
    by_cases hlt : k < n
    · have hltI : (k : Int) < (n : Int) := by omega
      obtain ⟨x, hx⟩ : ∃ x, xs[k]? = some x := ⟨xs[k]'(by omega), by rw [List.getElem?_eq_getElem]⟩
      obtain rfl := HAO.out (by omega)
      obtain ⟨a0, a1, a2, a3, a4, a5⟩ := HE.out k x hx wr hbr
      have HC := hid (HC0.out k x hx wr hbr)
      clear hx hbr
      go_wp2_with (go_at_call 42; refine HC.out.mono ?_; rintro e w1 ⟨rfl, hb1⟩; have HB1 := hid (HBR.out.trans (hb1.mono HBR.out.size)); clear hb1 HC)
      go_roundw
      case rel => exact ⟨k + 1, by omega, by go_num, HB1.out⟩
      case measure => simp [intOf]; omega
    · have hltI : ¬ (k : Int) < (n : Int) := by omega
      clear hbr
      go_wp2
      go_ret
      exact ⟨rfl, HBR.out⟩

set_option maxRecDepth 100000 in
set_option maxHeartbeats 1600000 in
theorem isolated_e {w : World} {b off n cap : Nat} {ao : Option Addr} {xs : List ER} {ls : List (List Pp)} (h : PlE w b off n ao xs ls) {nb noff nl nc : Nat} {no : Option Addr} {ns : List NR} (hd : NdE w nb noff nl no ns) {z : Int} {j : Nat} {y : NR} (hj : ns[j]? = some y) (hz : idxE z ns 0 = (j : Int)) (hno : ∀ x ∈ xs, x.st ≠ z ∧ x.en ≠ z) :
    Calls Tryz.prog 17 #[plV (.slice no nl nc) (.slice ao n cap), .int .i64 z] w fun e w' => e = .returned (.bool true) ∧ Below w.heap.size w w' := by
  obtain ⟨wP, hwP⟩ : ∃ wP, w.alloc (.cells #[.slice no nl nc, .slice ao n cap] 32) = wP := ⟨_, rfl⟩
  have hbP : Below w.heap.size w wP := by rw [← hwP]; exact (Below.refl _ w).alloc (Nat.le_refl _) _
  have hhP : wP.heap[w.heap.size]? = some (.cells #[.slice no nl nc, .slice ao n cap] 32 (0, 0)) := by rw [← hwP]; exact World.alloc_heap_new w _
  obtain ⟨wQ, hwQ⟩ : ∃ wQ, wP.alloc (.cells #[.int .i64 z] 3) = wQ := ⟨_, rfl⟩
  have hbQ : Below wP.heap.size wP wQ := by rw [← hwQ]; exact (Below.refl _ wP).alloc (Nat.le_refl _) _
  have hhQ : wQ.heap[wP.heap.size]? = some (.cells #[.int .i64 z] 3 (0, 0)) := by rw [← hwQ]; exact World.alloc_heap_new wP _
  have hhP' := (hbQ.block _ (lt_of_heap hhP)).trans hhP
  have hbw : Below w.heap.size w wQ := hbP.trans (hbQ.mono hbP.size)
  obtain ⟨c0, c1, _, _⟩ := box2_cell hhP'
  have q0 : wQ.cell? ⟨wP.heap.size, 0, none⟩ = some (.int .i64 z) := by simp [World.cell?, hhQ]
  have HN := hid (isNode_found (nc := nc) (hd.below hbw) (.slice ao n cap) hj hz)
  have HI := hid (fun W (hW : Below wQ.heap.size wQ W) => indexIso_any (cap := cap) h.len (by have := h.few; omega) (h.cells.belowAll (hbw.trans (hW.mono hbw.size))) h.at' (cell_below q0 hW (lt_of_cell q0)) hno)
  have HB := hid hbw
  have HC := hid (fun W (hW : Below wQ.heap.size wQ W) => show Calls Tryz.prog 41 #[.slice ao n cap, .func (.func 42) #[] #[.pointer (some ⟨wP.heap.size, 0, none⟩)]] W fun e w' => e = .returned (.bool false) ∧ Below W.heap.size W w' by
    have HII := hid (HI.out W hW)
    clear h hd hbP hhP hbQ hhQ hhP' hbw HI HN HB c0 c1 q0 hno hj hz
    go_enter Tryz.func41, Tryz.ntmps41
    go_wp2_with (go_at_call 71; refine HII.out.mono ?_; rintro e w1 ⟨rfl, hb1⟩; have HB1 := hid hb1; clear hb1 HII)
    go_ret
    exact ⟨rfl, HB1.out⟩)
  clear h hd hbP hhP hbQ hhQ hhP' hbw HI hno hj hz
  go_enter Tryz.func17, Tryz.ntmps17
  go_wp2_with (first
    | (go_at_call 40; refine HN.out.mono ?_; rintro e w1 ⟨rfl, hb1⟩; have d0 := cell_below c0 hb1 (lt_of_cell c0); have d1 := cell_below c1 hb1 (lt_of_cell c1); have H1 := hid hb1; clear HN hb1)
    | (go_at_call 41; refine (HC.out _ H1.out).mono ?_; rintro e w2 ⟨rfl, hb2⟩; have H2 := hid (HB.out.trans ((H1.out.trans (hb2.mono H1.out.size)).mono HB.out.size)); clear hb2 HC))
  go_ret
  exact ⟨rfl, H2.out⟩
end Go.Proofs.YtkdnkmheidbfdaaGreat
