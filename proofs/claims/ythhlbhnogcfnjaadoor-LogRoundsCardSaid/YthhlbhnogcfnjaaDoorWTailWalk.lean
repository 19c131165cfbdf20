/-
  Layer 4: what wal.writeTail gives: the walk.
-/
import Derived.Test.YthhlbhnogcfnjaaDoorWTail
namespace Go.Proofs.YthhlbhnogcfnjaaDoor
open Go.RowKit Go.Shelf

attribute [local go_sem] Oper.semAt_some

theorem push_two (a : Array Obj) (x0 x1 : Obj) : ((a.push x0).push x1)[a.size]? = some x0 ∧ ((a.push x0).push x1)[a.size + 1]? = some x1 := by
  constructor
  · rw [Array.getElem?_push_lt (by simp), Array.getElem_push_eq]
  · rw [show a.size + 1 = (a.push x0).size by simp, Array.getElem?_push_size]

set_option maxRecDepth 100000 in
set_option maxHeartbeats 4000000 in
theorem writeTail_in {w : World} {base L B n at' sc : Nat} {d : Dk} {g : Lg} (h : LogIs w base L B n at' sc d g) (ht : TabOk w) (hg : 0 < base) (htl : g.tail.length ≤ g.stop) (hbl : g.tail.length ≤ 1000000) (hwl : d.wait.length ≤ 900000) (hwr : d.writes ≤ 900000000) {q : Nat} (hq1 : g.tail.length ≤ q * 48) (hq2 : q * 48 < g.tail.length + 48) :
    CallsIn Fence.wide 12 Tryd.prog 29 #[.pointer (some ⟨L, 0, none⟩)] w fun e w' => e = .returned (.int .i64 (tailP at' sc d ((g.stop - g.tail.length) / 48) (cut48 q g.tail)).2) ∧ LogIs w' base L B n at' sc (tailP at' sc d ((g.stop - g.tail.length) / 48) (cut48 q g.tail)).1 g ∧ Kd base w w' := by
  have hfn : ∀ k, Fence.wide.fn k := fun _ => trivial
  have hsc := h.2.2.1
  have hnum := h.2.2.2.1
  have hdn := h.1.2.1
  have hbase : base ≤ w.heap.size := by have := h.lt; have := h.2.1; omega
  obtain ⟨W0, hW0⟩ : ∃ W0, ((w.alloc (.cells #[.pointer (some ⟨L, 0, none⟩)] 26)).alloc (.cells #[.int .i64 0] 23)) = W0 := ⟨_, rfl⟩
  have hsz0 : W0.heap.size = w.heap.size + 2 := by rw [← hW0]; simp
  have hF0 : Below w.heap.size w W0 := by rw [← hW0]; exact ((Below.refl _ w).alloc (Nat.le_refl _) _).alloc (by simp) _
  obtain ⟨ra, rc, ta, tc, hh, _⟩ := (h.below hF0).form
  obtain ⟨c0, c1, c2, c3, c4, c5, c6, c7, c8⟩ := log_cells hh
  obtain ⟨N0, hN0⟩ : ∃ N0, N0 = (g.stop - g.tail.length) / 48 := ⟨_, rfl⟩
  rw [← hN0]
  have H := hid h
  have HT := hid ht
  have HN0 := hid hN0
  have hmx : Tryd.prog.follows .mixedOrders = true := by kernel_rfl
  clear h ht hN0
  refine callsIn_of_wp_marks Tryd.func29 rfl trivial ?_ rfl
  simp only [Tryd.ntmps29, List.size_toArray, List.length_cons, List.length_nil, Nat.reduceAdd, Nat.reduceSub, Array.replicate_succ, Array.replicate_zero, List.push_toArray, List.append_toArray, List.nil_append, List.cons_append]
  refine wpIn_wide.2 ?_
  obtain ⟨T, hT⟩ : ∃ T, T = g.tail.length := ⟨_, rfl⟩
  obtain ⟨G, hG⟩ : ∃ G, G = g.stop := ⟨_, rfl⟩
  have hx0 : W0.heap[w.heap.size]? = some (.cells #[.pointer (some ⟨L, 0, none⟩)] 26 (0, 0)) := by rw [← hW0]; exact (push_two w.heap _ _).1
  have hx1 : W0.heap[w.heap.size + 1]? = some (.cells #[.int .i64 0] 23 (0, 0)) := by rw [← hW0]; exact (push_two w.heap _ _).2
  rw [← hT] at c8 htl hbl hq1 hq2 HN0
  rw [← hG] at c6 htl HN0
  have hG1 : G ≤ 5000000000000000000 := by omega
  have hcw : ∀ wx, Below W0.heap.size W0 wx → wx.cell? ⟨w.heap.size, 0, none⟩ = some (.pointer (some ⟨L, 0, none⟩)) ∧ wx.cell? ⟨L, 6, none⟩ = some (.int .u64 G) ∧ wx.cell? ⟨L, 8, none⟩ = some (.slice ta T tc) := fun wx hb => by
    have dx := cell_of_row W0 w.heap.size 0 _ _ _ hx0
    exact ⟨(hb.cell (p := ⟨w.heap.size, 0, none⟩) (lt_of_cell dx)).trans dx, (hb.cell (p := ⟨L, 6, none⟩) (lt_of_cell c6)).trans c6, (hb.cell (p := ⟨L, 8, none⟩) (lt_of_cell c8)).trans c8⟩
  have HC := hid hcw
  have hu1 : IntKind.u64.wrap (T : Int) = (T : Int) := PlainAid.u64_nonneg (by omega) (by omega)
  have hu2 : IntKind.u64.wrap ((G : Int) - (T : Int)) = ((G - T : Nat) : Int) := by rw [PlainAid.u64_nonneg (by omega) (by omega)]; omega
  have hu3 : ((G - T : Nat) : Int) / 48 = (N0 : Int) := by rw [HN0.out]; omega
  have hu4 : IntKind.u64.wrap (N0 : Int) = (N0 : Int) := PlainAid.u64_nonneg (by omega) (by have := HN0.out; omega)
  have HTG := hid (And.intro hT hG)
  have HX := hid (And.intro hx0 hx1)
  have HF0 := hid (And.intro hF0 hsz0)
  have HH := hid hh
  obtain ⟨d0, d6, d8⟩ := HC.out W0.drew (Below.refl _ W0).drew
  clear hT hG hcw c0 c1 c2 c3 c4 c5 c6 c7 c8 hx0 hx1 hh
  go_upto_region 1 with fail
  clear hF0
  go_cut [3] from 6 to 17 (fun v wx => v = .pointer (some ⟨w.heap.size + 2, 0, none⟩) ∧ Hid (wx.heap[w.heap.size + 2]? = some (.cells #[.int .u64 N0] 29 (0, 0)) ∧ Below W0.heap.size W0 wx ∧ wx.heap.size = w.heap.size + 3))
  case first =>
    refine wp_region_noPanic ?_
    go_region_held (fun w' => w'.cell? ⟨w.heap.size, 0, none⟩ = some (.pointer (some ⟨L, 0, none⟩)) ∧ w'.cell? ⟨L, 6, none⟩ = some (.int .u64 G) ∧ w'.cell? ⟨L, 8, none⟩ = some (.slice ta T tc)) (first
      | exact ⟨d0, d6, d8⟩
      | exact HC.out _ ((Below.refl _ W0).drew.alloc (Nat.le_refl _) _)
      | exact HC.out _ (((Below.refl _ W0).drew.alloc (Nat.le_refl _) _).setCell (Nat.le_refl _) _)) (fail)
    all_goals
      refine NoPanic.normal ?_
      go_wp2
      go_meet
      refine ⟨rfl, ?_, ?_, ?_⟩
      · have := heap_new W0 (.cells #[.int .u64 (N0 : Int)] 29)
        rw [HF0.out.2] at this
        exact this
      · exact ((Below.refl _ W0).alloc (Nat.le_refl _) _).drew
      · simp [HF0.out.2]
  case rest =>
  obtain ⟨rfl, hcc⟩ := hcut
  obtain ⟨hn2, hb2, hsz2⟩ := hcc.out
  obtain ⟨e0, e6, e8⟩ := HC.out wc hb2
  obtain ⟨W1, hW1⟩ : ∃ W1, (wc.alloc (.cells #[.slice ta T tc] 32)).alloc (.cells #[.int .i64 48] 3) = W1 := ⟨_, rfl⟩
  have hsz1 : W1.heap.size = w.heap.size + 5 := by rw [← hW1]; simp [hsz2]
  have hF1 : Below wc.heap.size wc W1 := by rw [← hW1]; exact ((Below.refl _ wc).alloc (Nat.le_refl _) _).alloc (by simp) _
  have hFw : Below w.heap.size w W1 := (HF0.out.1.trans (hb2.mono HF0.out.1.size)).trans (hF1.mono (Nat.le_trans HF0.out.1.size hb2.size))
  have hFc : Below W0.heap.size W0 W1 := hb2.trans (hF1.mono hb2.size)
  have bv : W1.heap[w.heap.size + 3]? = some (.cells #[.slice ta T tc] 32 (0, 0)) := by
    have := (push_two wc.heap (.cells #[.slice ta T tc] 32) (.cells #[.int .i64 48] 3)).1
    rw [hsz2] at this
    rw [← hW1]; exact this
  have bc : W1.heap[w.heap.size + 4]? = some (.cells #[.int .i64 48] 3 (0, 0)) := by
    have := (push_two wc.heap (.cells #[.slice ta T tc] 32) (.cells #[.int .i64 48] 3)).2
    rw [hsz2] at this
    rw [← hW1]; exact this
  have h0 : TlI w base L B n at' sc N0 0 ta T tc d g 0 W1 := ⟨(hFc.block _ (lt_of_heap HX.out.1)).trans HX.out.1, (hFc.block _ (lt_of_heap HX.out.2)).trans HX.out.2, (hF1.block _ (lt_of_heap hn2)).trans hn2, bv, bc, H.out.below hFw, Kd.fresh hFw hbase⟩
  have hck : Calls Tryd.prog 46 #[.slice ta T tc, .int .i64 48] wc fun e w' => e = .returned (.func (.func 57) #[] #[.pointer (some ⟨w.heap.size + 3, 0, none⟩), .pointer (some ⟨w.heap.size + 4, 0, none⟩)]) ∧ w' = W1 := by
    have := callsIn_wide.1 (chunklOf_in 0 ta T tc 48 (by omega) wc)
    rw [hsz2] at this
    rw [← hW1]
    exact this
  have HCK := hid hck
  obtain ⟨P, hP⟩ : ∃ P : Nat → Prop, P = fun k => k = w.heap.size + 1 ∨ k = w.heap.size + 2 ∨ ∃ c t f, w.heap[k]? = some (Obj.cells c t f) ∧ diskT t := ⟨_, rfl⟩
  have hPn : ∀ k, w.heap.size ≤ k → k ≠ w.heap.size + 1 → k ≠ w.heap.size + 2 → ¬ P k := fun k h1 h2 h3 h => by
    rw [hP] at h
    rcases h with h | h | ⟨c, t, f, h, _⟩
    · exact h2 h
    · exact h3 h
    · have := lt_of_heap h; omega
  have hown : W1.ownsRow base 5 1 (.slice ta T tc) T (secV g.tail) := by
    obtain ⟨_, _, _, _, _, rv, tv, hh1, ho1, _⟩ := h0.log
    have e1 : W1.cell? ⟨L, 8, none⟩ = some tv := cell_of_row W1 L 8 _ _ _ hh1
    have e2 := (HC.out W1 (by rw [← hW1]; exact hb2.trans ((((Below.refl _ wc).alloc (Nat.le_refl _) _).alloc (by simp) _).mono hb2.size))).2.2
    rw [e2] at e1
    injection e1 with e1
    rw [← HTG.out.1, ← e1] at ho1
    exact ho1
  obtain ⟨gt, hgt⟩ : ∃ gt, 1 ≤ q → ta = some ⟨gt, 0, none⟩ := by
    rcases hown.2 with ⟨_, h0'⟩ | ⟨gt, cap', cur, e, _⟩
    · exact ⟨0, fun hq => by omega⟩
    · injection e with e1 _ _
      exact ⟨gt, fun _ => e1⟩
  have hcapT : T ≤ tc := by
    rcases hown.2 with ⟨_, h0'⟩ | ⟨gt, cap', cur, e, hx⟩
    · omega
    · injection e with _ _ e3
      subst e3
      exact hx.2.2.1
  have HOWN := hid hown
  clear hcc hn2 hF1 hFw hFc hW1 hb2 hck hown
  go_wp2_with (first | (go_at_call 46; refine HCK.out.mono ?_; rintro e w' ⟨rfl, hw⟩; have hw' := hw.symm; clear hw; subst hw'))
  refine (wpIn_wide (n := 12)).1 (wpIn_rangeFunc_ownG rfl (by decide) (gf := 57) (lb := #[.pointer (some ⟨w.heap.size + 3, 0, none⟩), .pointer (some ⟨w.heap.size + 4, 0, none⟩)]) rfl trivial (enters_of Tryd.func57 (by kernel_rfl) rfl)
    (chunkl_stops (12 - 1) (by decide) (w.heap.size + 3) (w.heap.size + 4) (w.heap.size + 5) P gt 0 tc 48 q T ta W1 h0.bv h0.bc ⟨by omega, hPn _ (by omega) (by omega) (by omega)⟩ ⟨by omega, hPn _ (by omega) (by omega) (by omega)⟩ hgt hq1 hq2 (by omega) (by omega) hcapT hbl) (fun h k => Kc.trans h k) (fun W l o o' _ hl hc _ => Kc.putObj _ _ W l o o' hl hc) (Below.refl _ _) (fun _ => rfl)
    (fun pre W => ∃ dk, TlI w base L B n at' sc N0 pre.length ta T tc dk g 0 W ∧ tailP at' sc d N0 (pre.map (pieceL g.tail)) = (dk, 0))
    (fun c pre W => c = .ret ∧ ∃ r dk, TlI w base L B n at' sc N0 r ta T tc dk g 50 W ∧ tailP at' sc d N0 (pre.map (pieceL g.tail)) = (dk, 50))
    ?hI ?hIx ?h0 ?a1 ?assign ?body ?done ?stop)
  case hI =>
    rintro s A B' row ⟨dk, hs, he⟩ hg' hrow
    exact ⟨dk, hs.turn hbase hg' (fun r e => ⟨by have := (hrow r e).1; omega, (hrow r e).2⟩), he⟩
  case hIx =>
    rintro c s A B' row ⟨hc, r, dk, hs, he⟩ hg' hrow
    exact ⟨hc, r, dk, hs.turn hbase hg' (fun r e => ⟨by have := (hrow r e).1; omega, (hrow r e).2⟩), he⟩
  case h0 => exact ⟨d, h0, rfl⟩
  case assign =>
    intro l x W K hK
    gi_wp2
    exact hK
  case body =>
    rintro l pre x W ⟨dk, hst, he⟩ hlt
    have hd1 : 1 ≤ 12 - 1 - 1 := by decide
    have hxq := x.2
    obtain rfl := hgt (by omega)
    have hwt := tailP_wait at' sc (pre.map (pieceL g.tail)) d N0
    rw [he, List.length_map] at hwt
    dsimp only at hwt
    obtain ⟨dk2, E, hE, hsn, hwrite⟩ := piece_write (w := w) (base := base) (L := L) (B := B) (n := n) (at' := at') (sc := sc) (no := N0) (ao := some ⟨gt, 0, none⟩) (Ln := T) (cap := tc) (d := d) (dk := dk) (g := g) (pre := pre) (x := x) (zs := g.tail) he ⟨hsc.1, hsc.2.2⟩ (by omega) (by omega)
    obtain ⟨NO, hNO⟩ : ∃ NO, NO = N0 + pre.length := ⟨_, rfl⟩
    have hNOb : NO ≤ 200000000000000000 := by have := HN0.out; omega
    have hwL : w.heap[L]? = some (.cells #[.pointer (some ⟨B, 0, none⟩), .int .i64 at', .int .i64 sc, .int .u64 g.first, .slice ra g.recs.length rc, .int .u64 g.start, .int .u64 g.stop, .int .u64 g.flushed, .slice (some ⟨gt, 0, none⟩) T tc] 50 (0, 0)) := by
      have h1 := HH.out
      rw [← HTG.out.1] at h1
      obtain ⟨_, _, _, _, hhw, _⟩ := H.out.form
      rw [← HF0.out.1.block L (lt_of_heap hhw)]
      exact h1
    have hcells : ∀ dk' e' Wx, TlI w base L B n at' sc N0 pre.length (some ⟨gt, 0, none⟩) T tc dk' g e' Wx → Wx.cell? ⟨w.heap.size, 0, none⟩ = some (.pointer (some ⟨L, 0, none⟩)) ∧ Wx.cell? ⟨L, 0, none⟩ = some (.pointer (some ⟨B, 0, none⟩)) ∧ Wx.cell? ⟨w.heap.size + 2, 0, none⟩ = some (.int .u64 (NO : Int)) := fun dk' e' Wx hx => by
      have e1 := cell_of_row Wx w.heap.size 0 _ _ _ hx.bl
      have e2 := cell_of_row Wx (w.heap.size + 2) 0 _ _ _ hx.bn
      obtain ⟨_, _, _, _, hh1, _⟩ := hx.log.form
      rw [hNO]
      exact ⟨e1, (log_cells hh1).1, e2⟩
    have hby := H.out.2.2.2.2.1
    have hsecs : ∀ Wx, TlI w base L B n at' sc N0 pre.length (some ⟨gt, 0, none⟩) T tc dk g 0 Wx → Calls Tryd.prog 39 #[.int .u64 (NO : Int), .slice (some ⟨gt, x.1 * 48, none⟩) (x.size 48 T) (x.size 48 T)] Wx fun e W2 => ∃ a2 c2, e = .returned (.slice a2 64 c2) ∧ Hid (TlI w base L B n at' sc N0 pre.length (some ⟨gt, 0, none⟩) T tc dk g 0 W2) ∧
        Hid (Calls Tryd.prog 25 #[.pointer (some ⟨B, 0, none⟩), .int .i64 ((at' + 1 + NO % (sc - 1) : Nat) : Int), .slice a2 64 c2] W2 fun e W3 => e = .returned (.int .i64 E) ∧ TlI w base L B n at' sc N0 pre.length (some ⟨gt, 0, none⟩) T tc dk2 g 0 W3 ∧ Kd base W2 W3) ∧ Hid (Kd base Wx W2) := fun Wx hx => by
      have hb := piece_bs (hx.own HTG.out.1 hwL) HTG.out.1 hby x
      have hpl : (pieceL g.tail x).length ≤ 48 := by simp only [pieceL, List.length_take]; omega
      refine (sectorOf_any hb (HT.out.base hx.kd.below hg) hpl NO (by omega)).mono ?_
      rintro e W2 ⟨v2, rfl, hown2, hby2, hl2, hb2⟩
      obtain ⟨a2, c2, rfl⟩ := slice_form (by rw [← hl2] at hown2; exact hown2)
      rw [hl2]
      have h2 := hx.fresh hbase hb2
      refine ⟨a2, c2, rfl, h2, ?_, Kd.fresh hb2 (Nat.le_trans hbase hx.kd.size)⟩
      have hbs := bs_of_own hown2 hby2 (by omega)
      have hsec : Sec (secL NO (pieceL g.tail x)) := ⟨hl2, hby2⟩
      rw [hNO] at hbs hsec ⊢
      refine hwrite W2 a2 c2 h2 ?_ hsec
      rcases hbs.2.2 with ⟨_, _, _, h0', _⟩ | hr
      · rw [hNO] at hl2; rw [h0'] at hl2; simp at hl2
      · have hl3 : (secL (N0 + pre.length) (pieceL g.tail x)).length = 64 := by rw [← hNO]; exact hl2
        obtain ⟨b, off, cap, e, h1, h3⟩ := hr
        refine ⟨b, off, cap, ?_, h1, h3⟩
        rw [hl3] at e ⊢
        exact e
    have S0 := hid (hcells _ _ W.drew (hst.drew hbase))
    have HPL := hid (lplace_any (hst.drew hbase).log NO (by omega))
    have HD0 := hid (hst.drew hbase)
    have HCE := hid hcells
    have HSE := hid hsecs
    have HST := hid hst
    have HNO := hid hNO
    have HSN := hid hsn
    have hEb : E = 0 ∨ E = 50 := hE
    obtain ⟨PL, hPL⟩ : ∃ PL, PL = at' + 1 + NO % (sc - 1) := ⟨_, rfl⟩
    rw [← hPL] at HPL HSE
    clear hcells hst hNO hwrite hsn he hwt hsecs hwL hE hPL
    gi_wp2
    refine wpIn_region_calls (S := fun W' => W'.cell? ⟨w.heap.size, 0, none⟩ = some (.pointer (some ⟨L, 0, none⟩)) ∧ W'.cell? ⟨L, 0, none⟩ = some (.pointer (some ⟨B, 0, none⟩)) ∧ W'.cell? ⟨w.heap.size + 2, 0, none⟩ = some (.int .u64 (NO : Int))) hmx (by kernel_rfl) S0.out (fun hHeld => ?_)
    refine wpAnyH_take (i := 0) (v := .pointer (some ⟨L, 0, none⟩)) rfl (by kernel_rfl) (by kernel_rfl) (by kernel_rfl) (fun _ _ _ h => h) (Or.inl ⟨by rfl, fun wx hS => by obtain ⟨q1, q2, q3⟩ := hS; go_simp⟩) (by assumption) ?_
    simp only [List.getElem_toArray, List.getElem_cons_zero, Act.put, List.setIfInBounds_toArray, List.set_cons_zero, List.set_cons_succ]
    refine wpAnyH_take (i := 1) (v := .pointer (some ⟨L, 0, none⟩)) rfl (by kernel_rfl) (by kernel_rfl) (by kernel_rfl) (fun _ _ _ h => h) (Or.inl ⟨by rfl, fun wx hS => by obtain ⟨q1, q2, q3⟩ := hS; go_simp⟩) (by assumption) ?_
    simp only [List.getElem_toArray, List.getElem_cons_succ, List.getElem_cons_zero, Act.put, List.setIfInBounds_toArray, List.set_cons_zero, List.set_cons_succ]
    refine wpAnyH_take (i := 2) (v := .pointer (some ⟨L, 0, none⟩)) rfl (by kernel_rfl) (by kernel_rfl) (by kernel_rfl) (fun _ _ _ h => h) (Or.inl ⟨by rfl, fun wx hS => by obtain ⟨q1, q2, q3⟩ := hS; go_simp⟩) (by assumption) ?_
    simp only [List.getElem_toArray, List.getElem_cons_succ, List.getElem_cons_zero, Act.put, List.setIfInBounds_toArray, List.set_cons_zero, List.set_cons_succ]
    refine wpAnyH_take (i := 3) (v := .pointer (some ⟨B, 0, none⟩)) rfl (by kernel_rfl) (by kernel_rfl) (by kernel_rfl) (fun _ _ _ h => h) (Or.inl ⟨by rfl, fun wx hS => by obtain ⟨q1, q2, q3⟩ := hS; go_simp⟩) (by assumption) ?_
    simp only [List.getElem_toArray, List.getElem_cons_succ, List.getElem_cons_zero, Act.put, List.setIfInBounds_toArray, List.set_cons_zero, List.set_cons_succ]
    refine wpAnyH_take (i := 4) (v := .pointer (some ⟨L, 0, none⟩)) rfl (by kernel_rfl) (by kernel_rfl) (by kernel_rfl) (fun _ _ _ h => h) (Or.inl ⟨by rfl, fun wx hS => by obtain ⟨q1, q2, q3⟩ := hS; go_simp⟩) (by assumption) ?_
    simp only [List.getElem_toArray, List.getElem_cons_succ, List.getElem_cons_zero, Act.put, List.setIfInBounds_toArray, List.set_cons_zero, List.set_cons_succ]
    refine wpAnyH_take (i := 5) (v := .int .u64 (NO : Int)) rfl (by kernel_rfl) (by kernel_rfl) (by kernel_rfl) (fun _ _ _ h => h) (Or.inl ⟨by rfl, fun wx hS => by obtain ⟨q1, q2, q3⟩ := hS; go_simp⟩) (by assumption) ?_
    simp only [List.getElem_toArray, List.getElem_cons_succ, List.getElem_cons_zero, Act.put, List.setIfInBounds_toArray, List.set_cons_zero, List.set_cons_succ]
    refine wpAnyH_take (i := 7) (v := .int .u64 (NO : Int)) rfl (by kernel_rfl) (by kernel_rfl) (by kernel_rfl) (fun _ _ _ h => h) (Or.inl ⟨by rfl, fun wx hS => by obtain ⟨q1, q2, q3⟩ := hS; go_simp⟩) (by assumption) ?_
    simp only [List.getElem_toArray, List.getElem_cons_succ, List.getElem_cons_zero, Act.put, List.setIfInBounds_toArray, List.set_cons_zero, List.set_cons_succ]
    refine wpAnyH_take (i := 8) (v := .slice (some ⟨gt, x.1 * 48, none⟩) (x.size 48 T) (x.size 48 T)) rfl (by kernel_rfl) (by kernel_rfl) (by kernel_rfl) (fun _ _ _ h => h) (Or.inl ⟨by rfl, fun wx hS => by obtain ⟨q1, q2, q3⟩ := hS; go_simp⟩) (by assumption) ?_
    simp only [List.getElem_toArray, List.getElem_cons_succ, List.getElem_cons_zero, Act.put, List.setIfInBounds_toArray, List.set_cons_zero, List.set_cons_succ]
    refine wpAnyH_ready (rs := [6]) (by kernel_rfl) (by simp) ?_
    refine AllReadyH.cons rfl (fun K hK => ?_) AllReadyH.nil
    go_simp
    refine HPL.out.mono ?_
    rintro e w1 ⟨rfl, qd, hw1⟩
    have HT1 : Hid (TlI w base L B n at' sc N0 pre.length (some ⟨gt, 0, none⟩) T tc dk g 0 w1) := by rw [hw1]; exact HD0.out.fresh hbase (below_drewN (Below.refl _ _) qd)
    have HK1 : Hid (Kd base W w1) := by rw [hw1]; exact Kd.fresh (below_drewN (Below.refl _ W).drew qd) (Nat.le_trans hbase HST.out.kd.size)
    clear hw1
    refine hK.out _ _ (HCE.out _ _ w1 HT1.out) (fun hHeld1 => ?_)
    clear hK K
    refine wpAnyH_ready (rs := [9]) (by kernel_rfl) (by simp) ?_
    refine AllReadyH.cons rfl (fun K hK => ?_) AllReadyH.nil
    go_simp
    refine (HSE.out w1 HT1.out).mono ?_
    rintro e w2 ⟨a2, c2, rfl, HT2, HW2, HK2⟩
    refine hK.out _ _ (HCE.out _ _ w2 HT2.out) (fun hHeld2 => ?_)
    clear hK K
    refine wpAnyH_ready (rs := [10]) (by kernel_rfl) (by simp) ?_
    refine AllReadyH.cons rfl (fun K hK => ?_) AllReadyH.nil
    go_simp
    refine HW2.out.mono ?_
    rintro e w3 ⟨rfl, hT3, hK3⟩
    have HT3 := hid hT3
    have HK3 := hid ((HK1.out.trans HK2.out).trans hK3)
    have HKD : Hid (Kd base W w3) := HK3
    refine hK.out _ _ (HCE.out _ _ w3 HT3.out) (fun hHeld3 => ?_)
    clear hK K hT3 hK3
    have HKO := hid (keeps_kd HKD.out)
    rcases hEb with rfl | rfl
    · have cn := cell_of_row w3 (w.heap.size + 2) 0 _ _ _ HT3.out.bn
      have fn3 := frozen_of_row w3 (w.heap.size + 2) 0 _ _ HT3.out.bn
      simp only [List.getElem?_toArray, List.getElem?_cons_zero] at cn
      rw [← HNO.out] at cn
      have hwn : IntKind.u64.wrap ((NO : Int) + 1) = (NO : Int) + 1 := PlainAid.u64_nonneg (by omega) (by omega)
      refine wpAnyH_take (i := 11) (v := .int .i64 0) rfl (by kernel_rfl) (by kernel_rfl) (by kernel_rfl) (fun _ _ _ h => h) (Or.inl ⟨by rfl, fun wx hS => by go_simp⟩) (by assumption) ?_
      simp only [List.getElem_toArray, List.getElem_cons_succ, List.getElem_cons_zero, Act.put, List.setIfInBounds_toArray, List.set_cons_zero, List.set_cons_succ]
      refine wpAnyH_done (by kernel_rfl) ?_ _
      dsimp only [Np]
      gi_wp2
      have hfin := HT3.out.setNo hbase (pre ++ [x]).length
      have hcast : ((N0 + (pre ++ [x]).length : Nat) : Int) = (NO : Int) + 1 := by rw [HNO.out]; simp; omega
      rw [hcast] at hfin
      have hkc : Kc (w.heap.size + 5) P W w3 := kc_of_kd HST.out.kd HKD.out (fun k c t f h1 h2 => by rw [hP]; exact .inr (.inr ⟨c, t, f, h1, h2⟩)) (fun k h1 h2 h3 => by
        rcases (show k = w.heap.size ∨ k = w.heap.size + 1 ∨ k = w.heap.size + 2 ∨ k = w.heap.size + 3 ∨ k = w.heap.size + 4 by omega) with rfl | rfl | rfl | rfl | rfl
        · exact ⟨_, _, _, HST.out.bl, nd_plog⟩
        · exact ⟨_, _, _, HST.out.br, nd_err⟩
        · exact ⟨_, _, _, HST.out.bn, nd_u64⟩
        · exact ⟨_, _, _, HST.out.bv, nd_bytes⟩
        · exact ⟨_, _, _, HST.out.bc, nd_int⟩)
      have hPi : P (w.heap.size + 2) := by rw [hP]; exact .inr (.inl rfl)
      exact ⟨(HKO.out.trans (KeepsOthers.setCell w3 _ _)).from _, hkc.trans (Kc.row (grown_setCell w3 _ 0 _) (.inl hPi)), _, hfin, HSN.out⟩
    · have cr := cell_of_row w3 (w.heap.size + 1) 0 _ _ _ HT3.out.br
      have fr := frozen_of_row w3 (w.heap.size + 1) 0 _ _ HT3.out.br
      simp only [List.getElem?_toArray, List.getElem?_cons_zero] at cr
      refine wpAnyH_take (i := 11) (v := .int .i64 50) rfl (by kernel_rfl) (by kernel_rfl) (by kernel_rfl) (fun _ _ _ h => h) (Or.inl ⟨by rfl, fun wx hS => by go_simp⟩) (by assumption) ?_
      simp only [List.getElem_toArray, List.getElem_cons_succ, List.getElem_cons_zero, Act.put, List.setIfInBounds_toArray, List.set_cons_zero, List.set_cons_succ]
      refine wpAnyH_done (by kernel_rfl) ?_ _
      dsimp only [Np]
      gi_wp2
      exact ⟨(HKO.out.trans (KeepsOthers.setCell w3 _ _)).from _, rfl, _, _, HT3.out.setErr hbase 50, HSN.out⟩
  case done =>
    rintro D ys W hD hS ⟨dk, hst, he⟩ hK
    rw [piecesL_all q g.tail ys hS] at he
    have cr := cell_of_row W (w.heap.size + 1) 0 _ _ _ hst.br
    have fr := frozen_of_row W (w.heap.size + 1) 0 _ _ hst.br
    simp only [List.getElem?_toArray, List.getElem?_cons_zero] at cr
    have HST := hid hst
    have HE := hid he
    clear hst he hS
    go_wp2
    have hfin := HST.out.setErr hbase 0
    have hK' := (KeepsOthers.setCell W ⟨w.heap.size + 1, 0, none⟩ (.int .i64 0)).same D _ hK rfl
    have hrow : ∀ r, some D = some r → ∃ o : Obj, (W.setCell ⟨w.heap.size + 1, 0, none⟩ (.int .i64 0)).heap[r]? = some o ∧ o.isCells = false := fun r e => by cases e; exact ⟨_, hK', rfl⟩
    refine ⟨by simp, .inl ⟨_, _, rfl, run_takeDeferred hK', ?_⟩⟩
    have hb5 := cell_kept (o := 0) hfin.br (grownBy_putObj' _ D (.deferred none)) hrow
    simp only [List.getElem?_toArray, List.getElem?_cons_zero] at hb5
    have hend := hfin.turn hbase (grownBy_putObj' _ D (.deferred none)) (fun r e => ⟨by cases e; omega, hrow r e⟩)
    rw [HE.out]
    refine ⟨.int .i64 0, ?_, rfl, hend.log, hend.kd⟩
    simp [results, Tryd.f29, go_sem, hb5]
  case stop =>
    rintro D c pre W hD hSp ⟨rfl, r, dk, hst, he⟩ hK
    obtain ⟨t, ht⟩ := piecesL_some q g.tail pre hSp (lenL_le hSp)
    have hfull : tailP at' sc d N0 (cut48 q g.tail) = (dk, 50) := by rw [ht, tailP_stop _ _ _ _ _ _ (by rw [he]), he]
    have HE := hid hfull
    have HST := hid hst
    clear hst he hSp hfull ht
    gi_wp2
    have hrow : ∀ r, some D = some r → ∃ o : Obj, W.heap[r]? = some o ∧ o.isCells = false := fun r e => by cases e; exact ⟨_, hK, rfl⟩
    refine ⟨by simp, .inl ⟨_, _, rfl, run_takeDeferred hK, ?_⟩⟩
    have hb5 := cell_kept (o := 0) HST.out.br (grownBy_putObj' _ D (.deferred none)) hrow
    simp only [List.getElem?_toArray, List.getElem?_cons_zero] at hb5
    have hend := HST.out.turn hbase (grownBy_putObj' _ D (.deferred none)) (fun r e => ⟨by cases e; omega, hrow r e⟩)
    rw [HE.out]
    refine ⟨.int .i64 50, ?_, rfl, hend.log, hend.kd⟩
    simp [results, Tryd.f29, go_sem, hb5]
theorem writeTail_any {w : World} {base L B n at' sc : Nat} {d : Dk} {g : Lg} (h : LogIs w base L B n at' sc d g) (ht : TabOk w) (hg : 0 < base) (htl : g.tail.length ≤ g.stop) (hbl : g.tail.length ≤ 1000000) (hwl : d.wait.length ≤ 900000) (hwr : d.writes ≤ 900000000) {q : Nat} (hq1 : g.tail.length ≤ q * 48) (hq2 : q * 48 < g.tail.length + 48) :
    Calls Tryd.prog 29 #[.pointer (some ⟨L, 0, none⟩)] w fun e w' => e = .returned (.int .i64 (tailP at' sc d ((g.stop - g.tail.length) / 48) (cut48 q g.tail)).2) ∧ LogIs w' base L B n at' sc (tailP at' sc d ((g.stop - g.tail.length) / 48) (cut48 q g.tail)).1 g ∧ Kd base w w' := callsIn_wide.1 (writeTail_in h ht hg htl hbl hwl hwr hq1 hq2)
end Go.Proofs.YthhlbhnogcfnjaaDoor
