/-
  Layer 4: what wal.Cut gives on a disk that does not die.
-/
import Derived.Test.YthhlbhnogcfnjaaDoorWCutA
import Derived.Test.YthhlbhnogcfnjaaDoorWFlush
import Derived.Test.YthhlbhnogcfnjaaDoorWTold
import Derived.Test.YthhlbhnogcfnjaaDoorME
import Derived.Test.YthhlbhnogcfnjaaDoorWAll
import Derived.Deep.RegionHeld3
namespace Go.Proofs.YthhlbhnogcfnjaaDoor
open Go.RowKit Go.Shelf

attribute [local go_sem] Oper.semAt_some

/-- The Log behind a Cut. -/
def Lg.cut (g : Lg) (lsn : Nat) : Lg := { g.flush with first := lsn, recs := g.recs.drop (lsn - g.first), start := g.start + bulkOf (g.recs.take (lsn - g.first)) }
/-- The disk behind it. -/
def cutD (at' sc q : Nat) (d : Dk) (g : Lg) (lsn : Nat) : Dk := (((flushD at' sc q d g).flush).write at' (headL lsn (g.start + bulkOf (g.recs.take (lsn - g.first))))).flush

theorem flushD_left {at' sc q : Nat} {d : Dk} {g : Lg} (h : d.left = -1) : (flushD at' sc q d g).left = -1 := by
  unfold flushD
  split
  · exact (tailP_live at' sc _ d _ h).2
  · exact h
theorem flushD_writes (at' sc q : Nat) (d : Dk) (g : Lg) : (flushD at' sc q d g).writes ≤ d.writes + q := by
  unfold flushD
  split
  · have := (tailP_wait at' sc (cut48 q g.tail) d ((g.stop - g.tail.length) / 48)).2
    rw [cut48_len] at this
    exact this
  · omega

theorem bulk_take {rs : List (List Int)} {k : Nat} {r : List Int} (h : rs[k]? = some r) : bulkOf (rs.take (k + 1)) = bulkOf (rs.take k) + (r.length + 16) := by
  rw [List.take_add_one, h]
  simp [bulk_app, bulk_cons, bulk_nil]
theorem bulk_le (rs : List (List Int)) (k : Nat) : bulkOf (rs.take k) ≤ bulkOf rs := by
  have h := bulk_app (rs.take k) (rs.drop k)
  rw [List.take_append_drop] at h
  omega

/-- A fact that no simplifier sees through. -/
structure Bx (p : Prop) : Prop where
  out : p

/-- A range that is always left: what is behind it, by itself. -/
theorem wp_leaves {P : Program} {c : Code} {Q : Exit → Act → World → Prop} {a : Act} {w : World} (C : Nat → World → Prop) (h1 : c.wp P (fun e a' V => e = .exit 0 ∧ ∃ D, a' = { a with defers := { target := .collected D, args := #[] } :: a.defers } ∧ C D V) a w)
    (h2 : ∀ D V, C D V → Q (.exit 0) { a with defers := { target := .collected D, args := #[] } :: a.defers } V) : c.wp P Q a w :=
  Code.wp_mono (fun e a' V ⟨he, D, ha, hC⟩ => by rw [he, ha]; exact h2 D V hC) h1

/-- The ways through a piece of code meet. -/
theorem wp_meet {P : Program} {c : Code} {Q : Exit → Act → World → Prop} {a : Act} {w : World} (C : World → Prop) (A : Nat → Nat → Act) (h1 : c.wp P (fun e a' V => e = .normal ∧ (∃ i j, a' = A i j) ∧ C V) a w) (h2 : ∀ i j V, C V → Q .normal (A i j) V) : c.wp P Q a w :=
  Code.wp_mono (fun e a' V ⟨he, ⟨i, j, ha⟩, hC⟩ => by rw [he, ha]; exact h2 i j V hC) h1

/-- Between two rounds of Cut's range: the box of 'from'. -/
structure CtI (w : World) (Bo start : Nat) (rs : List (List Int)) (lim k : Nat) (W : World) : Prop where
  lim : k ≤ lim
  box : W.heap[Bo]? = some (.cells #[.int .u64 ((start + bulkOf (rs.take k) : Nat) : Int)] 29 (0, 0))
  below : Below w.heap.size w W
def cutT (Bo : Nat) (k : Nat) (t : TypeId) : Prop := k = Bo ∧ t = 29
theorem CtI.turn {w W W' : World} {Bo start lim k : Nat} {rs : List (List Int)} {row : Option Nat} (h : CtI w Bo start rs lim k W) (hg : W.grownBy W' row) (hr : ∀ r, row = some r → w.heap.size ≤ r ∧ ∃ o : Obj, W.heap[r]? = some o ∧ o.isCells = false) : CtI w Bo start rs lim k W' :=
  ⟨h.lim, (turn_cells hg (fun r e => (hr r e).2) Bo _ _ _ h.box).trans h.box, h.below.grown hg h.below.size (fun r e => (hr r e).1)⟩

theorem CtI.step {w V : World} {Bo start lim k : Nat} {rs : List (List Int)} (h : CtI w Bo start rs lim k V) (hBo : w.heap.size ≤ Bo) (hk : k < lim) {r : List Int} (hr : rs[k]? = some r) :
    V.drew.cell? ⟨Bo, 0, none⟩ = some (.int .u64 ((start + bulkOf (rs.take k) : Nat) : Int)) ∧ V.drew.frozen? ⟨Bo, 0, none⟩ = false ∧
    CtI w Bo start rs lim (k + 1) (V.drew.setCell ⟨Bo, 0, none⟩ (.int .u64 ((start + bulkOf (rs.take k) + (r.length + 16) : Nat) : Int))) ∧ Kt (cutT Bo) V (V.drew.setCell ⟨Bo, 0, none⟩ (.int .u64 ((start + bulkOf (rs.take k) + (r.length + 16) : Nat) : Int))) ∧ KeepsOthers V (V.drew.setCell ⟨Bo, 0, none⟩ (.int .u64 ((start + bulkOf (rs.take k) + (r.length + 16) : Nat) : Int))) := by
  have hb : V.drew.heap[Bo]? = some (.cells #[.int .u64 ((start + bulkOf (rs.take k) : Nat) : Int)] 29 (0, 0)) := h.box
  have hg := grown_setCell V.drew Bo 0 (.int .u64 ((start + bulkOf (rs.take k) + (r.length + 16) : Nat) : Int))
  refine ⟨by simpa using cell_of_row V.drew _ 0 _ _ _ hb, frozen_of_row V.drew _ 0 _ _ hb, ⟨hk, ?_, h.below.drew.setCell (p := ⟨Bo, 0, none⟩) hBo _⟩, ⟨hg.size, fun i c t f hp hi => ?_⟩, ⟨hg.size, fun i o hi ho => ?_⟩⟩
  · have e : start + bulkOf (rs.take (k + 1)) = start + bulkOf (rs.take k) + (r.length + 16) := by rw [bulk_take hr, Nat.add_assoc]
    rw [e]
    exact box_set hb
  · refine hg.block i (lt_of_heap hi) fun e => ?_
    injection e with e
    subst e
    rw [h.box] at hi
    injection hi with e
    injection e with _ e _
    exact hp ⟨rfl, e.symm⟩
  · refine (hg.block i (lt_of_heap hi) fun e => ?_).trans hi
    injection e with e
    subst e
    rw [h.box] at hi
    injection hi with e
    subst e
    cases ho

set_option maxRecDepth 100000 in
set_option maxHeartbeats 1600000 in
theorem cut_in {w : World} {base L B n at' sc : Nat} {d : Dk} {g : Lg} (h : LogIs w base L B n at' sc d g) (ht : TabOk w) (hg : 0 < base) (hl : d.left = -1) (hone : 1 ≤ g.first) (htl : g.tail.length ≤ g.stop) (hbl : g.tail.length ≤ 1000000) (hwl : d.wait.length ≤ 800000) (hwr : d.writes ≤ 800000000) {q : Nat} (hq1 : g.tail.length ≤ q * 48) (hq2 : q * 48 < g.tail.length + 48)
    (hsum : g.start + bulkOf g.recs ≤ 4000000000000000000) {lsn : Nat} (h1 : g.first < lsn) (h2 : lsn < g.first + g.recs.length) :
    CallsIn Fence.wide 12 Tryd.prog 8 #[.pointer (some ⟨L, 0, none⟩), .int .u64 lsn] w fun e w' => e = .returned (.int .i64 0) ∧ LogIs w' base L B n at' sc (cutD at' sc q d g lsn) (g.cut lsn) ∧ Kl base w w' := by
  have hfn : ∀ k, Fence.wide.fn k := fun _ => trivial
  have hmx : Tryd.prog.follows .mixedOrders = true := by kernel_rfl
  have hnum := h.2.2.2.1
  have hsc := h.2.2.1
  have hbase : base ≤ w.heap.size := by have := h.lt; have := h.2.1; omega
  obtain ⟨wA, hwA⟩ : ∃ wA, w.alloc (.cells #[.int .u64 (lsn : Int)] 29) = wA := ⟨_, rfl⟩
  have hbA : Below w.heap.size w wA := by rw [← hwA]; exact (Below.refl _ w).alloc (Nat.le_refl _) _
  have hsA : wA.heap.size = w.heap.size + 1 := by rw [← hwA]; simp
  have xA : wA.heap[w.heap.size]? = some (.cells #[.int .u64 (lsn : Int)] 29 (0, 0)) := by rw [← hwA]; exact heap_new w _
  have hlA := h.below hbA
  have c0 : wA.drew.cell? ⟨w.heap.size, 0, none⟩ = some (.int .u64 (lsn : Int)) := by simpa using cell_of_row wA _ 0 _ _ _ xA
  obtain ⟨NX, hNX⟩ : ∃ NX, g.first + g.recs.length = NX := ⟨_, rfl⟩
  have HNX := hid (lnext_any (hlA.below (Below.refl _ wA).drew))
  rw [hNX] at HNX
  obtain ⟨d1, hd1⟩ : ∃ d1, (flushD at' sc q d g).flush = d1 := ⟨_, rfl⟩
  -- what Flush leaves
  have hfl : ∀ wx, Below wA.heap.size wA wx → Calls Tryd.prog 10 #[.pointer (some ⟨L, 0, none⟩)] wx fun e w' => e = .returned (.int .i64 0) ∧ Hid (LogIs w' base L B n at' sc d1 g.flush ∧ Kl base w w') ∧ Hid (w'.heap[w.heap.size]? = some (.cells #[.int .u64 (lsn : Int)] 29 (0, 0))) ∧ w'.cell? ⟨w.heap.size, 0, none⟩ = some (.int .u64 (lsn : Int)) ∧ w'.cell? ⟨L, 3, none⟩ = some (.int .u64 (g.first : Int)) ∧ w'.cell? ⟨L, 5, none⟩ = some (.int .u64 (g.start : Int)) := fun wx hbx => by
    have hbx' : Below w.heap.size w wx := hbA.trans (hbx.mono hbA.size)
    refine (lflush_any (hlA.below hbx) (ht.below hbx' (Nat.le_refl _)) hg hl hone htl hbl (by omega) (by omega) hq1 hq2).mono ?_
    rintro e w' ⟨rfl, hl', hk'⟩
    rw [hd1] at hl'
    obtain ⟨_, _, _, _, hh1, _⟩ := hl'.form
    have hx := (hk'.keep _ _ _ _ ((hbx.block _ (by omega)).trans xA) nlT_u64).trans ((hbx.block _ (by omega)).trans xA)
    exact ⟨rfl, ⟨hl', (Kl.fresh hbx' hbase).trans hk'⟩, hx, by simpa using cell_of_row w' _ 0 _ _ _ hx, (log_cells hh1).2.2.2.1, (log_cells hh1).2.2.2.2.2.1⟩
  have HFL := hid hfl
  have hNXI : ¬ ((NX : Int) < (lsn : Int)) := by omega
  have hNXd : decide ((NX : Int) < (lsn : Int)) = false := by simpa using hNXI
  have hfI : ¬ ((lsn : Int) ≤ (g.first : Int)) := by omega
  have hfd : decide ((lsn : Int) ≤ (g.first : Int)) = false := by simpa using hfI
  have HXA := hid xA
  have HLA := hid hlA
  have HBA := hid hbA
  refine callsIn_of_wp_marks Tryd.func8 rfl trivial ?_ rfl
  simp only [Tryd.ntmps8, List.size_toArray, List.length_cons, List.length_nil, Nat.reduceAdd, Nat.reduceSub, Array.replicate_succ, Array.replicate_zero, List.push_toArray, List.append_toArray, List.nil_append, List.cons_append]
  clear hfl hlA hbA xA
  refine wpIn_wide.2 ?_
  go_upto_region 1 with fail
  go_region_held3 (fun w' => w'.cell? ⟨w.heap.size, 0, none⟩ = some (.int .u64 (lsn : Int))) (first | exact c0 | exact HC1.out) (first
    | (go_at_call 13; refine HNX.out.mono ?_; rintro e w1 ⟨rfl, hq⟩; have HB1 : Hid (Below wA.heap.size wA w1) := (by obtain ⟨qd, rfl⟩ := hq; exact below_drewN (Below.refl _ wA).drew qd); have HC1 := hid (show w1.cell? ⟨w.heap.size, 0, none⟩ = some (.int .u64 (lsn : Int)) from (HB1.out.cell (p := ⟨w.heap.size, 0, none⟩) (by show w.heap.size < wA.heap.size; omega)).trans c0); clear hq))
  go_upto_region 4 with (first
    | (go_at_call 10; refine (HFL.out _ HB1.out).mono ?_; rintro e w2 ⟨rfl, HL2, HLS2, x0, x3, x5⟩))
  go_quiet (fail)
  clear HFL HNX c0
  obtain ⟨w3, hw3⟩ : ∃ w3, w2.drewN nq = w3 := ⟨_, rfl⟩
  have hb3 : Below w2.heap.size w2 w3 := by rw [← hw3]; exact below_drewN (Below.refl _ w2) nq
  have HL3 := hid (And.intro (HL2.out.1.below hb3) (HL2.out.2.trans (Kl.fresh hb3 (Nat.le_trans hbase HL2.out.2.size))))
  have y0 : w3.cell? ⟨w.heap.size, 0, none⟩ = some (.int .u64 (lsn : Int)) := (hb3.cell (p := ⟨w.heap.size, 0, none⟩) (lt_of_cell x0)).trans x0
  have y5 : w3.cell? ⟨L, 5, none⟩ = some (.int .u64 (g.start : Int)) := (hb3.cell (p := ⟨L, 5, none⟩) (lt_of_cell x5)).trans x5
  have HLS3 := hid ((hb3.block _ (lt_of_heap HLS2.out)).trans HLS2.out)
  rw [hw3]
  clear hw3 hb3 x0 x3 x5 HL2 HLS2
  obtain ⟨w4, hw4⟩ : ∃ w4, w3.alloc (.cells #[.int .u64 0] 29) = w4 := ⟨_, rfl⟩
  have x4 : w4.heap[w3.heap.size]? = some (.cells #[.int .u64 0] 29 (0, 0)) := by rw [← hw4]; exact heap_new w3 _
  have hb4 : Below w3.heap.size w3 w4 := by rw [← hw4]; exact (Below.refl _ w3).alloc (Nat.le_refl _) _
  have z4 : w4.cell? ⟨w3.heap.size, 0, none⟩ = some (.int .u64 0) := by simpa using cell_of_row w4 _ 0 _ _ _ x4
  have f4 : w4.frozen? ⟨w3.heap.size, 0, none⟩ = false := frozen_of_row w4 _ 0 _ _ x4
  obtain ⟨w5, hw5⟩ : ∃ w5, w4.setCell ⟨w3.heap.size, 0, none⟩ (.int .u64 (g.start : Int)) = w5 := ⟨_, rfl⟩
  have x5 : w5.heap[w3.heap.size]? = some (.cells #[.int .u64 (g.start : Int)] 29 (0, 0)) := by rw [← hw5]; exact box_set x4
  have hb5 : Below w3.heap.size w3 w5 := by rw [← hw5]; exact hb4.setCell (p := ⟨w3.heap.size, 0, none⟩) (Nat.le_refl _) _
  have hs5 : w5.heap.size = w3.heap.size + 1 := by rw [← hw5, ← hw4]; simp
  have HX5 := hid (And.intro x5 hb5)
  obtain ⟨gr, rc, ta, tc, us, cr, hform, hRU, hgr, hcr, hrc, hone'⟩ := HL3.out.1.rows (by show 1 ≤ g.recs.length; omega)
  have HTL := hid (told_any (HL3.out.1.below hb5) ((hb5.block L (lt_of_heap hform)).trans hform))
  have HFM := Bx.mk (And.intro hform (And.intro hRU (And.intro hgr (And.intro hcr hrc))))
  have HONE := Bx.mk hone'
  clear x4 x5 hb4 hb5 hform hRU hgr hcr hrc hone'
  go_wp2_with (first
    | (go_at_call 24; refine HTL.out.mono ?_; rintro e w6 ⟨Br, Bf, rfl, hbr, hbf, s1, s2, hb6⟩; clear HTL))
  have hb36 : Below w3.heap.size w3 w6 := HX5.out.2.trans (hb6.mono HX5.out.2.size)
  have hrow : 1 ≤ us.length → (some ⟨gr, 0, none⟩ : Option Addr) = some ⟨gr, 0, none⟩ ∧ ¬ cutT w3.heap.size gr 32 ∧ w6.heap[gr]? = some (.cells cr 32 (0, 0)) ∧ ∀ k, k < us.length → cr[k]? = us[k]? := fun _ => ⟨rfl, (by rintro ⟨_, e⟩; cases e), (hb36.block gr (lt_of_heap HFM.out.2.2.1)).trans HFM.out.2.2.1, HFM.out.2.2.2.1⟩
  have hnf : ¬ cutT w3.heap.size Bf 29 := (by rintro ⟨e, _⟩; omega)
  have husl : us.length = g.recs.length := HFM.out.2.1.1
  have hct0 : CtI w3 w3.heap.size g.start g.recs (lsn - g.first) 0 w6 := ⟨Nat.zero_le _, by rw [List.take_zero, bulk_nil, Nat.add_zero]; exact (hb6.block _ (lt_of_heap HX5.out.1)).trans HX5.out.1, hb36⟩
  have hlim : lsn - g.first < g.recs.length := by omega
  have HRO := Bx.mk hrow
  have HBB := Bx.mk (And.intro hbr (And.intro hbf (And.intro hnf (And.intro hb36 (And.intro hct0 hb6)))))
  have hfb : g.first ≤ 5000000000000000000 := by omega
  have hrb : us.length ≤ 1000000 := by omega
  have hb36s : w3.heap.size ≤ w6.heap.size := hb36.size
  have hsumb : g.start + bulkOf g.recs ≤ 4000000000000000000 := hsum
  have HIN := Bx.mk (And.intro h (And.intro ht (And.intro hg (And.intro hl (And.intro hwl (And.intro hwr (And.intro hnum hsc)))))))
  have HSZ := Bx.mk (And.intro s1 (And.intro s2 (And.intro hs5 (And.intro hsA hbase))))
  have HLSN := Bx.mk (show w3.heap[w.heap.size]? = some (.cells #[.int .u64 (lsn : Int)] 29 (0, 0)) from HLS3.out)
  have HD1 := Bx.mk hd1
  have HQ := Bx.mk (show (q : Int) ≤ 30000 by omega)
  clear HLS3
  clear hrow hbr hbf hnf hb36 hct0 hb6 h ht hg hl hwl hwr hnum hsc hw4 hw5 hwA s1 s2 hs5 hsA hbase HX5 HXA HLA HBA HB1 HC1 z4 f4 hNX hd1 hone htl hbl hq1 hq2 hsum hNXd hfd hNXI hfI
  rename_i hx1 hx2 KK hKK
  clear hx1 hx2
  refine wp_leaves (fun D V => w6.heap.size ≤ D ∧ V.heap[D]? = some (.deferred (some [])) ∧ CtI w3 w3.heap.size g.start g.recs (lsn - g.first) (lsn - g.first) V) ?loop ?rest
  case rest =>
    rintro D V ⟨hD, hK, hI⟩
    obtain ⟨h, ht, hg, hl, hwl, hwr, hnum, hsc⟩ := HIN.out
    obtain ⟨_, _, hs5, hsA, hbase⟩ := HSZ.out
    obtain ⟨F, hF⟩ : ∃ F, g.start + bulkOf (g.recs.take (lsn - g.first)) = F := ⟨_, rfl⟩
    have hbx := hI.box
    rw [hF] at hbx
    have hFb : F ≤ 4000000000000000000 := by rw [← hF]; have := bulk_le g.recs (lsn - g.first); omega
    have hs3 : w.heap.size + 1 ≤ w3.heap.size := by have := lt_of_cell y0; omega
    have hkV : Kl base w V := HL3.out.2.trans (Kl.fresh hI.below (Nat.le_trans hbase HL3.out.2.size))
    have hlV : LogIs V base L B n at' sc d1 g.flush := HL3.out.1.below hI.below
    have hlb : V.heap[w.heap.size]? = some (.cells #[.int .u64 (lsn : Int)] 29 (0, 0)) := (hI.below.block _ (by omega)).trans HLSN.out
    have hd1l : d1.left = -1 := by rw [← HD1.out]; show burn (flushD at' sc q d g).left = -1; rw [flushD_left hl]; rfl
    have hd1w : d1.wait = [] := by rw [← HD1.out]; rfl
    have hd1r : d1.writes ≤ 900000000 := by
      rw [← HD1.out]
      show (flushD at' sc q d g).writes ≤ _
      have := flushD_writes at' sc q d g
      have := HQ.out
      omega
    -- whatever keeps what a Log keeps leaves the two boxes
    have hkeep : ∀ W, Kl base V W → W.cell? ⟨w.heap.size, 0, none⟩ = some (.int .u64 (lsn : Int)) ∧ W.cell? ⟨w3.heap.size, 0, none⟩ = some (.int .u64 (F : Int)) ∧ W.heap[D]? = some (.deferred (some [])) := fun W hW => by
      have e1 := (hW.keep _ _ _ _ hlb nlT_u64).trans hlb
      have e2 := (hW.keep _ _ _ _ hbx nlT_u64).trans hbx
      exact ⟨by simpa using cell_of_row W _ 0 _ _ _ e1, by simpa using cell_of_row W _ 0 _ _ _ e2, hW.others D _ hK (fun _ _ _ e => by cases e)⟩
    have hbaseV : base ≤ V.heap.size := Nat.le_trans hbase hkV.size
    have hdr : Below V.heap.size V V.drew := (Below.refl _ V).drew
    have hcell : ∀ W d', LogIs W base L B n at' sc d' g.flush → W.cell? ⟨L, 0, none⟩ = some (.pointer (some ⟨B, 0, none⟩)) ∧ W.cell? ⟨L, 1, none⟩ = some (.int .i64 (at' : Int)) := fun W d' hW => by
      obtain ⟨_, _, _, _, hh1, _⟩ := hW.form
      exact ⟨(log_cells hh1).1, (log_cells hh1).2.1⟩
    have S0 : V.drew.cell? ⟨L, 0, none⟩ = some (.pointer (some ⟨B, 0, none⟩)) ∧ V.drew.cell? ⟨L, 1, none⟩ = some (.int .i64 (at' : Int)) ∧ V.drew.cell? ⟨w.heap.size, 0, none⟩ = some (.int .u64 (lsn : Int)) ∧ V.drew.cell? ⟨w3.heap.size, 0, none⟩ = some (.int .u64 (F : Int)) :=
      ⟨(hcell _ _ (hlV.below hdr)).1, (hcell _ _ (hlV.below hdr)).2, (hkeep _ (Kl.fresh hdr hbaseV)).1, (hkeep _ (Kl.fresh hdr hbaseV)).2.1⟩
    obtain ⟨hS, hhS⟩ : ∃ hS, headL lsn F = hS := ⟨_, rfl⟩
    have hHead : Calls Tryd.prog 26 #[.int .u64 (lsn : Int), .int .u64 (F : Int)] V.drew fun e w7 => ∃ a7 c7, e = .returned (.slice a7 64 c7) ∧ Hid (Kl base V w7) ∧
        (w7.cell? ⟨L, 0, none⟩ = some (.pointer (some ⟨B, 0, none⟩)) ∧ w7.cell? ⟨L, 1, none⟩ = some (.int .i64 (at' : Int)) ∧ w7.cell? ⟨w.heap.size, 0, none⟩ = some (.int .u64 (lsn : Int)) ∧ w7.cell? ⟨w3.heap.size, 0, none⟩ = some (.int .u64 (F : Int))) ∧
        Hid (Calls Tryd.prog 25 #[.pointer (some ⟨B, 0, none⟩), .int .i64 (at' : Int), .slice a7 64 c7] w7 fun e w8 => e = .returned (.int .i64 0) ∧ Hid (LogIs w8 base L B n at' sc (d1.write at' hS) g.flush ∧ Kl base V w8) ∧
          (w8.cell? ⟨L, 0, none⟩ = some (.pointer (some ⟨B, 0, none⟩)) ∧ w8.cell? ⟨L, 1, none⟩ = some (.int .i64 (at' : Int)) ∧ w8.cell? ⟨w.heap.size, 0, none⟩ = some (.int .u64 (lsn : Int)) ∧ w8.cell? ⟨w3.heap.size, 0, none⟩ = some (.int .u64 (F : Int)))) := by
      refine (headOf_any (ht.base ((hkV.trans (Kl.fresh hdr hbaseV)).below) hg) lsn F (by omega) (by omega)).mono ?_
      rintro e w7 ⟨v7, rfl, hown7, hby7, hl7, hb7⟩
      rw [hhS] at hown7 hby7 hl7
      obtain ⟨a7, c7, rfl⟩ := slice_form hown7
      have hb7V : Below V.heap.size V w7 := hdr.trans hb7
      have hk7 : Kl base V w7 := Kl.fresh hb7V hbaseV
      have hl7' := hlV.below hb7V
      obtain ⟨k1, k2, _⟩ := hkeep w7 hk7
      refine ⟨a7, c7, rfl, hk7, ⟨(hcell _ _ hl7').1, (hcell _ _ hl7').2, k1, k2⟩, ?_⟩
      refine (write_any hl7'.1 (i := at') (by omega) (by rw [hd1l]; decide) (s := hS) ⟨hl7, hby7⟩ (has_of_own hown7 (by decide)) (by rw [hd1w]; simp) (by omega)).mono ?_
      rintro e w8 ⟨rfl, hd8, hk8⟩
      have hl8 := hl7'.kd hd8 hk8
      have hk8' := hk7.trans (Kl.of_kd hk8)
      obtain ⟨k3, k4, _⟩ := hkeep w8 hk8'
      exact ⟨rfl, ⟨hl8, hk8'⟩, (hcell _ _ hl8).1, (hcell _ _ hl8).2, k3, k4⟩
    -- the Flush behind it
    obtain ⟨d2, hd2⟩ : ∃ d2, (d1.write at' hS).flush = d2 := ⟨_, rfl⟩
    have hFl : ∀ w8, LogIs w8 base L B n at' sc (d1.write at' hS) g.flush ∧ Kl base V w8 → Calls Tryd.prog 27 #[.pointer (some ⟨B, 0, none⟩)] w8 fun e w9 => e = .returned (.int .i64 0) ∧ Bx (LogIs w9 base L B n at' sc d2 g.flush ∧ Kl base V w9) := fun w8 ⟨hl8, hk8⟩ => by
      refine (flush_any hl8.1 (by show burn d1.left ≠ 0; rw [hd1l]; decide) (by show (d1.wait ++ [_]).length ≤ _; rw [hd1w]; simp)).mono ?_
      rintro e w9 ⟨rfl, hd9, hk9⟩
      rw [hd2] at hd9
      exact ⟨rfl, ⟨hl8.kd hd9 hk9, hk8.trans (Kl.of_kd hk9)⟩⟩
    have HHD := hid hHead
    have HFL := Bx.mk hFl
    have HKE := Bx.mk hkeep
    have HRR := Bx.mk (And.intro h (And.intro hnum (And.intro hkV (And.intro hbaseV (And.intro hF (And.intro hhS hd2))))))
    clear hHead hFl hkeep hcell hlV hkV hbx hlb hK hI hdr hd1l hd1w hd1r h ht hg hl hwl hwr hnum hsc hs5 hsA hF hhS hd2 HIN HSZ HBB HRO HONE
    go_upto_region 12 with fail
    go_region_held3 (fun w' => w'.cell? ⟨L, 0, none⟩ = some (.pointer (some ⟨B, 0, none⟩)) ∧ w'.cell? ⟨L, 1, none⟩ = some (.int .i64 (at' : Int)) ∧ w'.cell? ⟨w.heap.size, 0, none⟩ = some (.int .u64 (lsn : Int)) ∧ w'.cell? ⟨w3.heap.size, 0, none⟩ = some (.int .u64 (F : Int))) (first | exact S0 | exact HS8.out | exact HS7.out) (first
      | (go_at_call 26; refine HHD.out.mono ?_; rintro e w7 ⟨a7, c7, rfl, hk7, hs7, hw7⟩; have HS7 := hid hs7; have HW7 := hw7; clear hs7 hw7 hk7 HHD)
      | (go_at_call 25; refine HW7.out.mono ?_; rintro e w8 ⟨rfl, hl8, hs8⟩; have HS8 := hid hs8; have HL8 := hl8; clear hs8 hl8 HW7 HS7))
    have c08 := HS8.out.1
    go_upto_region 18 with (first
      | (go_at_call 27; refine (HFL.out _ HL8.out).mono ?_; rintro e w9 ⟨rfl, HL9⟩; clear HFL HS8 HL8))
    clear c08 y0 y5 S0
    obtain ⟨gr9, rc9, ta9, tc9, us9, cr9, hform, hRU, hgr, hcr, hrc, hone'⟩ := HL9.out.1.rows (by show 1 ≤ g.recs.length; omega)
    obtain ⟨M, hM⟩ : ∃ M, g.flush.recs.length = M := ⟨_, rfl⟩
    have hMr : g.recs.length = M := hM
    obtain ⟨K, hK⟩ : ∃ K, lsn - g.first = K := ⟨_, rfl⟩
    have hK1 : 1 ≤ K ∧ K < M := by omega
    have husl9 : us9.length = M := hRU.1.trans hM
    rw [hM] at hrc
    have HCL := hid (cloneR_any (w := w9.drew) (g := gr9) (off := K) (m := M - K) (cap := rc9 - K) (us := us9.drop K) (by rw [List.length_drop, husl9]) (by omega) (by obtain ⟨_, hn, _⟩ := HRR.out; omega) (fun j u hu => by
      rw [List.getElem?_drop] at hu
      have hlt : K + j < us9.length := (List.getElem?_eq_some_iff.1 hu).1
      have := cell_of_row w9 gr9 (K + j) _ _ _ hgr
      rw [hcr _ hlt, hu] at this
      have ea : (⟨gr9, K, none⟩ : Addr).add j = ⟨gr9, K + j, none⟩ := by unfold Addr.add; split <;> simp_all
      rw [ea]
      exact this) (fun u hu => hone' u (List.mem_of_mem_drop hu)))
    have hgen : ∀ (w10 : World) (g' c' : Nat), Below w9.drew.heap.size w9.drew w10 → w10.ownsRow w9.drew.heap.size 32 1 (.slice (some ⟨g', 0, none⟩) (M - K) c') (M - K) (us9.drop K) → w10.cell? ⟨L, 4, none⟩ = some (.slice (some ⟨gr9, 0, none⟩) M rc9) ∧ w10.frozen? ⟨L, 4, none⟩ = false ∧ Bx (LogIs (w10.setCell ⟨L, 4, none⟩ (.slice (some ⟨g', 0, none⟩) (M - K) c')) base L B n at' sc d2 { g.flush with recs := g.recs.drop K } ∧ Kl base V (w10.setCell ⟨L, 4, none⟩ (.slice (some ⟨g', 0, none⟩) (M - K) c'))) := fun w10 g' c' hb hown => by
      have hb' : Below w9.heap.size w9 w10 := (Below.refl _ w9).drew.trans hb
      obtain ⟨a1, k1⟩ := HL9.out.1.rerecs hform hRU hb' (k := K) (by rw [hM]; omega) (rv := .slice (some ⟨g', 0, none⟩) (M - K) c') (by rw [hM]; exact hown)
      have hh := (hb'.block L (lt_of_heap hform)).trans hform
      rw [hM] at hh
      exact ⟨(log_cells hh).2.2.2.2.1, (log_frozen hh).2.1, a1, HL9.out.2.trans k1⟩
    have c34 := log_cells hform
    obtain ⟨_, _, _, c3, c4, _⟩ := c34
    rw [hM] at c4
    have hsubI : IntKind.u64.wrap ((lsn : Int) - (g.first : Int)) = (K : Int) := by rw [PlainAid.u64_nonneg (by omega) (by omega)]; omega
    have e3 : w9.cell? ⟨L, 3, none⟩ = some (.int .u64 (g.first : Int)) := c3
    have e0 := (HKE.out w9 HL9.out.2).1
    have hKM : (K : Int) ≤ (M : Int) := by omega
    have hMc : (M : Int) ≤ (rc9 : Int) := by omega
    have hKc : (K : Int) ≤ (rc9 : Int) := by omega
    have hKne : ¬ rc9 = K := by omega
    have HGEN := Bx.mk hgen
    have HK := Bx.mk (And.intro hK (And.intro hM (And.intro hK1 hRU.1)))
    clear hgen hform hRU hgr hcr hone' c3 hMr husl9 hM hK
    apply wp_meet (C := fun V1 => LogIs V1 base L B n at' sc d2 { g.flush with recs := g.recs.drop K } ∧ Kl base V V1)
    case h1 =>
      refine wp_region_noPanic ?_
      go_region_with (first
        | (go_at_call 28; refine HCL.out.mono ?_; rintro e w10 ⟨g', c', rfl, hown10, hb10⟩; obtain ⟨e4, f4', HL10⟩ := HGEN.out w10 g' c' hb10 hown10; clear hown10 hb10))
      all_goals exact NoPanic.normal ⟨rfl, ⟨g', c', rfl⟩, HL10.out⟩
    case h2 =>
      clear e0 e3 c4 HCL HGEN hsubI hKM hMc hKc hKne
      rintro gi gj V1 ⟨hl1, hk1⟩
      obtain ⟨hK, hM, hK1, hus⟩ := HK.out
      obtain ⟨h, hnum, hkV, hbaseV, hF, hhS, hd2⟩ := HRR.out
      have hdl : (g.recs.drop K).length = M - K := by rw [List.length_drop]; show g.flush.recs.length - K = _; rw [hM]
      have hMg : g.recs.length = M := hM
      have hdr : Below V1.heap.size V1 V1.drew := (Below.refl _ V1).drew
      have hb1 : base ≤ V1.heap.size := Nat.le_trans hbaseV hk1.size
      have hlD := hl1.below hdr
      have hkD := hk1.trans (Kl.fresh hdr hb1)
      obtain ⟨A3, B3⟩ := hlD.store (g' := { g.flush with recs := g.recs.drop K, first := lsn }) 3 (.int .u64 (lsn : Int)) rfl rfl (fun rv tv => rfl) ⟨by show lsn + (g.recs.drop K).length ≤ _; omega, by show g.start ≤ _; omega, by show g.stop ≤ _; omega, by show g.first + g.recs.length - 1 ≤ _; omega⟩
      obtain ⟨A5, B5⟩ := hlD.store (g' := { g.flush with recs := g.recs.drop K, start := F }) 5 (.int .u64 (F : Int)) rfl rfl (fun rv tv => rfl) ⟨by show g.first + (g.recs.drop K).length ≤ _; omega, by show F ≤ _; omega, by show g.stop ≤ _; omega, by show g.first + g.recs.length - 1 ≤ _; omega⟩
      obtain ⟨A35, B35⟩ := A3.store (g' := { g.flush with recs := g.recs.drop K, first := lsn, start := F }) 5 (.int .u64 (F : Int)) rfl rfl (fun rv tv => rfl) ⟨by show lsn + (g.recs.drop K).length ≤ _; omega, by show F ≤ _; omega, by show g.stop ≤ _; omega, by show g.first + g.recs.length - 1 ≤ _; omega⟩
      obtain ⟨A53, B53⟩ := A5.store (g' := { g.flush with recs := g.recs.drop K, first := lsn, start := F }) 3 (.int .u64 (lsn : Int)) rfl rfl (fun rv tv => rfl) ⟨by show lsn + (g.recs.drop K).length ≤ _; omega, by show F ≤ _; omega, by show g.stop ≤ _; omega, by show g.first + g.recs.length - 1 ≤ _; omega⟩
      have T0 := HKE.out _ hkD
      have T3 := HKE.out _ (hkD.trans B3)
      have T5 := HKE.out _ (hkD.trans B5)
      have T35 := HKE.out _ ((hkD.trans B3).trans B35)
      have T53 := HKE.out _ ((hkD.trans B5).trans B53)
      have hcell : ∀ W d' g', LogIs W base L B n at' sc d' g' → (W.cell? ⟨L, 3, none⟩ = some (.int .u64 (g'.first : Int)) ∧ W.frozen? ⟨L, 3, none⟩ = false) ∧ W.cell? ⟨L, 5, none⟩ = some (.int .u64 (g'.start : Int)) ∧ W.frozen? ⟨L, 5, none⟩ = false := fun W d' g' hW => by
        obtain ⟨_, _, _, _, hh1, _⟩ := hW.form
        exact ⟨⟨(log_cells hh1).2.2.2.1, (log_frozen hh1).1⟩, (log_cells hh1).2.2.2.2.2.1, (log_frozen hh1).2.2.1⟩
      obtain ⟨⟨u3, v3⟩, u5, v5⟩ := hcell _ _ _ hlD
      obtain ⟨⟨t3, z3⟩, t5, z5⟩ := hcell _ _ _ hl1
      obtain ⟨_, u35, v35⟩ := hcell _ _ _ A3
      obtain ⟨⟨u53, v53⟩, _⟩ := hcell _ _ _ A5
      have hF' : g.start + bulkOf (g.recs.take K) = F := by rw [← hK]; exact hF
      have hgc : ({ g.flush with recs := g.recs.drop K, first := lsn, start := F } : Lg) = g.cut lsn := by unfold Lg.cut; rw [hK, hF']
      have hdc : d2 = cutD at' sc q d g lsn := by unfold cutD; rw [← hd2, ← hhS, ← HD1.out, hK, hF']
      rw [hgc, hdc] at A35 A53
      have HS3 := hid (And.intro T3.1 T3.2.1)
      have HS5 := hid (And.intro T5.1 T5.2.1)
      have HS35 := hid (And.intro T35.1 T35.2.1)
      have HS53 := hid (And.intro T53.1 T53.2.1)
      have hdone : ∀ W, LogIs W base L B n at' sc (cutD at' sc q d g lsn) (g.cut lsn) → Kl base V W → W.heap[D]? = some (.deferred (some [])) → LogIs (W.putObj D (.deferred none)) base L B n at' sc (cutD at' sc q d g lsn) (g.cut lsn) ∧ Kl base w (W.putObj D (.deferred none)) := fun W hl hk hD' => by
        have hrow : ∀ r, some D = some r → ∃ o : Obj, W.heap[r]? = some o ∧ o.isCells = false := fun r e => by cases e; exact ⟨_, hD', rfl⟩
        have key := turn_cells (grownBy_putObj' W D (.deferred none)) hrow
        have hsV : w.heap.size ≤ V.heap.size := hkV.size
        have hDw : w.heap.size ≤ D := by have := HL3.out.2.size; omega
        have hkW := hkV.trans hk
        refine ⟨hl.cells key, ⟨hkW.below.grown (grownBy_putObj' W D (.deferred none)) (Nat.le_trans hbase hkW.size) (fun k e => by cases e; omega), fun k c t f hk0 ht0 => ?_, fun k o hk0 ho => ?_⟩⟩
        · have e1 := hkW.keep k c t f hk0 ht0
          exact (key k c t f (e1.trans hk0)).trans e1
        · have e1 := hkW.others k o hk0 ho
          have := lt_of_heap hk0
          rw [World.putObj_heap_other (by omega)]
          exact e1
      have F35 := Bx.mk (hdone _ A35 ((hkD.trans B3).trans B35) T35.2.2)
      have F53 := Bx.mk (hdone _ A53 ((hkD.trans B5).trans B53) T53.2.2)
      have D35 := Bx.mk T35.2.2
      have D53 := Bx.mk T53.2.2
      have S1 : V1.drew.cell? ⟨w.heap.size, 0, none⟩ = some (.int .u64 (lsn : Int)) ∧ V1.drew.cell? ⟨w3.heap.size, 0, none⟩ = some (.int .u64 (F : Int)) := ⟨T0.1, T0.2.1⟩
      clear hcell hdone hgc hdc A3 A5 A35 A53 B3 B5 B35 B53 T0 T3 T5 T35 T53 hlD hkD hl1 hk1 h hnum hkV hF hhS hd2 hK hM hus hdl hMg hdr hF' HKE HRR HK HL9
      go_upto_region 19 with fail
      go_region_held3 (fun w' => w'.cell? ⟨w.heap.size, 0, none⟩ = some (.int .u64 (lsn : Int)) ∧ w'.cell? ⟨w3.heap.size, 0, none⟩ = some (.int .u64 (F : Int))) (first | exact S1 | exact HS3.out | exact HS5.out | exact HS35.out | exact HS53.out) (fail)
      all_goals
        go_wp2
        first
          | (refine ⟨by simp, .inl ⟨_, _, rfl, run_takeDeferred D35.out, ?_⟩⟩
             refine ⟨.int .i64 0, ?_, rfl, F35.out⟩
             simp [results, Tryd.f8, go_sem]
             done)
          | (refine ⟨by simp, .inl ⟨_, _, rfl, run_takeDeferred D53.out, ?_⟩⟩
             refine ⟨.int .i64 0, ?_, rfl, F53.out⟩
             simp [results, Tryd.f8, go_sem]
             done)
  clear hKK KK
  rename_i Q0 hH0
  clear hH0 Q0
  have HAR := Bx.mk (And.intro h1 (And.intro h2 (And.intro hlim (And.intro husl (And.intro hfb (And.intro hrb (And.intro hb36s hsumb)))))))
  have HY := Bx.mk (And.intro y0 y5)
  clear h1 h2 hlim husl hfb hrb hb36s hsumb y0 y5
  have HSQ := hid (told_hands (12 - 1) (by decide) Br Bf (cutT w3.heap.size) g.first us (some ⟨gr, 0, none⟩) rc gr cr w6 (by rw [HAR.out.2.2.2.1]; exact HBB.out.1) HBB.out.2.1 HBB.out.2.2.1 HRO.out HONE.out HAR.out.2.2.2.2.1 HAR.out.2.2.2.2.2.1)
  have HC0 := hid HBB.out.2.2.2.2.1
  clear HRO HBB HONE HIN HSZ HL3
  refine (wpIn_wide (n := 12)).1 (range_hands rfl (by decide) (gf := 43) (lb := #[.pointer (some ⟨Br, 0, none⟩), .pointer (some ⟨Bf, 0, none⟩)]) rfl trivial (enters_of Tryd.func43 (by kernel_rfl) rfl)
    HSQ.out (fun h k => Kt.trans h k) (fun V q o o' hq ho => Kt.putObj _ V q o o' hq ho) (fun _ _ _ _ _ _ hy _ _ => hy) (fun _ => rfl)
    (fun pre V => CtI w3 w3.heap.size g.start g.recs (lsn - g.first) pre.length V) (fun c _ V => c = .exit 0 ∧ CtI w3 w3.heap.size g.start g.recs (lsn - g.first) (lsn - g.first) V) ?hI ?hIx HC0.out ?a1 ?assign ?body ?done ?stop)
  case assign =>
    intro q x V K hK
    have HK := hid hK
    clear hK
    gi_wp2
    exact HK.out
  case hI =>
    rintro pre A B' row hs hg' hrow'
    exact hs.turn hg' (fun r e => ⟨by have := (hrow' r e).1; have := HAR.out.2.2.2.2.2.2.1; omega, (hrow' r e).2⟩)
  case hIx =>
    rintro c pre A B' row ⟨hc, hs⟩ hg' hrow'
    exact ⟨hc, hs.turn hg' (fun r e => ⟨by have := (hrow' r e).1; have := HAR.out.2.2.2.2.2.2.1; omega, (hrow' r e).2⟩)⟩
  case done =>
    rintro D xs V hD hS hI hK
    have h3 : xs.length = us.length := by rw [← hS, List.length_map]
    have h4 := hI.lim
    obtain ⟨h1, h2, hlim, husl, _⟩ := HAR.out
    omega
  case body =>
    rintro q' pre ⟨k, u⟩ V hI ⟨hk, hu⟩
    dsimp only at hk hu
    obtain ⟨h1, h2, hlim, husl, hfb, hrb, hb36s, hsumb⟩ := HAR.out
    obtain ⟨y0, y5⟩ := HY.out
    have hd1 : 1 ≤ 12 - 1 - 1 := by decide
    have hult : pre.length < us.length := (List.getElem?_eq_some_iff.1 hu).1
    obtain ⟨r, hr⟩ : ∃ r, g.recs[pre.length]? = some r := ⟨g.recs[pre.length]'(by rw [← husl]; exact hult), by rw [List.getElem?_eq_getElem (by rw [← husl]; exact hult)]⟩
    have hlr := (HFM.out.2.1.2 _ r u hr hu).1.2.1
    obtain ⟨au, cu, hue, _⟩ := (HFM.out.2.1.2 _ r u hr hu).1.open
    subst hue
    have hy0 : V.cell? ⟨w.heap.size, 0, none⟩ = some (.int .u64 (lsn : Int)) := (hI.below.cell (p := ⟨w.heap.size, 0, none⟩) (lt_of_cell y0)).trans y0
    have HRT := hid (And.intro hr hu)
    have hlim2 := hI.lim
    by_cases hkl : k = lsn
    · have hkB : ((k : Int) == (lsn : Int)) = true := by simp [hkl]
      have hpl : pre.length = lsn - g.first := by omega
      rw [hpl] at hI
      have HI := hid hI
      clear hI hr hu hpl
      gi_wp2
      exact ⟨KeepsFrom.refl _ _, rfl, HI.out⟩
    · have hkB : ((k : Int) == (lsn : Int)) = false := by simp; omega
      have hsub := bulk_le g.recs pre.length
      obtain ⟨c1, f1, hS1, hS2, hS3⟩ := hI.step (Nat.le_refl _) (by omega) hr
      have HLN := hid (fun wx => lengthOf_any au r.length cu wx (by omega))
      obtain ⟨E, hE⟩ : ∃ E, g.start + bulkOf (g.recs.take pre.length) = E := ⟨_, rfl⟩
      rw [hE] at c1 hS1 hS2 hS3
      have hEb : E ≤ 4000000000000000000 := by omega
      have hsb : E + (r.length + 16) ≤ 5000000000000000000 := by omega
      have hwE : IntKind.u64.wrap ((E : Int) + ((r.length : Int) + 16)) = (E : Int) + ((r.length : Int) + 16) := PlainAid.u64_nonneg (by omega) (by omega)
      have HF := hid (And.intro (hS3.from w6.heap.size) (And.intro hS2 hS1))
      clear hI hr hu hS1 hS2 hS3 hE
      gi_wp2
      gi_region_with_o (gi_at_call 23; refine (CallsIn.inRound q' (callsIn_wide.2 (HLN.out _))).mono ?_; rintro e W5 ⟨rfl, hw5⟩; have hw5' := hw5.symm; clear hw5; subst hw5')
      all_goals
        gi_wp2
        rw [show ((E : Int) + ((r.length : Int) + 16)) = ((E + (r.length + 16) : Nat) : Int) by omega]
        refine ⟨HF.out.1, HF.out.2.1, ?_⟩
        show CtI _ _ _ _ _ (pre ++ [_]).length _
        rw [List.length_append]
        exact HF.out.2.2
  case stop =>
    rintro D c pre V hD _ ⟨rfl, hI⟩ hK
    refine wpIn_wide.2 ?_
    go_wp2
end Go.Proofs.YthhlbhnogcfnjaaDoor
