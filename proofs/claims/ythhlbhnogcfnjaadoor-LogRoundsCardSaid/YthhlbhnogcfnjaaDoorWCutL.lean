/-
  Layer 4: what wal.Cut gives where nothing is to be cut.
-/
import Derived.Test.YthhlbhnogcfnjaaDoorWFlush
import Derived.Deep.RegionHeld3
namespace Go.Proofs.YthhlbhnogcfnjaaDoor
open Go.RowKit Go.Shelf

attribute [local go_sem] Oper.semAt_some

set_option maxRecDepth 100000 in
set_option maxHeartbeats 1600000 in
theorem cut_lowIn {w : World} {base L B n at' sc : Nat} {d : Dk} {g : Lg} (h : LogIs w base L B n at' sc d g) (ht : TabOk w) (hg : 0 < base) (hl : d.left = -1) (hone : 1 ≤ g.first) (htl : g.tail.length ≤ g.stop) (hbl : g.tail.length ≤ 1000000) (hwl : d.wait.length ≤ 800000) (hwr : d.writes ≤ 800000000) {q : Nat} (hq1 : g.tail.length ≤ q * 48) (hq2 : q * 48 < g.tail.length + 48)
    {lsn : Nat} (h1 : lsn ≤ g.first) :
    CallsIn Fence.wide 12 Tryd.prog 8 #[.pointer (some ⟨L, 0, none⟩), .int .u64 lsn] w fun e w' => e = .returned (.int .i64 0) ∧ LogIs w' base L B n at' sc (flushD at' sc q d g).flush g.flush ∧ Kl base w w' := by
  have hfn : ∀ k, Fence.wide.fn k := fun _ => trivial
  have hmx : Tryd.prog.follows .mixedOrders = true := by kernel_rfl
  have hnum := h.2.2.2.1
  have hsc := h.2.2.1
  have hbase : base ≤ w.heap.size := by have := h.lt; have := h.2.1; omega
  obtain ⟨wA, hwA⟩ : ∃ wA, w.alloc (.cells #[.int .u64 (lsn : Int)] 29) = wA := ⟨_, rfl⟩
  have hbA : Below w.heap.size w wA := by rw [← hwA]; exact (Below.refl _ w).alloc (Nat.le_refl _) _
  have hsA : wA.heap.size = w.heap.size + 1 := by rw [← hwA]; simp
  have xA : wA.heap[w.heap.size]? = some (.cells #[.int .u64 (lsn : Int)] 29 (0, 0)) := by rw [← hwA]; exact heap_new w _
  have hlA := h.below hbA
  have c0 : wA.drew.cell? ⟨w.heap.size, 0, none⟩ = some (.int .u64 (lsn : Int)) := by simpa using cell_of_row wA _ 0 _ _ _ xA
  obtain ⟨NX, hNX⟩ : ∃ NX, g.first + g.recs.length = NX := ⟨_, rfl⟩
  have HNX := hid (lnext_any (hlA.below (Below.refl _ wA).drew))
  rw [hNX] at HNX
  obtain ⟨d1, hd1⟩ : ∃ d1, (flushD at' sc q d g).flush = d1 := ⟨_, rfl⟩
  -- what Flush leaves
  have hfl : ∀ wx, Below wA.heap.size wA wx → Calls Tryd.prog 10 #[.pointer (some ⟨L, 0, none⟩)] wx fun e w' => e = .returned (.int .i64 0) ∧ Hid (LogIs w' base L B n at' sc d1 g.flush ∧ Kl base w w') ∧ Hid (w'.heap[w.heap.size]? = some (.cells #[.int .u64 (lsn : Int)] 29 (0, 0))) ∧ w'.cell? ⟨w.heap.size, 0, none⟩ = some (.int .u64 (lsn : Int)) ∧ w'.cell? ⟨L, 3, none⟩ = some (.int .u64 (g.first : Int)) ∧ w'.cell? ⟨L, 5, none⟩ = some (.int .u64 (g.start : Int)) := fun wx hbx => by
    have hbx' : Below w.heap.size w wx := hbA.trans (hbx.mono hbA.size)
    refine (lflush_any (hlA.below hbx) (ht.below hbx' (Nat.le_refl _)) hg hl hone htl hbl (by omega) (by omega) hq1 hq2).mono ?_
    rintro e w' ⟨rfl, hl', hk'⟩
    rw [hd1] at hl'
    obtain ⟨_, _, _, _, hh1, _⟩ := hl'.form
    have hx := (hk'.keep _ _ _ _ ((hbx.block _ (by omega)).trans xA) nlT_u64).trans ((hbx.block _ (by omega)).trans xA)
    exact ⟨rfl, ⟨hl', (Kl.fresh hbx' hbase).trans hk'⟩, hx, by simpa using cell_of_row w' _ 0 _ _ _ hx, (log_cells hh1).2.2.2.1, (log_cells hh1).2.2.2.2.2.1⟩
  have HFL := hid hfl
  have hNXI : ¬ ((NX : Int) < (lsn : Int)) := by omega
  have hNXd : decide ((NX : Int) < (lsn : Int)) = false := by simpa using hNXI
  have hfI : ((lsn : Int) ≤ (g.first : Int)) := by omega
  have hfd : decide ((lsn : Int) ≤ (g.first : Int)) = true := by simpa using hfI
  have HXA := hid xA
  have HLA := hid hlA
  have HBA := hid hbA
  refine callsIn_of_wp_marks Tryd.func8 rfl trivial ?_ rfl
  simp only [Tryd.ntmps8, List.size_toArray, List.length_cons, List.length_nil, Nat.reduceAdd, Nat.reduceSub, Array.replicate_succ, Array.replicate_zero, List.push_toArray, List.append_toArray, List.nil_append, List.cons_append]
  clear hfl hlA hbA xA
  refine wpIn_wide.2 ?_
  go_upto_region 1 with fail
  go_region_held3 (fun w' => w'.cell? ⟨w.heap.size, 0, none⟩ = some (.int .u64 (lsn : Int))) (first | exact c0 | exact HC1.out) (first
    | (go_at_call 13; refine HNX.out.mono ?_; rintro e w1 ⟨rfl, hq⟩; have HB1 : Hid (Below wA.heap.size wA w1) := (by obtain ⟨qd, rfl⟩ := hq; exact below_drewN (Below.refl _ wA).drew qd); have HC1 := hid (show w1.cell? ⟨w.heap.size, 0, none⟩ = some (.int .u64 (lsn : Int)) from (HB1.out.cell (p := ⟨w.heap.size, 0, none⟩) (by show w.heap.size < wA.heap.size; omega)).trans c0); clear hq))
  go_upto_region 4 with (first
    | (go_at_call 10; refine (HFL.out _ HB1.out).mono ?_; rintro e w2 ⟨rfl, HL2, HLS2, x0, x3, x5⟩))
  go_quiet (fail)
  clear HFL HNX c0 x0 x3 x5
  obtain ⟨w3, hw3⟩ : ∃ w3, w2.drewN nq = w3 := ⟨_, rfl⟩
  have hb3 : Below w2.heap.size w2 w3 := by rw [← hw3]; exact below_drewN (Below.refl _ w2) nq
  have HL3 := hid (And.intro (HL2.out.1.below hb3) (HL2.out.2.trans (Kl.fresh hb3 (Nat.le_trans hbase HL2.out.2.size))))
  rw [hw3]
  clear hw3 hb3 HL2 HLS2
  go_wp2
  refine ⟨.int .i64 0, ?_, rfl, by rw [hd1]; exact HL3.out⟩
  simp [results, Tryd.f8, go_sem]
theorem cut_low {w : World} {base L B n at' sc : Nat} {d : Dk} {g : Lg} (h : LogIs w base L B n at' sc d g) (ht : TabOk w) (hg : 0 < base) (hl : d.left = -1) (hone : 1 ≤ g.first) (htl : g.tail.length ≤ g.stop) (hbl : g.tail.length ≤ 1000000) (hwl : d.wait.length ≤ 800000) (hwr : d.writes ≤ 800000000) {q : Nat} (hq1 : g.tail.length ≤ q * 48) (hq2 : q * 48 < g.tail.length + 48) {lsn : Nat} (h1 : lsn ≤ g.first) :
    Calls Tryd.prog 8 #[.pointer (some ⟨L, 0, none⟩), .int .u64 lsn] w fun e w' => e = .returned (.int .i64 0) ∧ LogIs w' base L B n at' sc (flushD at' sc q d g).flush g.flush ∧ Kl base w w' :=
  callsIn_wide.1 (cut_lowIn h ht hg hl hone htl hbl hwl hwr hq1 hq2 h1)
end Go.Proofs.YthhlbhnogcfnjaaDoor
