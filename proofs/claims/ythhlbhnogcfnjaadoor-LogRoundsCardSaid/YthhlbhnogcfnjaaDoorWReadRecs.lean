/-
  Layer 4: what wal.readRecords gives.
-/
import Derived.Test.YthhlbhnogcfnjaaDoorWRecs
import Derived.Test.YthhlbhnogcfnjaaDoorMF
import Derived.Test.YthhlbhnogcfnjaaDoorWMake
import Derived.Test.YthhlbhnogcfnjaaDoorWPush
import Derived.Deep.CutRange
import Derived.Deep.CutBlock
namespace Go.Proofs.YthhlbhnogcfnjaaDoor
open Go.RowKit Go.Shelf

attribute [local go_sem] Oper.semAt_some

/-- What a Log takes up from a disk: the bytes from the piece of its first record on, the records in them. -/
def strmB (now : List (List Int)) (at' sc start : Nat) : List Int := if (strm now at' sc (start / 48)).length = 0 then zeros (start % 48) else strm now at' sc (start / 48)
def strmZ (now : List (List Int)) (at' sc start : Nat) : List Int := ((strmB now at' sc start).take (min (strmB now at' sc start).length (start % 48 + 48 * (sc - 8)))).drop (start % 48)
def readG (now : List (List Int)) (at' sc first start : Nat) : Lg :=
  let rs := recsP (strmZ now at' sc start) first
  let e := start % 48 + bulkOf rs
  { first := first, recs := rs, start := start, stop := start + bulkOf rs, flushed := first + rs.length - 1, tail := ((strmB now at' sc start).take e).drop (e / 48 * 48) }
theorem strmF_some {rd : Nat → List Int} (hs : ∀ no, (rd no).length = 64) {f no : Nat} (h : (strmF rd f no).length ≠ 0) : 48 ≤ (strmF rd f no).length := by
  cases f with
  | zero => simp [strmF] at h
  | succ f =>
    unfold strmF at h ⊢
    split
    · rename_i h1
      rw [List.length_append, pcBy_len (hs no) h1.1]
      omega
    · rename_i h1
      rw [if_neg h1] at h
      simp at h

theorem LogIs.cells {w w' : World} {base L B n at' sc : Nat} {d : Dk} {g : Lg} (h : LogIs w base L B n at' sc d g) (hk : ∀ (k : Nat) (c : Array Value) (t : TypeId) (f : Nat × Nat), w.heap[k]? = some (Obj.cells c t f) → w'.heap[k]? = w.heap[k]?) : LogIs w' base L B n at' sc d g := by
  obtain ⟨hd, hL, hs, hn, hby, rv, tv, hh, ht, hr⟩ := h
  refine ⟨hd.same fun k c t f hk' _ => hk k c t f hk', hL, hs, hn, hby, rv, tv, (hk L _ _ _ hh).trans hh, own_same ht fun k e => ?_, hr.all fun k c t hc _ => hk k c t _ hc⟩
  obtain ⟨c, hc⟩ := own_heap ht e
  exact hk k _ _ _ hc
theorem Kl.turn {w W W' : World} {base : Nat} {row : Option Nat} (h : Kl base w W) (hb : base ≤ w.heap.size) (hg : W.grownBy W' row) (hr : ∀ r, row = some r → w.heap.size ≤ r) : Kl base w W' := by
  refine ⟨h.below.grown hg (Nat.le_trans hb h.size) (fun k e => Nat.le_trans hb (hr k e)), fun k c t f hk ht => ?_, fun k o hk ho => ?_⟩
  · have e := h.keep k c t f hk ht
    exact (hg.block k (lt_of_heap (e.trans hk)) (fun e' => by have := hr k e'.symm; have := lt_of_heap hk; omega)).trans e
  · have e := h.others k o hk ho
    exact (hg.block k (lt_of_heap e) (fun e' => by have := hr k e'.symm; have := lt_of_heap hk; omega)).trans e
theorem load_recs (w : World) (a : Addr) (v : Value) (h : w.cell? a = some v) : (Instr.loadAt 48 (.pointer (some a))).run Tryd.prog w = .ok v w := by
  go_simp
theorem build_rec (au : Option Addr) (nu cu : Nat) (w : World) : (Instr.buildSlice 48 1 #[(0, .slice au nu cu)]).run Tryd.prog w = .ok (.slice (some ⟨w.heap.size, 0, none⟩) 1 1) (w.alloc (.cells #[.slice au nu cu] 32)) := by
  go_simp
/-- Amid wal.readRecords: so many records are taken up. -/
structure RdI (w : World) (base L B n at' sc : Nat) (d : Dk) (F S fl N0 : Nat) (vb tv : Value) (bb : List Int) (rs : List (List Int)) (W : World) : Prop where
  log : LogIs W base L B n at' sc d { first := F, recs := rs, start := S, stop := S + bulkOf rs, flushed := fl, tail := [] }
  kl : Kl base w W
  box : W.heap[w.heap.size]? = some (.cells #[.pointer (some ⟨L, 0, none⟩)] 26 (0, 0))
  own : W.ownsRow N0 5 1 vb bb.length (bb.map (Value.int .u8))
  c8 : W.cell? ⟨L, 8, none⟩ = some tv
theorem RdI.turn {w W W' : World} {base L B n at' sc : Nat} {d : Dk} {F S fl N0 : Nat} {vb tv : Value} {bb : List Int} {rs : List (List Int)} {row : Option Nat} (h : RdI w base L B n at' sc d F S fl N0 vb tv bb rs W) (hb : base ≤ w.heap.size) (hg : W.grownBy W' row)
    (hr : ∀ r, row = some r → w.heap.size ≤ r ∧ ∃ o : Obj, W.heap[r]? = some o ∧ o.isCells = false) : RdI w base L B n at' sc d F S fl N0 vb tv bb rs W' := by
  have key := turn_cells hg (fun r e => (hr r e).2)
  refine ⟨h.log.cells key, h.kl.turn hb hg (fun r e => (hr r e).1), (key _ _ _ _ h.box).trans h.box, own_same h.own fun k e => ?_, ?_⟩
  · obtain ⟨c, hc⟩ := own_heap h.own e
    exact key k _ _ _ hc
  · obtain ⟨ra, rc, ta, tc, hh, _⟩ := h.log.form
    rw [← h.c8]
    simp only [World.cell?, key _ _ _ _ hh]

set_option maxRecDepth 100000 in
set_option maxHeartbeats 4000000 in
theorem readRecs_in {w : World} {base L B n at' sc : Nat} {d : Dk} {g : Lg} (h : LogIs w base L B n at' sc d g) (hl : d.left ≠ 0) (ht : TabOk w) (hg : 0 < base) (hr0 : g.recs = []) (ht0 : g.tail = []) (hf1 : 1 ≤ g.first) (hf2 : g.first ≤ 4700000000000000000) (hf3 : g.start ≤ 4700000000000000000) :
    CallsIn Fence.wide 12 Tryd.prog 17 #[.pointer (some ⟨L, 0, none⟩)] w fun e w' => e = .returned (.int .i64 0) ∧ LogIs w' base L B n at' sc d (readG d.now at' sc g.first g.start) ∧ Kl base w w' := by
  have hfn : ∀ k, Fence.wide.fn k := fun _ => trivial
  have hsc := h.2.2.1
  have hnum := h.2.2.2.1
  have hdn := h.1.2.1
  have hbase : base ≤ w.heap.size := by have := h.lt; have := h.2.1; omega
  obtain ⟨W0, hW0⟩ : ∃ W0, w.alloc (.cells #[.pointer (some ⟨L, 0, none⟩)] 26) = W0 := ⟨_, rfl⟩
  have hsz0 : W0.heap.size = w.heap.size + 1 := by rw [← hW0]; simp
  have hF0 : Below w.heap.size w W0 := by rw [← hW0]; exact (Below.refl _ w).alloc (Nat.le_refl _) _
  have hx0 : W0.heap[w.heap.size]? = some (.cells #[.pointer (some ⟨L, 0, none⟩)] 26 (0, 0)) := by rw [← hW0]; exact heap_new w _
  have h1 := h.below hF0
  have ht1 : TabOk W0 := ht.below hF0 (Nat.le_refl _)
  have HST := hid (readStream_any h1 hl ht1)
  have H1 := hid h1
  have HX0 := hid hx0
  have cx := cell_of_row W0 w.heap.size 0 _ _ _ hx0
  simp only [List.getElem?_toArray, List.getElem?_cons_zero] at cx
  refine callsIn_of_wp_marks Tryd.func17 rfl trivial ?_ rfl
  simp only [Tryd.ntmps17, List.size_toArray, List.length_cons, List.length_nil, Nat.reduceAdd, Nat.reduceSub, Array.replicate_succ, Array.replicate_zero, List.push_toArray, List.append_toArray, List.nil_append, List.cons_append]
  have hmx : Tryd.prog.follows .mixedOrders = true := by kernel_rfl
  have hm1 : 1 ≤ 12 := by decide
  have HW0 := hid hW0
  have hSEC : ∀ no, Sec (sectAt d.now at' sc no) := fun no => sectAt_sec h.1.ok ⟨hsc.1, hsc.2.2⟩ no
  obtain ⟨b0, hb0⟩ : ∃ b0, b0 = strm d.now at' sc (g.start / 48) := ⟨_, rfl⟩
  have hb0l : b0.length ≤ 48 * (sc - 1) := by rw [hb0]; exact strmF_len (fun no => (hSEC no).1) _ _
  have hb0b : By b0 := by rw [hb0]; exact strmF_by (fun no => (hSEC no).2) _ _
  have hb0s : b0.length ≠ 0 → 48 ≤ b0.length := fun hx => by rw [hb0] at hx ⊢; exact strmF_some (fun no => (hSEC no).1) hx
  rw [← hb0] at HST
  have hbB : strmB d.now at' sc g.start = if b0.length = 0 then zeros (g.start % 48) else b0 := by rw [hb0]; rfl
  obtain ⟨bb, hbb⟩ : ∃ bb, bb = strmB d.now at' sc g.start := ⟨_, rfl⟩
  rw [← hbb] at hbB
  obtain ⟨K, hK⟩ : ∃ K, K = g.start % 48 := ⟨_, rfl⟩
  have hK48 : K < 48 := by omega
  have hKi : ((g.start : Int) % 48) = (K : Int) := by omega
  have HBB := hid hbB
  have HKK := hid hK
  have HB0 := hid (And.intro hb0b hb0s)
  obtain ⟨S, hS⟩ : ∃ S, S = g.start := ⟨_, rfl⟩
  have HSS := hid hS
  rw [← hS] at hKi
  have HKI := hid hKi
  -- the cells of the Log and its box, wherever nothing of it has turned
  have hcells : ∀ wx, Below W0.heap.size W0 wx → wx.cell? ⟨w.heap.size, 0, none⟩ = some (.pointer (some ⟨L, 0, none⟩)) ∧ wx.cell? ⟨L, 5, none⟩ = some (.int .u64 S) ∧ wx.cell? ⟨L, 3, none⟩ = some (.int .u64 g.first) ∧ (∃ u, wx.cell? ⟨L, 6, none⟩ = some (.int .u64 u)) ∧ wx.frozen? ⟨L, 6, none⟩ = false := fun wx hb => by
    obtain ⟨ra2, rc2, ta2, tc2, hh2, _⟩ := (H1.out.below hb).form
    obtain ⟨q0, q1, q2, q3, q4, q5, q6, q7, q8⟩ := log_cells hh2
    exact ⟨cell_of_row wx w.heap.size 0 _ _ _ ((hb.block _ (by omega)).trans HX0.out), by rw [hS]; exact q5, q3, ⟨_, q6⟩, (log_frozen hh2).2.2.2.1⟩
  have HC := hid hcells
  have HT1 := hid ht1
  have HTW := hid ht
  have HBE := hid hbb
  clear h h1 ht ht1 hW0 hx0 hb0b hb0s hbB hK hKi hS hb0 hSEC cx hcells hbb
  refine wpIn_wide.2 ?_
  go_upto_if 25 with (go_at_call 36; rw [HW0.out]; refine HST.out.mono ?_; rintro e w2 ⟨v2, rfl, hown2, hb2⟩; clear HST; obtain ⟨e0, e5, e3, _⟩ := HC.out w2 hb2; obtain ⟨a2, k2, rfl⟩ := slice_form hown2; have HOWN2 := hid hown2; have HB2 := hid hb2; clear hown2 hb2)
  rw [HKI.out]
  go_cut [3] from 26 to 27 (fun v wx => ∃ q k, v = .slice (some ⟨q, 0, none⟩) bb.length k ∧ wx.ownsRow W0.heap.size 5 1 (.slice (some ⟨q, 0, none⟩) bb.length k) bb.length (bb.map (Value.int .u8)) ∧ Below W0.heap.size W0 wx)
  case first =>
    by_cases hz : b0.length = 0
    · have hzz : ((b0.length : Int) == 0) = true := by rw [hz]; rfl
      have hmk := fun wx => make_bytes K (by omega) wx
      have HZ := hid hz
      clear hz
      go_wp2
      go_meet
      have he : bb = zeros K := by rw [HBB.out, if_pos HZ.out, HKK.out]
      rw [he]
      refine ⟨_, _, by simp only [zeros, List.length_replicate]; rfl, ?_, HB2.out.alloc HB2.out.size _⟩
      have := own_made w2 K W0.heap.size HB2.out.size (by omega)
      simpa [zeros] using this
    · have hzz : ((b0.length : Int) == 0) = false := by simp only [beq_eq_false_iff_ne, ne_eq]; omega
      have HZ := hid hz
      clear hz
      go_wp2
      go_meet
      have he : bb = b0 := by rw [HBB.out, if_neg HZ.out]
      rw [he]
      have ho := HOWN2.out
      rcases ho.2 with ⟨e1, _⟩ | ⟨q, cap, cur, e1, _⟩
      · injection e1 with _ e1
        exact absurd e1 HZ.out
      · injection e1 with e1 _ e3
        subst e1 e3
        exact ⟨_, _, rfl, ho, HB2.out⟩
  case rest =>
  obtain ⟨q3, k3, rfl, hown3, hb3⟩ := hcut
  have hbbl : bb.length ≤ 2000000 ∧ K ≤ bb.length := by
    rw [HBB.out]
    split
    · rw [zeros_len, ← HKK.out]; omega
    · rename_i hne
      have := HB0.out.2 hne
      omega
  have hbby : By bb := by
    rw [HBB.out]
    split
    · exact By.zeros _
    · exact HB0.out.1
  clear e0 e5 e3 HOWN2 HB2
  -- behind 'l.end = l.from'
  obtain ⟨e0, e5, e3, ⟨u6, e6⟩, f6⟩ := HC.out wc hb3
  have key7 : LogIs (wc.setCell ⟨L, 6, none⟩ (.int .u64 S)).drew base L B n at' sc d { g with stop := S } ∧ Kl base w (wc.setCell ⟨L, 6, none⟩ (.int .u64 S)).drew ∧ (wc.setCell ⟨L, 6, none⟩ (.int .u64 S)).drew.ownsRow W0.heap.size 5 1 (.slice (some ⟨q3, 0, none⟩) bb.length k3) bb.length (bb.map (Value.int .u8)) ∧
      (wc.setCell ⟨L, 6, none⟩ (.int .u64 S)).drew.heap[w.heap.size]? = some (.cells #[.pointer (some ⟨L, 0, none⟩)] 26 (0, 0)) ∧ W0.heap.size ≤ (wc.setCell ⟨L, 6, none⟩ (.int .u64 S)).drew.heap.size := by
    have hl3 := H1.out.below hb3
    have hLt := H1.out.lt
    obtain ⟨a1, k1⟩ := hl3.store (g' := { g with stop := S }) 6 (.int .u64 S) rfl rfl (fun _ _ => rfl) ⟨hnum.1, hnum.2.1, by have := HSS.out; dsimp only; omega, hnum.2.2.2.1⟩
    have hdr : ∀ W : World, Below W.heap.size W W.drew := fun W => (Below.refl _ W).drew
    have hLw : L < w.heap.size := by
      have := hl3.lt
      have h2 := HX0.out
      rcases Nat.lt_or_ge L w.heap.size with hx | hx
      · exact hx
      · have : L = w.heap.size := by omega
        obtain ⟨ra2, rc2, ta2, tc2, hh2, _⟩ := H1.out.form
        rw [this, h2] at hh2
        injection hh2 with e
        injection e with _ e _
        exact absurd e (by decide)
    refine ⟨a1.below (hdr _), ?_, ?_, ?_, ?_⟩
    · refine ((Kl.fresh hF0 hbase).trans ((Kl.fresh hb3 (by omega)).trans k1)).trans (Kl.fresh (hdr _) ?_)
      have := k1.size; have := hb3.size; omega
    · refine own_below (own_same hown3 fun k e => ?_) (hdr _)
      have := own_base hown3 k e
      exact Below.heap_setCell _ _ _ _ (by show k ≠ L; omega)
    · show (wc.setCell ⟨L, 6, none⟩ (.int .u64 S)).heap[w.heap.size]? = _
      rw [Below.heap_setCell _ _ _ _ (by show w.heap.size ≠ L; omega)]
      exact (hb3.block _ (by omega)).trans HX0.out
    · have := k1.size; have := hb3.size
      show W0.heap.size ≤ (wc.setCell ⟨L, 6, none⟩ (.int .u64 S)).heap.size
      omega
  have KEY7 := hid key7
  clear key7
  go_upto_region 7 with fail
  go_cut [28] from 29 to 34 (fun _ wx => LogIs wx base L B n at' sc d { g with stop := S } ∧ Kl base w wx ∧ wx.ownsRow W0.heap.size 5 1 (.slice (some ⟨q3, 0, none⟩) bb.length k3) bb.length (bb.map (Value.int .u8)) ∧ wx.heap[w.heap.size]? = some (.cells #[.pointer (some ⟨L, 0, none⟩)] 26 (0, 0)) ∧ W0.heap.size ≤ wx.heap.size)
  case first =>
    go_region
    all_goals
      go_wp2
      go_meet
      exact KEY7.out
  case rest =>
  obtain ⟨hl7, hk7, hown7, hx7, hs7⟩ := hcut
  clear KEY7 e0 e5 e3 e6 f6 hown3 hb3
  obtain ⟨ra7, rc7, ta7, tc7, hh7, _⟩ := hl7.form
  obtain ⟨d0, d1, d2, d3, d4, d5, d6, d7, d8⟩ := log_cells hh7
  have dx := cell_of_row wc w.heap.size 0 _ _ _ hx7
  simp only [List.getElem?_toArray, List.getElem?_cons_zero] at dx
  have hkc := hown7.2
  have hk3c : bb.length ≤ k3 := by
    rcases hown7.2 with ⟨e, _⟩ | ⟨_, _, _, e, _, _, hx, _⟩
    · cases e
    · injection e with _ _ e; omega
  have HSZ := hid (lsize_any (hl7.below (Below.refl _ wc).drew))
  obtain ⟨Z, hZ⟩ : ∃ Z, Z = 48 * (sc - 8) := ⟨_, rfl⟩
  rw [← hZ] at HSZ
  have hZb : Z ≤ 2000000 := by omega
  obtain ⟨H, hH⟩ : ∃ H, H = min bb.length (K + Z) := ⟨_, rfl⟩
  have hHI : min (bb.length : Int) ((K : Int) + (Z : Int)) = (H : Int) := by omega
  have hHb : K ≤ H ∧ H ≤ bb.length := by omega
  obtain ⟨F, hF⟩ : ∃ F, F = g.first := ⟨_, rfl⟩
  have hL7 := hid hl7
  have HRI := fun a n' c => hid (callsIn_wide.1 (recordsIn_in 12 a n' c (F : Int) wc.drew))
  have HH := hid hH
  have HZZ := hid hZ
  have HFF := hid hF
  have HHI := hid hHI
  have hd3 : wc.cell? ⟨L, 3, none⟩ = some (.int .u64 F) := by rw [hF]; exact d3
  have HO7 := hid hown7
  have HX7 := hid hx7
  have HK7 := hid hk7
  have hwk : IntKind.i64.wrap ((K : Int) + (Z : Int)) = (K : Int) + (Z : Int) := by rw [IntKind.wrap_i64]; omega
  have hKH : (K : Int) ≤ (H : Int) := by omega
  have hHB : (H : Int) ≤ (bb.length : Int) := by omega
  have hHk : (H : Int) ≤ (k3 : Int) := by omega
  clear hl7 hown7 hx7 hk7 hh7 hH hZ hF hkc d0 d1 d2 d3 d4 d5 d6 d7 d8
  obtain ⟨zs, hzs⟩ : ∃ zs, zs = (bb.take H).drop K := ⟨_, rfl⟩
  have HZS := hid hzs
  have hfin8 : ∀ (a : Option Addr) (n' c : Nat) (w8 : World), NewBs W0.heap.size wc (.slice a n' c) zs → w8 = (wc.drew.alloc (.cells #[.slice a n' c] 32)).alloc (.cells #[.int .u64 (F : Int)] 29) →
      ∃ X a' n'' c', Value.func (.func 52) #[] #[.pointer (some ⟨wc.drew.heap.size, 0, none⟩), .pointer (some ⟨wc.drew.heap.size + 1, 0, none⟩)] = .func (.func 52) #[] #[.pointer (some ⟨X, 0, none⟩), .pointer (some ⟨X + 1, 0, none⟩)] ∧ w8.heap[X]? = some (.cells #[.slice a' n'' c'] 32 (0, 0)) ∧ w8.heap[X + 1]? = some (.cells #[.int .u64 (F : Int)] 29 (0, 0)) ∧ NewBs W0.heap.size w8 (.slice a' n'' c') zs ∧ Below wc.heap.size wc w8 ∧ wc.heap.size ≤ X := fun a n' c w8 hnb hw => by
    have hb8 : Below wc.heap.size wc w8 := by rw [hw]; exact ((Below.refl _ wc).drew.alloc (Nat.le_refl _) _).alloc (by simp) _
    refine ⟨wc.drew.heap.size, a, n', c, rfl, ?_, ?_, hnb.below hb8, hb8, Nat.le_refl _⟩
    · rw [hw, Below.heap_alloc _ _ _ (by simp)]
      exact heap_new wc.drew _
    · rw [hw]
      have := heap_new (wc.drew.alloc (.cells #[.slice a n' c] 32)) (.cells #[.int .u64 (F : Int)] 29)
      rwa [World.size_alloc] at this
  have HF8 := hid hfin8
  have hcw : ∀ (a : Option Addr) (n' c : Nat) (w8 : World), w8 = (wc.drew.alloc (.cells #[.slice a n' c] 32)).alloc (.cells #[.int .u64 (F : Int)] 29) → w8.cell? ⟨w.heap.size, 0, none⟩ = some (.pointer (some ⟨L, 0, none⟩)) ∧ w8.cell? ⟨L, 3, none⟩ = some (.int .u64 F) := fun a n' c w8 hw => by
    have hb8 : Below wc.heap.size wc w8 := by rw [hw]; exact ((Below.refl _ wc).drew.alloc (Nat.le_refl _) _).alloc (by simp) _
    exact ⟨(hb8.cell (p := ⟨w.heap.size, 0, none⟩) (lt_of_cell dx)).trans dx, (hb8.cell (p := ⟨L, 3, none⟩) (lt_of_cell hd3)).trans hd3⟩
  have HCW := hid hcw
  clear hcw
  have hnb7 : NewBs W0.heap.size wc (.slice (some ⟨q3, 0, none⟩) bb.length k3) bb := newBs_own HO7.out hbby (by omega)
  have HNB7 := hid hnb7
  clear hfin8 hnb7 hzs
  obtain ⟨w7, rfl⟩ : ∃ w7, w7 = wc := ⟨_, rfl⟩
  go_upto_region 8 with fail
  go_cut [49] from 35 to 48 (fun f wx => ∃ X a n' c, f = .func (.func 52) #[] #[.pointer (some ⟨X, 0, none⟩), .pointer (some ⟨X + 1, 0, none⟩)] ∧ wx.heap[X]? = some (.cells #[.slice a n' c] 32 (0, 0)) ∧ wx.heap[X + 1]? = some (.cells #[.int .u64 (F : Int)] 29 (0, 0)) ∧ NewBs W0.heap.size wx (.slice a n' c) zs ∧ Below w7.heap.size w7 wx ∧ w7.heap.size ≤ X)
  case first =>
    refine wp_region_noPanic ?_
    clear hHI hKH hHB hHk
    by_cases hkc : k3 = K
    · have hbl : bb.length = K := by omega
      have hHK : H = K := by omega
      have hcutv : NewBs W0.heap.size w7 (.slice (some ⟨q3, 0, none⟩) 0 0) zs := by
        rw [HZS.out, List.drop_of_length_le (by simp; omega)]
        exact ⟨⟨fun j => by simp, by simp, .inl ⟨_, _, rfl, rfl, fun e => (by cases e)⟩⟩, fun q e => HNB7.out.2 q (by simpa [Value.ownBlock] using e)⟩
      have HCV := hid hcutv
      have hle : (bb.length : Int) ≤ (K : Int) + (Z : Int) := by omega
      have hl1 : (bb.length : Int) ≤ (k3 : Int) := by omega
      have hl2 : (K : Int) ≤ (bb.length : Int) := by omega
      have hkT : (k3 = K) = True := eq_true hkc
      have HE := hid (And.intro hkc hbl)
      clear hcutv hkc hbl hHK
      go_region_held (fun w' => w'.cell? ⟨w.heap.size, 0, none⟩ = some (.pointer (some ⟨L, 0, none⟩)) ∧ w'.cell? ⟨L, 3, none⟩ = some (.int .u64 F)) (first | exact ⟨dx, hd3⟩ | exact ⟨x0, x3⟩) (first
        | (go_at_call 33; refine HSZ.out.mono ?_; rintro e w8 ⟨rfl, hw⟩; have hw' := hw.symm; clear hw; subst hw')
        | (go_at_call 37; refine (HRI _ _ _).out.mono ?_; rintro e w8 ⟨rfl, hw⟩; obtain ⟨x0, x3⟩ := HCW.out _ _ _ _ hw; have HW8 := hid hw; clear hw))
      refine NoPanic.normal ?_
      go_wp2
      go_meet
      refine HF8.out _ _ _ _ ?_ HW8.out
      have := HCV.out
      rwa [HE.out.1, HE.out.2, Nat.sub_self]
    · have hkF : (k3 = K) = False := eq_false hkc
      have hcutv := HNB7.out.cut (lo := K) (hi := H) (by omega) (by omega) (by omega)
      rw [← HZS.out] at hcutv
      have HCV := hid hcutv
      have hl2 : (K : Int) ≤ (bb.length : Int) := by omega
      by_cases hle : (bb.length : Int) ≤ (K : Int) + (Z : Int)
      · have hl1 : (bb.length : Int) ≤ (k3 : Int) := by omega
        have hHe : H = bb.length := by have := HH.out; omega
        have HE := hid hHe
        clear hcutv hkc hHe
        go_region_held (fun w' => w'.cell? ⟨w.heap.size, 0, none⟩ = some (.pointer (some ⟨L, 0, none⟩)) ∧ w'.cell? ⟨L, 3, none⟩ = some (.int .u64 F)) (first | exact ⟨dx, hd3⟩ | exact ⟨x0, x3⟩) (first
        | (go_at_call 33; refine HSZ.out.mono ?_; rintro e w8 ⟨rfl, hw⟩; have hw' := hw.symm; clear hw; subst hw')
        | (go_at_call 37; refine (HRI _ _ _).out.mono ?_; rintro e w8 ⟨rfl, hw⟩; obtain ⟨x0, x3⟩ := HCW.out _ _ _ _ hw; have HW8 := hid hw; clear hw))
        refine NoPanic.normal ?_
        go_wp2
        go_meet
        refine HF8.out _ _ _ _ ?_ HW8.out
        have := HCV.out
        rw [HE.out] at this
        simpa using this
      · have hl1 : (K : Int) + (Z : Int) ≤ (k3 : Int) := by have := HH.out; omega
        have hl3 : (K : Int) ≤ (K : Int) + (Z : Int) := by omega
        have hHe : H = K + Z := by have := HH.out; omega
        have HE := hid hHe
        clear hcutv hkc hHe
        go_region_held (fun w' => w'.cell? ⟨w.heap.size, 0, none⟩ = some (.pointer (some ⟨L, 0, none⟩)) ∧ w'.cell? ⟨L, 3, none⟩ = some (.int .u64 F)) (first | exact ⟨dx, hd3⟩ | exact ⟨x0, x3⟩) (first
        | (go_at_call 33; refine HSZ.out.mono ?_; rintro e w8 ⟨rfl, hw⟩; have hw' := hw.symm; clear hw; subst hw')
        | (go_at_call 37; refine (HRI _ _ _).out.mono ?_; rintro e w8 ⟨rfl, hw⟩; obtain ⟨x0, x3⟩ := HCW.out _ _ _ _ hw; have HW8 := hid hw; clear hw))
        refine NoPanic.normal ?_
        go_wp2
        go_meet
        refine HF8.out _ _ _ _ ?_ HW8.out
        have := HCV.out
        rw [HE.out] at this
        rw [show ((K : Int) + (Z : Int)).toNat - K = Z by omega]
        simpa using this
  case rest =>
  obtain ⟨X, a8, n8, c8, rfl, hbv, hbn, hnb8, hb8, hX⟩ := hcut
  have hg7 : ({ g with stop := S } : Lg) = { first := F, recs := [], start := S, stop := S + bulkOf [], flushed := g.flushed, tail := [] } := by
    have h1 := HFF.out; have h2 := HSS.out
    cases g
    simp only at hr0 ht0 h1 h2 ⊢
    subst hr0 ht0 h1 h2
    rfl
  obtain ⟨ra0, rc0, ta0, tc0, hh0, hto, _⟩ := (hL7.out.below hb8).form
  have hc80 := (log_cells hh0).2.2.2.2.2.2.2.2
  have htlt : ∀ b, Value.ownBlock (.slice ta0 g.tail.length tc0) = some b → b < wc.heap.size := fun b e => (hto.lt b e).2
  obtain ⟨tv, htv⟩ : ∃ tv, tv = Value.slice ta0 g.tail.length tc0 := ⟨_, rfl⟩
  rw [← htv] at htlt
  have hc81 : wc.cell? ⟨L, 8, none⟩ = some tv := by rw [htv]; exact hc80
  have hI0 : RdI w base L B n at' sc d F S g.flushed W0.heap.size (.slice (some ⟨q3, 0, none⟩) bb.length k3) tv bb [] wc := ⟨by rw [← hg7]; exact hL7.out.below hb8, HK7.out.trans (Kl.fresh hb8 (by omega)), (hb8.block _ (by omega)).trans HX7.out, own_below HO7.out hb8, hc81⟩
  have HTLT := hid htlt
  clear hh0 hto hc80 htlt htv hc81
  have htb : TabOk wc := HTW.out.base hI0.kl.below hg
  have hwcs : base ≤ wc.heap.size := Nat.le_trans hbase hI0.kl.size
  have hzl : zs.length ≤ 2000000 := by rw [HZS.out, List.length_drop, List.length_take]; omega
  have hF5 : F ≤ 4700000000000000000 := by rw [HFF.out]; exact hf2
  have hwc : w.heap.size ≤ wc.heap.size := hI0.kl.size
  have HI0 := hid hI0
  clear hI0 hg7
  go_wp2
  refine (wpIn_wide (n := 12)).1 (range_hands rfl (by decide) (gf := 52) (lb := #[.pointer (some ⟨X, 0, none⟩), .pointer (some ⟨X + 1, 0, none⟩)]) rfl trivial (enters_of Tryd.func52 (by kernel_rfl) rfl)
    (recs_hands (12 - 1) (by decide) X (X + 1) base wc.heap.size a8 n8 c8 F zs wc hbv hbn (hnb8.mono (Nat.zero_le _)) htb hg (Nat.le_refl _) hwcs (by omega) hzl) (fun h k => Kq.trans h k) (fun W l o o' hl ho => Kq.putObj base W l o o' hl ho) (fun pre x W l o o' hy hl ho => ⟨hy.1.putObj l o o' hl ho, hy.2⟩) (fun _ => rfl)
    (fun pre W => RdI w base L B n at' sc d F S g.flushed W0.heap.size (.slice (some ⟨q3, 0, none⟩) bb.length k3) tv bb (bytesOf pre) W ∧ ∃ rest, recsP zs F = bytesOf pre ++ rest) (fun _ _ _ => False) (fun pre A B' row hs hg' hrow => ⟨hs.1.turn hbase hg' (fun r e => ⟨by have := (hrow r e).1; omega, (hrow r e).2⟩), hs.2⟩) (fun _ _ _ _ _ h => h.elim) ⟨HI0.out, _, rfl⟩ ?a1 ?assign ?body ?done ?stop)
  case assign =>
    intro l x W K hK
    gi_wp2
    exact hK
  case stop => exact fun _ _ _ _ _ _ h => h.elim
  case body =>
    rintro l pre ⟨xk, xv, r⟩ W ⟨hI, _⟩ ⟨hN, hx1, hx2, rest2, hr2⟩
    dsimp only at hN hx1 hx2 hr2
    have hd1 : 1 ≤ 12 - 1 - 1 := by decide
    obtain ⟨au, cu, hxv, _⟩ := hN.1.open
    subst hxv
    obtain ⟨nu, hnu⟩ : ∃ nu, nu = r.length := ⟨_, rfl⟩
    rw [← hnu] at hN ⊢
    -- how many there are
    have hbk : bulkOf (bytesOf pre ++ [r]) ≤ zs.length := by
      have h1 := recsP_bulk zs F
      have h2 := bulk_app (bytesOf pre ++ [r]) rest2
      rw [hr2, show bytesOf pre ++ r :: rest2 = (bytesOf pre ++ [r]) ++ rest2 by simp] at h1
      omega
    have hln := bulk_len (bytesOf pre ++ [r])
    rw [List.length_append, List.length_singleton] at hln
    have hlogd := hI.log.below (w' := W.drew) (Below.refl _ W).drew
    obtain ⟨ra, rc, ta, tc, hh, _⟩ := hlogd.form
    dsimp only at hh
    have hNd := hN.below (Below.refl _ W).drew
    have htve : tv = .slice ta 0 tc := by
      have h1 := (log_cells hh).2.2.2.2.2.2.2.2
      have h2 : W.drew.cell? ⟨L, 8, none⟩ = some tv := hI.c8
      rw [h2] at h1
      injection h1
    obtain ⟨ao, cap, w', hrun, hL', hlog', hkl', hko', hkey, hall⟩ := hlogd.push hh (by dsimp only; omega) (by dsimp only; omega) (hNd.mono hwcs) (fun b e1 e2 => by
      have h1 := HTLT.out b (by rw [htve]; exact e1)
      have h2 := (hN.2 b e2).1
      omega)
    dsimp only at hrun hlog'
    obtain ⟨N, hNN⟩ : ∃ N, N = (bytesOf pre).length := ⟨_, rfl⟩
    rw [← hNN] at hh hrun hlog' hkl' hko' hall
    have S0 : Hid (W.drew.cell? ⟨w.heap.size, 0, none⟩ = some (.pointer (some ⟨L, 0, none⟩))) := cell_of_row W _ 0 _ _ _ hI.box
    have hbA : Below W.drew.heap.size W.drew (W.drew.alloc (.cells #[.slice au nu cu] 32)) := (Below.refl _ _).alloc (Nat.le_refl _) _
    have S1 : Hid ((W.drew.alloc (.cells #[.slice au nu cu] 32)).cell? ⟨w.heap.size, 0, none⟩ = some (.pointer (some ⟨L, 0, none⟩))) := (hbA.cell (p := ⟨w.heap.size, 0, none⟩) (lt_of_heap hI.box)).trans S0.out
    have hbx' := (hkey _ _ _ _ hI.box (by decide)).trans hI.box
    have S2 : Hid (w'.cell? ⟨w.heap.size, 0, none⟩ = some (.pointer (some ⟨L, 0, none⟩))) := cell_of_row w' _ 0 _ _ _ hbx'
    have hbx3 := (hall _ _ _ _ hI.box (by decide) (by decide)).trans hI.box
    have S3 : Hid ((w'.setCell ⟨L, 4, none⟩ (.slice ao (N + 1) cap)).cell? ⟨w.heap.size, 0, none⟩ = some (.pointer (some ⟨L, 0, none⟩))) := cell_of_row _ _ 0 _ _ _ hbx3
    have cR : W.drew.cell? ⟨L, 4, none⟩ = some (.slice ra N rc) := (log_cells hh).2.2.2.2.1
    have cRa : (W.drew.alloc (.cells #[.slice au nu cu] 32)).cell? ⟨L, 4, none⟩ = some (.slice ra N rc) := (hbA.cell (p := ⟨L, 4, none⟩) (lt_of_heap hh)).trans cR
    have c4 := (log_cells (hL'.trans hh)).2.2.2.2.1
    have f4 := (log_frozen (hL'.trans hh)).2.1
    have HRU := hid hrun
    have HLOG := hid hlog'
    have HLE := hid (hL'.trans hh)
    obtain ⟨W3, hW3⟩ : ∃ W3, w'.setCell ⟨L, 4, none⟩ (.slice ao (N + 1) cap) = W3 := ⟨_, rfl⟩
    rw [hW3] at HLOG hkl' hko' hall hbx3
    have hbul : S + bulkOf (bytesOf pre) + (nu + 16) = S + bulkOf (bytesOf pre ++ [r]) := by rw [bulk_app, bulk_cons, bulk_nil, hnu]; omega
    have hbox4 := cell_of_row W3.drew w.heap.size 0 _ _ _ hbx3
    simp only [List.getElem?_toArray, List.getElem?_cons_zero] at hbox4
    obtain ⟨ra3, rc3, ta3, tc3, hh3, _⟩ := HLOG.out.form
    dsimp only at hh3
    have c6 : W3.drew.cell? ⟨L, 6, none⟩ = some (.int .u64 ((S + bulkOf (bytesOf pre) : Nat) : Int)) := (log_cells hh3).2.2.2.2.2.2.1
    have f6 : W3.drew.frozen? ⟨L, 6, none⟩ = false := (log_frozen hh3).2.2.2.1
    have HLN := hid (fun wx => lengthOf_any au nu cu wx (by omega))
    obtain ⟨E, hE⟩ : ∃ E, E = S + bulkOf (bytesOf pre) := ⟨_, rfl⟩
    have hEb : E ≤ 4800000000000000000 := by
      have := HSS.out
      rw [bulk_app] at hbk
      omega
    rw [← hE] at c6 hbul
    have hnu2 : nu ≤ 2000 := by omega
    have hwE : IntKind.u64.wrap ((E : Int) + ((nu : Int) + 16)) = ((E + (nu + 16) : Nat) : Int) := by rw [PlainAid.u64_nonneg (by omega) (by omega)]; omega
    have hfinal : KeepsFrom wc.heap.size W (W3.setCell ⟨L, 6, none⟩ (.int .u64 ((E + (nu + 16) : Nat) : Int))).drew ∧ Kq base W (W3.setCell ⟨L, 6, none⟩ (.int .u64 ((E + (nu + 16) : Nat) : Int))).drew ∧
        (RdI w base L B n at' sc d F S g.flushed W0.heap.size (.slice (some ⟨q3, 0, none⟩) bb.length k3) tv bb (bytesOf (pre ++ [((xk, .slice au nu cu, r) : Rc)])) (W3.setCell ⟨L, 6, none⟩ (.int .u64 ((E + (nu + 16) : Nat) : Int))).drew ∧ ∃ rest, recsP zs F = bytesOf (pre ++ [((xk, .slice au nu cu, r) : Rc)]) ++ rest) := by
      have hbo : bytesOf (pre ++ [((xk, .slice au nu cu, r) : Rc)]) = bytesOf pre ++ [r] := by simp [bytesOf]
      have hfin0 : (W3.setCell ⟨L, 6, none⟩ (.int .u64 ((E + (nu + 16) : Nat) : Int))).drew.heap = (W3.setCell ⟨L, 6, none⟩ (.int .u64 ((E + (nu + 16) : Nat) : Int))).heap := rfl
      obtain ⟨a1, k1⟩ := HLOG.out.store (g' := { first := F, recs := bytesOf pre ++ [r], start := S, stop := S + bulkOf (bytesOf pre ++ [r]), flushed := g.flushed, tail := [] }) 6 (.int .u64 ((E + (nu + 16) : Nat) : Int)) rfl rfl (fun _ _ => by rw [← hbul]; rfl) ⟨by have := HLOG.out.2.2.2.1.1; exact this, by dsimp only; omega, by rw [← hbul]; dsimp only; omega, hnum.2.2.2.1⟩
      have hdr : ∀ V : World, Below V.heap.size V V.drew := fun V => (Below.refl _ V).drew
      have neL : ∀ (k : Nat) (c : Array Value) (t : TypeId) (f : Nat × Nat), W3.heap[k]? = some (Obj.cells c t f) → t ≠ 50 → k ≠ L := fun k c t f hk ht e => by
        subst e
        rw [hh3] at hk
        injection hk with e1
        injection e1 with _ e2 _
        exact ht e2.symm
      have hset : ∀ (k : Nat) (c : Array Value) (t : TypeId) (f : Nat × Nat), W.heap[k]? = some (Obj.cells c t f) → t ≠ 32 → t ≠ 50 → (W3.setCell ⟨L, 6, none⟩ (.int .u64 ((E + (nu + 16) : Nat) : Int))).heap[k]? = W.heap[k]? := fun k c t f hk h1 h2 => by
        have h3 := hall k c t f hk h1 h2
        rw [Below.heap_setCell _ _ _ _ (neL k c t f (h3.trans hk) h2)]
        exact h3
      refine ⟨keepsFrom_of_drew (hko'.trans ((KeepsOthers.setCell W3 ⟨L, 6, none⟩ (.int .u64 ((E + (nu + 16) : Nat) : Int))).trans ?_)), ⟨?_, fun k c t f hlt hk => ?_, fun k c hk => ?_⟩, ⟨?_, ?_, ?_, ?_, ?_⟩, ?_⟩
      · exact ⟨Nat.le_refl _, fun k o hk _ => hk⟩
      · have := hko'.size; have := k1.size
        show W.heap.size ≤ (W3.setCell ⟨L, 6, none⟩ (.int .u64 ((E + (nu + 16) : Nat) : Int))).heap.size
        exact Nat.le_trans hko'.size k1.size
      · exact ((k1.below.block k hlt).trans (hkl'.below.block k hlt))
      · exact hset k _ _ _ hk (by decide) (by decide)
      · rw [hbo]; exact a1.below (hdr _)
      · have hk0 : Kl base w W.drew := hI.kl.trans (Kl.fresh (hdr W) (Nat.le_trans hbase hI.kl.size))
        have hk1 := hk0.trans (hkl'.trans k1)
        exact hk1.trans (Kl.fresh (hdr _) (Nat.le_trans hbase hk1.size))
      · exact (hset _ _ _ _ hI.box (by decide) (by decide)).trans hI.box
      · refine own_below (own_same hI.own fun k e => ?_) (hdr _)
        obtain ⟨c, hc⟩ := own_heap hI.own e
        exact hset k _ _ _ hc (by decide) (by decide)
      · have h1 := heap_setCell_same w' L 4 _ _ (.slice ao (N + 1) cap) (hL'.trans hh)
        rw [hW3] at h1
        have h2 := heap_setCell_same W3 L 6 _ _ (.int .u64 ((E + (nu + 16) : Nat) : Int)) h1
        have h3 := cell_of_row (W3.setCell ⟨L, 6, none⟩ (.int .u64 ((E + (nu + 16) : Nat) : Int))).drew L 8 _ _ _ h2
        rw [h3, htve]
        rfl
      · rw [hbo]
        exact ⟨rest2, by rw [hr2]; simp⟩
    have HFINAL := hid hfinal
    have HW3 := hid hW3
    clear hfinal hW3 hh hh3 hbul hE hNN hnu hrun hlog' hlogd hL' hI hN hNd hkl' hko' hall hkey hbx' hbx3 hbA hr2 hbk hln hx1 hx2 htve
    gi_wp2
    refine wpIn_region_plain2 (S := fun W' => W'.cell? ⟨w.heap.size, 0, none⟩ = some (.pointer (some ⟨L, 0, none⟩))) hmx (by kernel_rfl) S0.out (fun hHeld => ?_)
    refine wpAnyH_take (i := 0) (v := .pointer (some ⟨L, 0, none⟩)) rfl (by kernel_rfl) (by kernel_rfl) (by kernel_rfl) (fun _ _ _ h => h) (Or.inl ⟨by rfl, fun wx hS => by have hq := hS; clear hS; go_simp⟩) (by assumption) ?_
    simp only [List.getElem_toArray, List.getElem_cons_zero, Act.put, List.setIfInBounds_toArray, List.set_cons_zero, List.set_cons_succ]
    refine wpAnyH_take (i := 1) (v := .pointer (some ⟨L, 0, none⟩)) rfl (by kernel_rfl) (by kernel_rfl) (by kernel_rfl) (fun _ _ _ h => h) (Or.inl ⟨by rfl, fun wx hS => by have hq := hS; clear hS; go_simp⟩) (by assumption) ?_
    simp only [List.getElem_toArray, List.getElem_cons_succ, List.getElem_cons_zero, Act.put, List.setIfInBounds_toArray, List.set_cons_zero, List.set_cons_succ]
    refine wpAnyH_take (i := 2) (v := .pointer (some ⟨L, 0, none⟩)) rfl (by kernel_rfl) (by kernel_rfl) (by kernel_rfl) (fun _ _ _ h => h) (Or.inl ⟨by rfl, fun wx hS => by rfl⟩) (by assumption) ?_
    simp only [List.getElem_toArray, List.getElem_cons_succ, List.getElem_cons_zero, Act.put, List.setIfInBounds_toArray, List.set_cons_zero, List.set_cons_succ]
    refine wpAnyH_take (i := 3) (v := .pointer (some ⟨L, 4, none⟩)) rfl (by kernel_rfl) (by kernel_rfl) (by kernel_rfl) (fun _ _ _ h => h) (Or.inl ⟨by rfl, fun wx hS => by go_simp⟩) (by assumption) ?_
    simp only [List.getElem_toArray, List.getElem_cons_succ, List.getElem_cons_zero, Act.put, List.setIfInBounds_toArray, List.set_cons_zero, List.set_cons_succ]
    refine wpAnyH_take (i := 5) (v := .slice au nu cu) rfl (by kernel_rfl) (by kernel_rfl) (by kernel_rfl) (fun _ _ _ h => h) (Or.inl ⟨by rfl, fun wx hS => by rfl⟩) (by assumption) ?_
    simp only [List.getElem_toArray, List.getElem_cons_succ, List.getElem_cons_zero, Act.put, List.setIfInBounds_toArray, List.set_cons_zero, List.set_cons_succ]
    refine wpAnyH_ready (rs := [4, 6]) (by kernel_rfl) (by simp) ?_
    refine AllReadyH.cons rfl (fun K hK => ?_) ?_
    · dsimp only [List.getElem_toArray, List.getElem_cons_succ, List.getElem_cons_zero]
      refine step_run (v := .slice ra N rc) (w' := W.drew) rfl ?_ (hK.out _ _ S0.out (fun _ => ?_))
      · exact exec_load 48 (.tmp 55) rfl rfl (load_recs _ _ _ cR)
      clear hK K
      simp only [Act.put, List.setIfInBounds_toArray, List.set_cons_zero, List.set_cons_succ]
      refine wpAnyH_ready (rs := [6]) (by kernel_rfl) (by simp) ?_
      refine AllReadyH.cons rfl (fun K hK => ?_) AllReadyH.nil
      dsimp only [List.getElem_toArray, List.getElem_cons_succ, List.getElem_cons_zero]
      refine step_run (v := .slice (some ⟨W.drew.heap.size, 0, none⟩) 1 1) (w' := (W.drew.alloc (.cells #[.slice au nu cu] 32))) rfl ?_ (hK.out _ _ S1.out (fun _ => ?_))
      · exact exec_buildSlice 48 1 0 (.tmp 57) rfl rfl (build_rec _ _ _ _)
      clear hK K
      simp only [Act.put, List.setIfInBounds_toArray, List.set_cons_zero, List.set_cons_succ]
      refine wpAnyH_ready (rs := [7]) (by kernel_rfl) (by simp) ?_
      refine AllReadyH.cons rfl (fun K hK => ?_) AllReadyH.nil
      dsimp only [List.getElem_toArray, List.getElem_cons_succ, List.getElem_cons_zero]
      refine step_run (v := .slice ao (N + 1) cap) (w' := w') rfl ?_ (hK.out _ _ S2.out (fun _ => ?_))
      · exact exec_append (v := .slice ra N rc) (u := .slice (some ⟨W.drew.heap.size, 0, none⟩) 1 1) (.tmp 56) (.tmp 58) 48 rfl rfl rfl HRU.out
      clear hK K
      simp only [Act.put, List.setIfInBounds_toArray, List.set_cons_zero, List.set_cons_succ]
      refine wpAnyH_take (i := 8) (v := .pointer (some ⟨L, 0, none⟩)) rfl (by kernel_rfl) (by kernel_rfl) (by kernel_rfl) (fun _ _ _ h => h) (Or.inl ⟨by rfl, fun wx hS => by rfl⟩) (by assumption) ?_
      simp only [List.getElem_toArray, List.getElem_cons_succ, List.getElem_cons_zero, Act.put, List.setIfInBounds_toArray, List.set_cons_zero, List.set_cons_succ]
      refine wpAnyH_take (i := 9) (v := .pointer (some ⟨L, 4, none⟩)) rfl (by kernel_rfl) (by kernel_rfl) (by kernel_rfl) (fun _ _ _ h => h) (Or.inl ⟨by rfl, fun wx hS => by go_simp⟩) (by assumption) ?_
      simp only [List.getElem_toArray, List.getElem_cons_succ, List.getElem_cons_zero, Act.put, List.setIfInBounds_toArray, List.set_cons_zero, List.set_cons_succ]
      refine wpAnyH_ready (rs := [10]) (by kernel_rfl) (by simp) ?_
      refine AllReadyH.cons rfl (fun K hK => ?_) AllReadyH.nil
      go_simp
      refine hK.out _ _ S3.out (fun _ => ?_)
      clear hK K
      refine wpAnyH_done (by kernel_rfl) ?_ _
      rw [HW3.out]
      dsimp only [Np]
      gi_wp2
      gi_region_with_o (gi_at_call 23; refine (CallsIn.inRound l (callsIn_wide.2 (HLN.out _))).mono ?_; rintro e W5 ⟨rfl, hw5⟩; have hw5' := hw5.symm; clear hw5; subst hw5')
      all_goals
        gi_wp2
        rw [show ((E : Int) + ((nu : Int) + 16)) = ((E + (nu + 16) : Nat) : Int) by omega]
        exact HFINAL.out
    refine AllReadyH.cons rfl (fun K hK => ?_) AllReadyH.nil
    dsimp only [List.getElem_toArray, List.getElem_cons_succ, List.getElem_cons_zero]
    refine step_run (v := .slice (some ⟨W.drew.heap.size, 0, none⟩) 1 1) (w' := (W.drew.alloc (.cells #[.slice au nu cu] 32))) rfl ?_ (hK.out _ _ S1.out (fun _ => ?_))
    · exact exec_buildSlice 48 1 0 (.tmp 57) rfl rfl (build_rec _ _ _ _)
    clear hK K
    simp only [Act.put, List.setIfInBounds_toArray, List.set_cons_zero, List.set_cons_succ]
    refine wpAnyH_ready (rs := [4]) (by kernel_rfl) (by simp) ?_
    refine AllReadyH.cons rfl (fun K hK => ?_) AllReadyH.nil
    dsimp only [List.getElem_toArray, List.getElem_cons_succ, List.getElem_cons_zero]
    refine step_run (v := .slice ra N rc) (w' := (W.drew.alloc (.cells #[.slice au nu cu] 32))) rfl ?_ (hK.out _ _ S1.out (fun _ => ?_))
    · exact exec_load 48 (.tmp 55) rfl rfl (load_recs _ _ _ cRa)
    clear hK K
    simp only [Act.put, List.setIfInBounds_toArray, List.set_cons_zero, List.set_cons_succ]
    refine wpAnyH_ready (rs := [7]) (by kernel_rfl) (by simp) ?_
    refine AllReadyH.cons rfl (fun K hK => ?_) AllReadyH.nil
    dsimp only [List.getElem_toArray, List.getElem_cons_succ, List.getElem_cons_zero]
    refine step_run (v := .slice ao (N + 1) cap) (w' := w') rfl ?_ (hK.out _ _ S2.out (fun _ => ?_))
    · exact exec_append (v := .slice ra N rc) (u := .slice (some ⟨W.drew.heap.size, 0, none⟩) 1 1) (.tmp 56) (.tmp 58) 48 rfl rfl rfl HRU.out
    clear hK K
    simp only [Act.put, List.setIfInBounds_toArray, List.set_cons_zero, List.set_cons_succ]
    refine wpAnyH_take (i := 8) (v := .pointer (some ⟨L, 0, none⟩)) rfl (by kernel_rfl) (by kernel_rfl) (by kernel_rfl) (fun _ _ _ h => h) (Or.inl ⟨by rfl, fun wx hS => by rfl⟩) (by assumption) ?_
    simp only [List.getElem_toArray, List.getElem_cons_succ, List.getElem_cons_zero, Act.put, List.setIfInBounds_toArray, List.set_cons_zero, List.set_cons_succ]
    refine wpAnyH_take (i := 9) (v := .pointer (some ⟨L, 4, none⟩)) rfl (by kernel_rfl) (by kernel_rfl) (by kernel_rfl) (fun _ _ _ h => h) (Or.inl ⟨by rfl, fun wx hS => by go_simp⟩) (by assumption) ?_
    simp only [List.getElem_toArray, List.getElem_cons_succ, List.getElem_cons_zero, Act.put, List.setIfInBounds_toArray, List.set_cons_zero, List.set_cons_succ]
    refine wpAnyH_ready (rs := [10]) (by kernel_rfl) (by simp) ?_
    refine AllReadyH.cons rfl (fun K hK => ?_) AllReadyH.nil
    go_simp
    refine hK.out _ _ S3.out (fun _ => ?_)
    clear hK K
    refine wpAnyH_done (by kernel_rfl) ?_ _
    rw [HW3.out]
    dsimp only [Np]
    gi_wp2
    gi_region_with_o (gi_at_call 23; refine (CallsIn.inRound l (callsIn_wide.2 (HLN.out _))).mono ?_; rintro e W5 ⟨rfl, hw5⟩; have hw5' := hw5.symm; clear hw5; subst hw5')
    all_goals
      gi_wp2
      rw [show ((E : Int) + ((nu : Int) + 16)) = ((E + (nu + 16) : Nat) : Int) by omega]
      exact HFINAL.out
  case done =>
    rintro D xs W hD hS ⟨hI, _⟩ hK
    rw [hS] at hI
    obtain ⟨rs, hrs⟩ : ∃ rs, rs = recsP zs F := ⟨_, rfl⟩
    rw [← hrs] at hI
    have hbk : bulkOf rs ≤ zs.length := by rw [hrs]; exact recsP_bulk zs F
    have hln := bulk_len rs
    have HRS := hid hrs
    have hdr : Below W.heap.size W W.drew := (Below.refl _ W).drew
    have HNX := hid (lnext_any (hI.log.below hdr))
    dsimp only at HNX
    have hF1 : 1 ≤ F := by rw [HFF.out]; exact hf1
    obtain ⟨ra, rc, ta, tc, hh, _⟩ := hI.log.form
    dsimp only at hh
    have hrl : rs.length ≤ 1000000 := by omega
    obtain ⟨NX, hNX⟩ : ∃ NX, NX = F + rs.length := ⟨_, rfl⟩
    rw [← hNX] at HNX
    obtain ⟨NM, hNM⟩ : ∃ NM, NM = F + rs.length - 1 := ⟨_, rfl⟩
    have hNMb : NM ≤ 4800000000000000000 := by omega
    have hsub : IntKind.u64.wrap ((NX : Int) - 1) = (NM : Int) := by rw [PlainAid.u64_nonneg (by omega) (by omega)]; omega
    have HNM := hid hNM
    have hdl : ∀ k, k < D → True := fun _ _ => trivial
    have hgen : ∀ wx, Below W.heap.size W wx → wx.cell? ⟨w.heap.size, 0, none⟩ = some (.pointer (some ⟨L, 0, none⟩)) ∧ wx.cell? ⟨L, 7, none⟩ = some (.int .u64 g.flushed) ∧ wx.frozen? ⟨L, 7, none⟩ = false ∧
        (wx.setCell ⟨L, 7, none⟩ (.int .u64 (NM : Int))).cell? ⟨w.heap.size, 0, none⟩ = some (.pointer (some ⟨L, 0, none⟩)) ∧
        (LogIs (wx.setCell ⟨L, 7, none⟩ (.int .u64 (NM : Int))) base L B n at' sc d { first := F, recs := rs, start := S, stop := S + bulkOf rs, flushed := NM, tail := [] } ∧ Kl base w (wx.setCell ⟨L, 7, none⟩ (.int .u64 (NM : Int))) ∧
          (wx.setCell ⟨L, 7, none⟩ (.int .u64 (NM : Int))).heap[w.heap.size]? = some (.cells #[.pointer (some ⟨L, 0, none⟩)] 26 (0, 0)) ∧ (wx.setCell ⟨L, 7, none⟩ (.int .u64 (NM : Int))).ownsRow W0.heap.size 5 1 (.slice (some ⟨q3, 0, none⟩) bb.length k3) bb.length (bb.map (Value.int .u8)) ∧
          (wx.setCell ⟨L, 7, none⟩ (.int .u64 (NM : Int))).heap[D]? = some (.deferred (some []))) := fun wx hb => by
      have h1 := hI.log.below hb
      have hhx := (hb.block L (lt_of_heap hh)).trans hh
      have hbx := (hb.block _ (lt_of_heap hI.box)).trans hI.box
      obtain ⟨a1, k1⟩ := h1.store (g' := { first := F, recs := rs, start := S, stop := S + bulkOf rs, flushed := NM, tail := [] }) 7 (.int .u64 (NM : Int)) rfl rfl (fun _ _ => rfl) ⟨h1.2.2.2.1.1, h1.2.2.2.1.2.1, h1.2.2.2.1.2.2.1, by dsimp only; omega⟩
      have neb : w.heap.size ≠ L := fun e => by
        rw [e, hhx] at hbx
        injection hbx with e1
        injection e1 with _ e2 _
        exact absurd e2 (by decide)
      have hb2 : (wx.setCell ⟨L, 7, none⟩ (.int .u64 (NM : Int))).heap[w.heap.size]? = some (.cells #[.pointer (some ⟨L, 0, none⟩)] 26 (0, 0)) := (Below.heap_setCell _ _ _ _ (by show w.heap.size ≠ L; exact neb)).trans hbx
      refine ⟨cell_of_row wx _ 0 _ _ _ hbx, (log_cells hhx).2.2.2.2.2.2.2.1, (log_frozen hhx).2.2.2.2.1, cell_of_row _ _ 0 _ _ _ hb2, a1, ?_, hb2, ?_, ?_⟩
      · exact (hI.kl.trans (Kl.fresh hb (Nat.le_trans hbase hI.kl.size))).trans k1
      · refine own_same (own_below hI.own hb) fun k e => ?_
        obtain ⟨c, hc⟩ := own_heap (own_below hI.own hb) e
        refine Below.heap_setCell _ _ _ _ (fun e' => ?_)
        have e'' : k = L := e'
        rw [e'', hhx] at hc
        injection hc with e1
        injection e1 with _ e2 _
        exact absurd e2 (by decide)
      · have hKx := (hb.block D (lt_of_heap hK)).trans hK
        refine (Below.heap_setCell _ _ _ _ (fun e' => ?_)).trans hKx
        have e'' : D = L := e'
        rw [e'', hhx] at hKx
        cases hKx
    have HGEN := hid hgen
    have HBK := hid (And.intro hbk hln)
    obtain ⟨bx, _⟩ := hgen W.drew hdr
    clear hS hrs hgen hh hI hK hdl hbk hln hNX hNM
    go_upto_region 12 with fail
    go_cut [71] from 72 to 76 (fun _ wx => LogIs wx base L B n at' sc d { first := F, recs := rs, start := S, stop := S + bulkOf rs, flushed := NM, tail := [] } ∧ Kl base w wx ∧ wx.heap[w.heap.size]? = some (.cells #[.pointer (some ⟨L, 0, none⟩)] 26 (0, 0)) ∧ wx.ownsRow W0.heap.size 5 1 (.slice (some ⟨q3, 0, none⟩) bb.length k3) bb.length (bb.map (Value.int .u8)) ∧ wx.heap[D]? = some (.deferred (some [])))
    case first =>
      refine wp_region_noPanic ?_
      go_region_held (fun w' => w'.cell? ⟨w.heap.size, 0, none⟩ = some (.pointer (some ⟨L, 0, none⟩))) (first | exact bx | exact bx5 | exact bx6) (first
        | (go_at_call 13; refine HNX.out.mono ?_; rintro e w5 ⟨rfl, q, hw5⟩; clear HNX; have hb5 : Below W.heap.size W w5 := (by rw [hw5]; exact below_drewN (Below.refl _ W).drew q); obtain ⟨bx5, c75, f75, bx6, hfin5⟩ := HGEN.out w5 hb5; have HF5 := hid hfin5; clear hw5 hb5 hfin5))
      all_goals
        refine NoPanic.normal ?_
        go_wp2
        go_meet
        exact HF5.out
    case rest =>
    obtain ⟨hl9, hk9, hx9, hown9, hK9⟩ := hcut
    obtain ⟨ra9, rc9, ta9, tc9, hh9, _⟩ := hl9.form
    dsimp only at hh9
    obtain ⟨p0, p1, p2, p3, p4, p5, p6, p7, p8⟩ := log_cells hh9
    have px := cell_of_row wc w.heap.size 0 _ _ _ hx9
    simp only [List.getElem?_toArray, List.getElem?_cons_zero] at px
    obtain ⟨BK, hBK⟩ : ∃ BK, BK = bulkOf rs := ⟨_, rfl⟩
    have hBKb : BK ≤ zs.length := by rw [hBK]; exact HBK.out.1
    have hzle : zs.length + K ≤ bb.length := by rw [HZS.out, List.length_drop, List.length_take]; omega
    obtain ⟨E9, hE9⟩ : ∃ E9, E9 = S + bulkOf rs := ⟨_, rfl⟩
    rw [← hE9] at p6
    have hSb : S ≤ 4700000000000000000 := by rw [HSS.out]; exact hf3
    have hsub9 : IntKind.u64.wrap ((E9 : Int) - (S : Int)) = (BK : Int) := by rw [PlainAid.u64_nonneg (by omega) (by omega)]; omega
    obtain ⟨EE, hEE⟩ : ∃ EE, EE = K + BK := ⟨_, rfl⟩
    have hwEE : IntKind.i64.wrap ((K : Int) + (BK : Int)) = (EE : Int) := by rw [IntKind.wrap_i64]; omega
    have hEEb : EE ≤ bb.length := by omega
    obtain ⟨q, hq⟩ : ∃ q, q = EE / 48 := ⟨_, rfl⟩
    obtain ⟨lo, hlo⟩ : ∃ lo, lo = EE / 48 * 48 := ⟨_, rfl⟩
    have hloE : lo ≤ EE := by omega
    have hq1 : (EE : Int).tdiv 48 = (q : Int) := by rw [Int.tdiv_eq_ediv_of_nonneg (by omega)]; omega
    have hq2 : (EE : Int) / 48 = (q : Int) := by omega
    have hq3 : IntKind.i64.wrap ((q : Int) * 48) = (lo : Int) := by rw [IntKind.wrap_i64]; omega
    have hwq : IntKind.i64.wrap (q : Int) = (q : Int) := by rw [IntKind.wrap_i64]; omega
    have hq4 : (q : Int) * 48 = (lo : Int) := by omega
    have hwlo : IntKind.i64.wrap (lo : Int) = (lo : Int) := by rw [IntKind.wrap_i64]; omega
    have hq0 : q ≤ 100000 ∧ lo ≤ 3000000 := by omega
    have hnb9 : NewBs W0.heap.size wc (.slice (some ⟨q3, 0, none⟩) bb.length k3) bb := newBs_own hown9 hbby (by omega)
    have HL9 := hid hl9
    have HK9 := hid (And.intro hk9 (And.intro hx9 hK9))
    have HNB9 := hid hnb9
    have HEE := hid (And.intro hBK (And.intro hEE hlo))
    have H99 := hid hh9
    clear hl9 hk9 hx9 hown9 hK9 hh9 hnb9 hBK hE9 hEE hlo hq p0 p1 p2 p3 p4 p7 p8
    go_upto_region 13 with fail
    go_quiet (fail)
    obtain ⟨wq, hwq⟩ : ∃ wq, wc.drewN nq = wq := ⟨_, rfl⟩
    have hbq : Below wc.heap.size wc wq := by rw [← hwq]; exact below_drewN (Below.refl _ wc) nq
    rw [hwq]
    clear hwq
    obtain ⟨TL, hTL⟩ : ∃ TL, TL = (bb.take EE).drop lo := ⟨_, rfl⟩
    have hTLl : TL.length = EE - lo := by rw [hTL, List.length_drop, List.length_take]; omega
    have hTLb : By TL := by rw [hTL]; exact (hbby.take _).drop _
    have hbqd : Below wc.heap.size wc wq.drew := hbq.drew
    have hgen10 : ∀ (w10 : World) (v10 : Value), Below wq.drew.heap.size wq.drew w10 → w10.ownsRow wq.drew.heap.size 5 1 v10 TL.length (TL.map (Value.int .u8)) → w10.cell? ⟨w.heap.size, 0, none⟩ = some (.pointer (some ⟨L, 0, none⟩)) ∧ w10.cell? ⟨L, 8, none⟩ = some (.slice ta9 0 tc9) ∧ w10.frozen? ⟨L, 8, none⟩ = false ∧
        (w10.setCell ⟨L, 8, none⟩ v10).cell? ⟨w.heap.size, 0, none⟩ = some (.pointer (some ⟨L, 0, none⟩)) ∧
        (LogIs (w10.setCell ⟨L, 8, none⟩ v10) base L B n at' sc d { first := F, recs := rs, start := S, stop := S + bulkOf rs, flushed := NM, tail := TL } ∧ Kl base w (w10.setCell ⟨L, 8, none⟩ v10) ∧ (w10.setCell ⟨L, 8, none⟩ v10).heap[D]? = some (.deferred (some []))) := fun w10 v10 hb hown => by
      have hll := HL9.out.below hbqd
      obtain ⟨a1, k1⟩ := hll.retail hb hown hTLb (by omega)
      have hb2 : Below wc.heap.size wc w10 := hbqd.trans (hb.mono hbqd.size)
      have hhx := (hb2.block L (lt_of_heap H99.out)).trans H99.out
      have hbx := (hb2.block _ (lt_of_heap HK9.out.2.1)).trans HK9.out.2.1
      have neb : w.heap.size ≠ L := fun e => by
        rw [e, hhx] at hbx
        injection hbx with e1
        injection e1 with _ e2 _
        exact absurd e2 (by decide)
      have hb3 := (Below.heap_setCell w10 ⟨L, 8, none⟩ v10 _ (by show w.heap.size ≠ L; exact neb)).trans hbx
      refine ⟨cell_of_row w10 _ 0 _ _ _ hbx, (log_cells hhx).2.2.2.2.2.2.2.2, (log_frozen hhx).2.2.2.2.2, cell_of_row _ _ 0 _ _ _ hb3, a1, ?_, ?_⟩
      · exact HK9.out.1.trans ((Kl.fresh hbqd (Nat.le_trans hbase HK9.out.1.size)).trans k1)
      · have hKx := (hb2.block D (lt_of_heap HK9.out.2.2)).trans HK9.out.2.2
        refine (Below.heap_setCell _ _ _ _ (fun e' => ?_)).trans hKx
        have e'' : D = L := e'
        rw [e'', hhx] at hKx
        cases hKx
    have HGEN10 := hid hgen10
    have bxq := cell_of_row wq.drew w.heap.size 0 _ _ _ ((hbqd.block _ (lt_of_heap HK9.out.2.1)).trans HK9.out.2.1)
    simp only [List.getElem?_toArray, List.getElem?_cons_zero] at bxq
    have HTL := hid (And.intro hTL hTLl)
    have hHk : (EE : Int) ≤ (k3 : Int) := by omega
    have hKH : (lo : Int) ≤ (EE : Int) := by omega
    have HNQ := hid (HNB9.out.below hbqd)
    clear hgen10 hTL hTLl hTLb px p5 p6
    go_upto_region 14 with fail
    go_cut [89] from 90 to 98 (fun _ wx => LogIs wx base L B n at' sc d { first := F, recs := rs, start := S, stop := S + bulkOf rs, flushed := NM, tail := TL } ∧ Kl base w wx ∧ wx.heap[D]? = some (.deferred (some [])))
    case first =>
      refine wp_region_noPanic ?_
      by_cases hkc : k3 = lo
      · have hcutv : Bs wq.drew (.slice (some ⟨q3, 0, none⟩) (EE - lo) (k3 - lo)) TL := by
          have h0 : TL = [] := List.eq_nil_of_length_eq_zero (by have := HTL.out.2; omega)
          rw [h0, show EE - lo = 0 by omega]
          exact ⟨fun j => by simp, by simp, .inl ⟨_, _, rfl, rfl, fun e => (by cases e)⟩⟩
        have HCL := hid (bs_clone_own hcutv (by have := HTL.out.2; omega))
        have hkT : (k3 = lo) = True := eq_true hkc
        clear hcutv hkc
        go_region_held (fun w' => w'.cell? ⟨w.heap.size, 0, none⟩ = some (.pointer (some ⟨L, 0, none⟩))) (first | exact bxq | exact bx10 | exact bx11) (first
          | (go_at_call 22; refine HCL.out.mono ?_; rintro e w10 ⟨v10, rfl, hown10, hb10⟩; clear HCL; obtain ⟨a10, c10, rfl⟩ := slice_form hown10; obtain ⟨bx10, c810, f810, bx11, hfin10⟩ := HGEN10.out w10 _ hb10 hown10; have HF10 := hid hfin10; clear hown10 hb10 hfin10))
        all_goals
          refine NoPanic.normal ?_
          go_wp2
          go_meet
          exact HF10.out
      · have hcutv := HNQ.out.cut (lo := lo) (hi := EE) (by omega) (by omega) (by omega)
        rw [← HTL.out.1, Nat.zero_add] at hcutv
        have HCL := hid (bs_clone_own hcutv.1 (by have := HTL.out.2; omega))
        have hkF : (k3 = lo) = False := eq_false hkc
        clear hcutv hkc
        go_region_held (fun w' => w'.cell? ⟨w.heap.size, 0, none⟩ = some (.pointer (some ⟨L, 0, none⟩))) (first | exact bxq | exact bx10 | exact bx11) (first
          | (go_at_call 22; refine HCL.out.mono ?_; rintro e w10 ⟨v10, rfl, hown10, hb10⟩; clear HCL; obtain ⟨a10, c10, rfl⟩ := slice_form hown10; obtain ⟨bx10, c810, f810, bx11, hfin10⟩ := HGEN10.out w10 _ hb10 hown10; have HF10 := hid hfin10; clear hown10 hb10 hfin10))
        all_goals
          refine NoPanic.normal ?_
          go_wp2
          go_meet
          exact HF10.out
    case rest =>
    obtain ⟨hl11, hk11, hK11⟩ := hcut
    have HL11 := hid hl11
    clear hl11
    go_wp2
    have hrow : ∀ r, some D = some r → ∃ o : Obj, wc.heap[r]? = some o ∧ o.isCells = false := fun r e => by cases e; exact ⟨_, hK11, rfl⟩
    refine ⟨by simp, .inl ⟨_, _, rfl, run_takeDeferred hK11, ?_⟩⟩
    have hend := HL11.out.cells (w' := wc.putObj D (.deferred none)) (turn_cells (grownBy_putObj' _ D (.deferred none)) hrow)
    have hkend := hk11.turn hbase (grownBy_putObj' wc D (.deferred none)) (fun r e => by cases e; omega)
    have hG : readG d.now at' sc g.first g.start = { first := F, recs := rs, start := S, stop := S + bulkOf rs, flushed := NM, tail := TL } := by
      have ez : strmZ d.now at' sc g.start = zs := by rw [HZS.out, HH.out, strmZ, ← HBE.out, ← HKK.out, HZZ.out]
      have er : recsP (strmZ d.now at' sc g.start) (g.first : Int) = rs := by rw [ez, HRS.out, HFF.out]
      show ({ first := g.first, recs := recsP (strmZ d.now at' sc g.start) (g.first : Int), start := g.start, stop := g.start + bulkOf (recsP (strmZ d.now at' sc g.start) (g.first : Int)), flushed := g.first + (recsP (strmZ d.now at' sc g.start) (g.first : Int)).length - 1, tail := ((strmB d.now at' sc g.start).take (g.start % 48 + bulkOf (recsP (strmZ d.now at' sc g.start) (g.first : Int)))).drop ((g.start % 48 + bulkOf (recsP (strmZ d.now at' sc g.start) (g.first : Int))) / 48 * 48) } : Lg) = _
      rw [er, ← HBE.out, ← HKK.out, ← HFF.out, ← HSS.out, HTL.out.1, HEE.out.2.2, HEE.out.2.1, HEE.out.1, HNM.out]
    rw [hG]
    exact ⟨.int .i64 0, by simp [results, Tryd.f17, go_sem], rfl, hend, hkend⟩
theorem readRecs_any {w : World} {base L B n at' sc : Nat} {d : Dk} {g : Lg} (h : LogIs w base L B n at' sc d g) (hl : d.left ≠ 0) (ht : TabOk w) (hg : 0 < base) (hr0 : g.recs = []) (ht0 : g.tail = []) (hf1 : 1 ≤ g.first) (hf2 : g.first ≤ 4700000000000000000) (hf3 : g.start ≤ 4700000000000000000) :
    Calls Tryd.prog 17 #[.pointer (some ⟨L, 0, none⟩)] w fun e w' => e = .returned (.int .i64 0) ∧ LogIs w' base L B n at' sc d (readG d.now at' sc g.first g.start) ∧ Kl base w w' := callsIn_wide.1 (readRecs_in h hl ht hg hr0 ht0 hf1 hf2 hf3)
end Go.Proofs.YthhlbhnogcfnjaaDoor
