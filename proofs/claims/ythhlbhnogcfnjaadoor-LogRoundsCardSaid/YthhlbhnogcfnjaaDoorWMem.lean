/-
  Layer 4 in memory: a Log behind its pointer; what its small calls give.
-/
import Derived.Test.YthhlbhnogcfnjaaDoorCComm
import Derived.Test.YthhlbhnogcfnjaaDoorWRange
namespace Go.Proofs.YthhlbhnogcfnjaaDoor
open Go.RowKit Go.Shelf

/-- A Log as plain data. -/
structure Lg where
  first : Nat
  recs : List (List Int)
  start : Nat
  stop : Nat
  flushed : Nat
  tail : List Int

def logT (t : TypeId) : Prop := diskT t ∨ t = 50 ∨ t = 5 ∨ t = 32

theorem Bs.same {w w' : World} {v : Value} {zs : List Int} (h : Bs w v zs) (hk : ∀ b, v.ownBlock = some b → w'.heap[b]? = w.heap[b]?) : Bs w' v zs := by
  refine ⟨h.1, h.2.1, ?_⟩
  rcases h.2.2 with h0 | ⟨b, off, cap, rfl, hc, hcell⟩
  · exact .inl h0
  · refine .inr ⟨b, off, cap, rfl, hc, fun j hj => ?_⟩
    rw [← hcell j hj]
    have := hk b rfl
    simp only [World.cell?, this]

/-- A row of the call's own that holds slices of bytes, none of them in the block that 'tb' names. -/
def RecRow (W : World) (base : Nat) (v : Value) (rs : List (List Int)) (tb : Option Nat) : Prop :=
  ∃ us : List Value, us.length = rs.length ∧ W.ownsRow base 32 1 v rs.length us ∧ ∀ (k : Nat) (r : List Int) (u : Value), rs[k]? = some r → us[k]? = some u → Bs W u r ∧ ∀ b, u.ownBlock = some b → base ≤ b ∧ tb ≠ some b ∧ ∃ c, W.heap[b]? = some (.cells c 5 (0, 0))

/-- The Log behind the pointer to block L, on the disk behind block B. -/
def LogIs (w : World) (base L B n at' sc : Nat) (d : Dk) (g : Lg) : Prop :=
  DiskIs w base B n d ∧ base ≤ L ∧ (16 ≤ sc ∧ sc ≤ 32768 ∧ at' + sc ≤ n) ∧ (g.first + g.recs.length ≤ 5000000000000000000 ∧ g.start ≤ 5000000000000000000 ∧ g.stop ≤ 5000000000000000000 ∧ g.flushed ≤ 5000000000000000000 ∧ g.recs.length ≤ 1000000 ∧ g.tail.length ≤ 2000000) ∧ By g.tail ∧
  ∃ rv tv, w.heap[L]? = some (.cells #[.pointer (some ⟨B, 0, none⟩), .int .i64 at', .int .i64 sc, .int .u64 g.first, rv, .int .u64 g.start, .int .u64 g.stop, .int .u64 g.flushed, tv] 50 (0, 0)) ∧
    w.ownsRow base 5 1 tv g.tail.length (secV g.tail) ∧ RecRow w base rv g.recs tv.ownBlock

theorem RecRow.keep {w w' : World} {base : Nat} {v : Value} {rs : List (List Int)} {tb : Option Nat} (h : RecRow w base v rs tb) (hk : ∀ (k : Nat) c t, w.heap[k]? = some (Obj.cells c t (0, 0)) → t = 5 ∨ t = 32 → tb ≠ some k → w'.heap[k]? = w.heap[k]?) (htb : tb ≠ v.ownBlock ∨ tb = none) : RecRow w' base v rs tb := by
  obtain ⟨us, h1, h2, h3⟩ := h
  refine ⟨us, h1, own_same h2 fun k hk' => ?_, fun k r u hr hu => ?_⟩
  · obtain ⟨c, hc⟩ := own_heap h2 hk'
    refine hk k _ _ hc (.inr rfl) ?_
    rcases htb with h | h
    · rw [← hk']; exact h
    · rw [h]; exact fun e => by cases e
  · obtain ⟨hb, hx⟩ := h3 k r u hr hu
    refine ⟨hb.same fun b e => ?_, fun b e => ?_⟩
    · obtain ⟨h4, h6, c, h7⟩ := hx b e
      exact hk b _ _ h7 (.inl rfl) h6
    · obtain ⟨h4, h6, c, h7⟩ := hx b e
      exact ⟨h4, h6, c, (hk b _ _ h7 (.inl rfl) h6).trans h7⟩
theorem RecRow.all {w w' : World} {base : Nat} {v : Value} {rs : List (List Int)} {tb : Option Nat} (h : RecRow w base v rs tb) (hk : ∀ (k : Nat) c t, w.heap[k]? = some (Obj.cells c t (0, 0)) → t = 5 ∨ t = 32 → w'.heap[k]? = w.heap[k]?) : RecRow w' base v rs tb := by
  obtain ⟨us, h1, h2, h3⟩ := h
  refine ⟨us, h1, own_same h2 fun k hk' => ?_, fun k r u hr hu => ?_⟩
  · obtain ⟨c, hc⟩ := own_heap h2 hk'
    exact hk k _ _ hc (.inr rfl)
  · obtain ⟨hb, hx⟩ := h3 k r u hr hu
    refine ⟨hb.same fun b e => ?_, fun b e => ?_⟩
    · obtain ⟨h4, h6, c, h7⟩ := hx b e
      exact hk b _ _ h7 (.inl rfl)
    · obtain ⟨h4, h6, c, h7⟩ := hx b e
      exact ⟨h4, h6, c, (hk b _ _ h7 (.inl rfl)).trans h7⟩
theorem RecRow.below {w w' : World} {base : Nat} {v : Value} {rs : List (List Int)} {tb : Option Nat} (h : RecRow w base v rs tb) (hb : Below w.heap.size w w') : RecRow w' base v rs tb := h.all fun k _ _ hk _ => hb.block k (lt_of_heap hk)
theorem LogIs.below {w w' : World} {base L B n at' sc : Nat} {d : Dk} {g : Lg} (h : LogIs w base L B n at' sc d g) (hb : Below w.heap.size w w') : LogIs w' base L B n at' sc d g := by
  obtain ⟨hd, hL, hs, hn, hby, rv, tv, hh, ht, hr⟩ := h
  exact ⟨hd.below hb, hL, hs, hn, hby, rv, tv, (hb.block L (lt_of_heap hh)).trans hh, own_below ht hb, hr.below hb⟩
theorem LogIs.lt {w : World} {base L B n at' sc : Nat} {d : Dk} {g : Lg} (h : LogIs w base L B n at' sc d g) : L < w.heap.size := by
  obtain ⟨hd, hL, hs, hn, hby, rv, tv, hh, _⟩ := h
  exact lt_of_heap hh
theorem LogIs.form {w : World} {base L B n at' sc : Nat} {d : Dk} {g : Lg} (h : LogIs w base L B n at' sc d g) : ∃ ra rc ta tc, w.heap[L]? = some (.cells #[.pointer (some ⟨B, 0, none⟩), .int .i64 at', .int .i64 sc, .int .u64 g.first, .slice ra g.recs.length rc, .int .u64 g.start, .int .u64 g.stop, .int .u64 g.flushed, .slice ta g.tail.length tc] 50 (0, 0)) ∧
    w.ownsRow base 5 1 (.slice ta g.tail.length tc) g.tail.length (secV g.tail) ∧ RecRow w base (.slice ra g.recs.length rc) g.recs (Value.ownBlock (.slice ta g.tail.length tc)) := by
  obtain ⟨hd, hL, hs, hn, hby, rv, tv, hh, ht, hr⟩ := h
  have f1 : ∃ ta tc, tv = .slice ta g.tail.length tc := by
    rcases ht.2 with ⟨rfl, h0⟩ | ⟨q, cap, cur, rfl, _⟩
    · exact ⟨none, 0, by rw [h0]⟩
    · exact ⟨_, cap, rfl⟩
  have f2 : ∃ ra rc, rv = .slice ra g.recs.length rc := by
    obtain ⟨us, _, h2, _⟩ := hr
    rcases h2.2 with ⟨rfl, h0⟩ | ⟨q, cap, cur, rfl, _⟩
    · exact ⟨none, 0, by rw [h0]⟩
    · exact ⟨_, cap, rfl⟩
  obtain ⟨ta, tc, rfl⟩ := f1
  obtain ⟨ra, rc, rfl⟩ := f2
  exact ⟨ra, rc, ta, tc, hh, ht, hr⟩
/-- The cells of a Log's struct. -/
theorem log_cells {w : World} {L : Nat} {x0 x1 x2 x3 x4 x5 x6 x7 x8 : Value} {t : TypeId} (hh : w.heap[L]? = some (.cells #[x0, x1, x2, x3, x4, x5, x6, x7, x8] t (0, 0))) :
    w.cell? ⟨L, 0, none⟩ = some x0 ∧ w.cell? ⟨L, 1, none⟩ = some x1 ∧ w.cell? ⟨L, 2, none⟩ = some x2 ∧ w.cell? ⟨L, 3, none⟩ = some x3 ∧ w.cell? ⟨L, 4, none⟩ = some x4 ∧ w.cell? ⟨L, 5, none⟩ = some x5 ∧ w.cell? ⟨L, 6, none⟩ = some x6 ∧ w.cell? ⟨L, 7, none⟩ = some x7 ∧ w.cell? ⟨L, 8, none⟩ = some x8 :=
  ⟨cell_of_row w L 0 _ _ _ hh, cell_of_row w L 1 _ _ _ hh, cell_of_row w L 2 _ _ _ hh, cell_of_row w L 3 _ _ _ hh, cell_of_row w L 4 _ _ _ hh, cell_of_row w L 5 _ _ _ hh, cell_of_row w L 6 _ _ _ hh, cell_of_row w L 7 _ _ _ hh, cell_of_row w L 8 _ _ _ hh⟩
theorem log_frozen {w : World} {L : Nat} {c : Array Value} {t : TypeId} (hh : w.heap[L]? = some (.cells c t (0, 0))) : w.frozen? ⟨L, 3, none⟩ = false ∧ w.frozen? ⟨L, 4, none⟩ = false ∧ w.frozen? ⟨L, 5, none⟩ = false ∧ w.frozen? ⟨L, 6, none⟩ = false ∧ w.frozen? ⟨L, 7, none⟩ = false ∧ w.frozen? ⟨L, 8, none⟩ = false :=
  ⟨frozen_of_row w L 3 _ _ hh, frozen_of_row w L 4 _ _ hh, frozen_of_row w L 5 _ _ hh, frozen_of_row w L 6 _ _ hh, frozen_of_row w L 7 _ _ hh, frozen_of_row w L 8 _ _ hh⟩

/-- What a call on a Log from 'base' on leaves as it was. -/
structure Kl (base : Nat) (w w' : World) : Prop where
  below : Below base w w'
  keep : ∀ (k : Nat) (c : Array Value) (t : TypeId) (f : Nat × Nat), w.heap[k]? = some (Obj.cells c t f) → ¬ logT t → w'.heap[k]? = w.heap[k]?
  others : ∀ (k : Nat) (o : Obj), w.heap[k]? = some o → (∀ c t f, o ≠ .cells c t f) → w'.heap[k]? = some o
theorem Kl.refl (base : Nat) (w : World) : Kl base w w := ⟨Below.refl _ _, fun _ _ _ _ _ _ => rfl, fun _ _ h _ => h⟩
theorem Kl.trans {base : Nat} {a b c : World} (h : Kl base a b) (k : Kl base b c) : Kl base a c :=
  ⟨h.below.trans k.below, fun i x t f hx ht => by
    have e := h.keep i x t f hx ht
    exact (k.keep i x t f (e.trans hx) ht).trans e, fun i o hi ho => k.others i o (h.others i o hi ho) ho⟩
theorem Kl.mono {b1 b2 : Nat} {w w' : World} (h : Kl b1 w w') (hb : b2 ≤ b1) : Kl b2 w w' := ⟨h.below.mono hb, h.keep, h.others⟩
theorem Kl.fresh {base : Nat} {w w' : World} (h : Below w.heap.size w w') (hb : base ≤ w.heap.size) : Kl base w w' :=
  ⟨h.mono hb, fun k _ _ _ hk _ => h.block k (lt_of_heap hk), fun k _ hk _ => (h.block k (lt_of_heap hk)).trans hk⟩
theorem Kl.of_kd {base : Nat} {w w' : World} (h : Kd base w w') : Kl base w w' :=
  ⟨h.below, fun k c t f hk ht => h.keep k c t f hk (fun e => ht (.inl (.inl e))) (fun e => ht (.inl (.inr (.inl e)))) (fun e => ht (.inl (.inr (.inr e)))), h.others⟩
theorem Kl.size {base : Nat} {w w' : World} (h : Kl base w w') : w.heap.size ≤ w'.heap.size := h.below.size
/-- A step that turns one row of a Log's. -/
theorem Kl.row {base : Nat} {w w' : World} {r : Option Nat} (hg : w.grownBy w' r) (hs : base ≤ w.heap.size) (hr : ∀ k, r = some k → base ≤ k ∧ ∃ c t f, w.heap[k]? = some (.cells c t f) ∧ logT t) : Kl base w w' := by
  refine ⟨(Below.refl base w).grown hg hs (fun k e => (hr k e).1), fun k c t f hk ht => hg.block k (lt_of_heap hk) (fun e => ?_), fun k o hk ho => (hg.block k (lt_of_heap hk) (fun e => ?_)).trans hk⟩
  · obtain ⟨_, c', t', f', h', ht'⟩ := hr k e.symm
    rw [hk] at h'
    injection h' with e'
    injection e' with _ e' _
    exact ht (e' ▸ ht')
  · obtain ⟨_, c', t', f', h', _⟩ := hr k e.symm
    rw [hk] at h'
    injection h' with e'
    exact ho _ _ _ e'

theorem nd_log : ¬ diskT 50 := by unfold diskT; decide
/-- A call on the disk leaves the Log's own memory alone. -/
theorem LogIs.kd {w w' : World} {base b2 L B n at' sc : Nat} {d d' : Dk} {g : Lg} (h : LogIs w base L B n at' sc d g) (hd : DiskIs w' base B n d') (hk : Kd b2 w w') : LogIs w' base L B n at' sc d' g := by
  obtain ⟨_, hL, hs, hn, hby, rv, tv, hh, ht, hr⟩ := h
  refine ⟨hd, hL, hs, hn, hby, rv, tv, hk.keep' hh nd_log, own_same ht fun k e => ?_, hr.all fun k c t hc h2 => ?_⟩
  · obtain ⟨c, hc⟩ := own_heap ht e
    exact hk.keep k _ _ _ hc (by decide) (by decide) (by decide)
  · rcases h2 with rfl | rfl
    · exact hk.keep k _ _ _ hc (by decide) (by decide) (by decide)
    · exact hk.keep k _ _ _ hc (by decide) (by decide) (by decide)
/-- A store into the Log's struct that leaves its two slices. -/
theorem LogIs.store {w : World} {base L B n at' sc : Nat} {d : Dk} {g g' : Lg} (h : LogIs w base L B n at' sc d g) (i : Nat) (u : Value) (hr : g'.recs = g.recs) (ht : g'.tail = g.tail)
    (hc : ∀ rv tv, (#[.pointer (some ⟨B, 0, none⟩), .int .i64 at', .int .i64 sc, .int .u64 g.first, rv, .int .u64 g.start, .int .u64 g.stop, .int .u64 g.flushed, tv] : Array Value).setIfInBounds i u = #[.pointer (some ⟨B, 0, none⟩), .int .i64 at', .int .i64 sc, .int .u64 g'.first, rv, .int .u64 g'.start, .int .u64 g'.stop, .int .u64 g'.flushed, tv])
    (hn' : g'.first + g'.recs.length ≤ 5000000000000000000 ∧ g'.start ≤ 5000000000000000000 ∧ g'.stop ≤ 5000000000000000000 ∧ g'.flushed ≤ 5000000000000000000) :
    LogIs (w.setCell ⟨L, i, none⟩ u) base L B n at' sc d g' ∧ Kl base w (w.setCell ⟨L, i, none⟩ u) := by
  obtain ⟨hd, hL, hs, hn, hby, rv, tv, hh, ht', hr'⟩ := h
  have hg := grown_setCell w L i u
  have far : ∀ k c t f, w.heap[k]? = some (Obj.cells c t f) → t ≠ 50 → (w.setCell ⟨L, i, none⟩ u).heap[k]? = w.heap[k]? := fun k c t f hk hne => hg.block k (lt_of_heap hk) (fun e => by
    injection e with e
    subst e
    rw [hh] at hk
    injection hk with e
    injection e with _ e _
    exact hne e.symm)
  refine ⟨⟨hd.same fun k c t f hk hd' => far k c t f hk (fun e => nd_log (e ▸ hd')), hL, hs, ⟨hn'.1, hn'.2.1, hn'.2.2.1, hn'.2.2.2, by rw [hr]; exact hn.2.2.2.2.1, by rw [ht]; exact hn.2.2.2.2.2⟩, by rw [ht]; exact hby, rv, tv, ?_, ?_, ?_⟩, Kl.row hg (by have := lt_of_heap hh; omega) (fun k e => by
    injection e with e
    subst e
    exact ⟨hL, _, _, _, hh, .inr (.inl rfl)⟩)⟩
  · rw [heap_setCell_same w L i _ _ _ hh, ← hc rv tv]
  · rw [ht]
    refine own_same ht' fun k e => ?_
    obtain ⟨c, hc'⟩ := own_heap ht' e
    exact far k _ _ _ hc' (by decide)
  · rw [hr]
    refine hr'.all fun k c t hc' h2 => far k _ _ _ hc' ?_
    rcases h2 with rfl | rfl <;> decide

theorem wrap_u64 {k : Nat} (h : k ≤ 18446744073709551615) : IntKind.u64.wrap (k : Int) = k := PlainAid.u64_nonneg (by omega) (by omega)

theorem lengthOf_any (ao : Option Addr) (n cap : Nat) (w : World) (hn : n ≤ 140737488355328) :
    Calls Tryd.prog 23 #[.slice ao n cap] w fun e w' => e = .returned (.int .u64 ((n + 16 : Nat) : Int)) ∧ w' = w := by
  go_enter Tryd.func23, Tryd.ntmps23
  go_wp2
  go_ret
  exact ⟨by go_num, rfl⟩
theorem lring_any {w : World} {base L B n at' sc : Nat} {d : Dk} {g : Lg} (h : LogIs w base L B n at' sc d g) :
    Calls Tryd.prog 51 #[.pointer (some ⟨L, 0, none⟩)] w fun e w' => e = .returned (.int .i64 ((sc - 1 : Nat) : Int)) ∧ w' = w := by
  obtain ⟨ra, rc, ta, tc, hh, _⟩ := h.form
  have hb := h.2.2.1
  obtain ⟨c0, c1, c2, c3, c4, c5, c6, c7, c8⟩ := log_cells hh
  clear h hh
  go_enter Tryd.func51, Tryd.ntmps51
  go_wp2
  go_ret
  exact ⟨by go_num, rfl⟩
theorem lsize_any {w : World} {base L B n at' sc : Nat} {d : Dk} {g : Lg} (h : LogIs w base L B n at' sc d g) :
    Calls Tryd.prog 33 #[.pointer (some ⟨L, 0, none⟩)] w fun e w' => e = .returned (.int .i64 ((48 * (sc - 8) : Nat) : Int)) ∧ w' = w := by
  obtain ⟨ra, rc, ta, tc, hh, _⟩ := h.form
  have hb := h.2.2.1
  obtain ⟨c0, c1, c2, c3, c4, c5, c6, c7, c8⟩ := log_cells hh
  clear h hh
  go_enter Tryd.func33, Tryd.ntmps33
  go_wp2
  go_ret
  exact ⟨by go_num, rfl⟩

theorem lfirst_any {w : World} {base L B n at' sc : Nat} {d : Dk} {g : Lg} (h : LogIs w base L B n at' sc d g) :
    Calls Tryd.prog 9 #[.pointer (some ⟨L, 0, none⟩)] w fun e w' => e = .returned (.int .u64 g.first) ∧ w' = w := by
  obtain ⟨ra, rc, ta, tc, hh, _⟩ := h.form
  obtain ⟨c0, c1, c2, c3, c4, c5, c6, c7, c8⟩ := log_cells hh
  clear h hh
  go_enter Tryd.func9, Tryd.ntmps9
  go_wp2
  go_ret
  exact ⟨rfl, rfl⟩












theorem lnext_any {w : World} {base L B n at' sc : Nat} {d : Dk} {g : Lg} (h : LogIs w base L B n at' sc d g) :
    Calls Tryd.prog 13 #[.pointer (some ⟨L, 0, none⟩)] w fun e w' => e = .returned (.int .u64 ((g.first + g.recs.length : Nat) : Int)) ∧ ∃ q, w' = w.drewN q := by
  obtain ⟨ra, rc, ta, tc, hh, _⟩ := h.form
  have hb := h.2.2.2.1
  obtain ⟨c0, c1, c2, c3, c4, c5, c6, c7, c8⟩ := log_cells hh
  clear h hh
  go_enter Tryd.func13, Tryd.ntmps13
  go_wp2
  go_quiet (fail)
  go_wp2
  go_ret
  exact ⟨by go_num, _, rfl⟩
theorem lroom_any {w : World} {base L B n at' sc : Nat} {d : Dk} {g : Lg} (h : LogIs w base L B n at' sc d g) (ho : g.start ≤ g.stop) (hsz : g.stop - g.start ≤ 48 * (sc - 8)) :
    Calls Tryd.prog 19 #[.pointer (some ⟨L, 0, none⟩)] w fun e w' => e = .returned (.int .i64 ((48 * (sc - 8) - (g.stop - g.start) : Nat) : Int)) ∧ ∃ q, w' = w.drewN q := by
  obtain ⟨ra, rc, ta, tc, hh, _⟩ := h.form
  have hb := h.2.2.2.1
  have hb2 := h.2.2.1
  have HS := hid (fun q => lsize_any (h.below (below_drewN (Below.refl _ w) q)))
  obtain ⟨c0, c1, c2, c3, c4, c5, c6, c7, c8⟩ := log_cells hh
  clear h hh
  go_enter Tryd.func19, Tryd.ntmps19
  go_wp2
  go_quiet (first | (go_at_call 33; refine Calls.quiet_of_same (HS.out _)))
  go_wp2
  go_ret
  exact ⟨by go_num, _, rfl⟩
theorem lplace_any {w : World} {base L B n at' sc : Nat} {d : Dk} {g : Lg} (h : LogIs w base L B n at' sc d g) (no : Nat) (hno : no ≤ 18446744073709551615) :
    Calls Tryd.prog 47 #[.pointer (some ⟨L, 0, none⟩), .int .u64 no] w fun e w' => e = .returned (.int .i64 ((at' + 1 + no % (sc - 1) : Nat) : Int)) ∧ ∃ q, w' = w.drewN q := by
  obtain ⟨ra, rc, ta, tc, hh, _⟩ := h.form
  have hb := h.2.2.2.1
  have hb2 := h.2.2.1
  have hb3 := h.1.2.1
  have HS := hid (fun q => lring_any (h.below (below_drewN (Below.refl _ w) q)))
  obtain ⟨c0, c1, c2, c3, c4, c5, c6, c7, c8⟩ := log_cells hh
  clear h hh
  have hlt : no % (sc - 1) < sc - 1 := Nat.mod_lt _ (by omega)
  have HM : Hid ((no : Int) % ((sc - 1 : Nat) : Int) = ((no % (sc - 1) : Nat) : Int)) := by rw [Hid]; simp
  generalize no % (sc - 1) = r at HM hlt ⊢
  go_enter Tryd.func47, Tryd.ntmps47
  go_wp2
  go_quiet (first | (go_at_call 51; refine Calls.quiet_of_same (HS.out _)))
  go_wp2
  go_ret
  rw [HM.out]
  rw [IntWalk.wrap64_in (r : Int) (by omega), IntWalk.wrap64_in _ (by omega)]
  exact ⟨by congr 1, _, rfl⟩
end Go.Proofs.YthhlbhnogcfnjaaDoor
