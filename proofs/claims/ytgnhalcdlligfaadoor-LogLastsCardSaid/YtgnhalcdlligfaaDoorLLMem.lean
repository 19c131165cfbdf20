/-
  LogLasts: the records, the Log and its disk between two calls.
-/
import Derived.Test.YtgnhalcdlligfaaDoorMF
import Derived.Test.YtgnhalcdlligfaaDoorWFlush
import Derived.Test.YtgnhalcdlligfaaDoorWOpenSame
import Derived.Test.YtgnhalcdlligfaaDoorDCrash
import Derived.Test.YtgnhalcdlligfaaDoorWTellsWalk
namespace Go.Proofs.YtgnhalcdlligfaaDoor
open Go.RowKit Go.Shelf

/-- The record number j. -/
def lrec (zs : List Int) (j : Nat) : List Int := recL j ((zs.getD j 0) % 128).toNat
def lrecs (zs : List Int) (i : Nat) : List (List Int) := (List.range i).map (lrec zs)
theorem lrec_len (zs : List Int) (j : Nat) : (lrec zs j).length ≤ 127 := by
  unfold lrec
  rw [recL_len]
  omega
theorem lrecs_len (zs : List Int) (i : Nat) : (lrecs zs i).length = i := by simp [lrecs]
theorem lrecs_succ (zs : List Int) (i : Nat) : lrecs zs (i + 1) = lrecs zs i ++ [lrec zs i] := by simp [lrecs, List.range_succ]
theorem lrecs_ok (zs : List Int) (i : Nat) : RecsOk (lrecs zs i) := fun r hr => by
  simp only [lrecs, List.mem_map] at hr
  obtain ⟨j, _, rfl⟩ := hr
  exact ⟨recL_by _ _, by have := lrec_len zs j; omega⟩
theorem lrecs_bulk (zs : List Int) : ∀ i, bulkOf (lrecs zs i) ≤ i * 143
  | 0 => by simp [lrecs, bulkOf]
  | i + 1 => by
    have h1 := lrecs_bulk zs i
    have h2 := lrec_len zs i
    rw [lrecs_succ, bulk_app, bulk_cons, bulk_nil]
    omega
theorem lrecs_at {zs : List Int} {i j : Nat} (h : j < i) : (lrecs zs i)[j]? = some (lrec zs j) := by simp [lrecs, h]

/-- What a flushed disk holds: the frames of rs, from the second sector on. -/
def NowIs (now : List (List Int)) (rs : List (List Int)) : Prop :=
  ∃ q, bulkOf rs ≤ 48 * q ∧ 48 * q < bulkOf rs + 48 ∧ ∀ j, j < 100 → now.getD j [] = if 0 + 1 ≤ j ∧ j < 0 + 1 + q then secL (j - 0 - 1) (((framesL 1 rs).drop (48 * (j - 0 - 1))).take 48) else nought

/-- The disk and the Log behind i records, flushed behind the record number k. -/
structure LlD (zs : List Int) (k i : Nat) (d : Dk) (g : Lg) : Prop where
  left : d.left = -1
  wait : d.wait = []
  first : g.first = 1
  recs : g.recs = lrecs zs i
  start : g.start = 0
  stop : g.stop = bulkOf (lrecs zs i)
  tl : g.tail.length ≤ g.stop
  early : i ≤ k → d = (Dk.new 100).flush ∧ g.flushed = 0 ∧ g.tail = framesL 1 (lrecs zs i)
  late : k < i → NowIs d.now (lrecs zs (k + 1))
structure LlI (w : World) (L B : Nat) (zs : List Int) (k i : Nat) (W : World) : Prop where
  log : ∃ d g, LogIs W w.heap.size L B 100 0 100 d g ∧ LlD zs k i d g
  below : Below w.heap.size w W
/-- Ahead of the Flush. -/
structure LlF (w : World) (L B : Nat) (zs : List Int) (k : Nat) (W : World) : Prop where
  log : LogIs W w.heap.size L B 100 0 100 (Dk.new 100).flush { first := 1, recs := lrecs zs (k + 1), start := 0, stop := bulkOf (lrecs zs (k + 1)), flushed := 0, tail := framesL 1 (lrecs zs (k + 1)) }
  below : Below w.heap.size w W

theorem new_flush (n : Nat) : (Dk.new n).flush = Dk.new n := rfl
theorem LlI.start {w W : World} {L B : Nat} {zs : List Int} {k : Nat} (h : LogIs W w.heap.size L B 100 0 100 (Dk.new 100).flush Lg.fresh) (hb : Below w.heap.size w W) : LlI w L B zs k 0 W :=
  ⟨⟨_, _, h, ⟨rfl, rfl, rfl, by simp [Lg.fresh, lrecs], rfl, by simp [Lg.fresh, lrecs, bulkOf], by simp [Lg.fresh], fun _ => ⟨rfl, rfl, by simp [Lg.fresh, lrecs, framesL]⟩, fun h => by omega⟩⟩, hb⟩

theorem LlI.app {w W W1 : World} {L B : Nat} {zs : List Int} {k i : Nat} (h : LlI w L B zs k i W) (hi : i < 20) (ht : TabOk w) (hb : Below W.heap.size W W1) {v : Value} (hv : ArgBs W.heap.size W1 v (lrec zs i)) :
    Calls Tryd.prog 9 #[.pointer (some ⟨L, 0, none⟩), v] W1 fun e w' => e = .returned (.tuple #[.int .u64 ((i + 1 : Nat) : Int), .int .i64 0]) ∧ (i ≠ k → LlI w L B zs k (i + 1) w') ∧ (i = k → LlF w L B zs k w') := by
  obtain ⟨d, g, hl, hd⟩ := h.log
  have hlen := lrec_len zs i
  have hbk := lrecs_bulk zs i
  have hbw : Below w.heap.size w W1 := h.below.trans (hb.mono h.below.size)
  have h1 := hd.first; have h2 := hd.recs; have h3 := hd.start; have h4 := hd.stop; have h5 := hd.tl
  have hrl : g.recs.length = i := by rw [h2, lrecs_len]
  refine (append_any hl hb (by rw [hd.left]; decide) (ht.below hbw (Nat.le_refl _)) ht.lt hv (by omega) (by rw [h3]; omega) (by rw [h3, h4]; omega) (by rw [h1, hrl]; omega) (by rw [h4]; omega) (by rw [hrl]; omega) (by omega)).mono ?_
  rintro e w' ⟨rfl, hl', hk'⟩
  have hb' : Below w.heap.size w w' := hbw.trans hk'.below
  have hfl := frames_len (lrecs zs i) 1 (lrecs_ok zs i) (by rw [lrecs_len]; omega)
  have hfl' := frames_len (lrecs zs (i + 1)) 1 (lrecs_ok zs (i + 1)) (by rw [lrecs_len]; omega)
  have hfs := frames_snoc (lrecs zs i) 1 (lrec zs i)
  rw [← lrecs_succ, lrecs_len] at hfs
  have hbs : bulkOf (lrecs zs (i + 1)) = bulkOf (lrecs zs i) + ((lrec zs i).length + 16) := by rw [lrecs_succ, bulk_app, bulk_cons, bulk_nil]
  have hfr : (frameL (1 + i) (lrec zs i)).length = (lrec zs i).length + 16 := by
    have := congrArg List.length hfs
    rw [List.length_append, hfl, hfl', hbs] at this
    omega
  refine ⟨by rw [h1, hrl, Nat.add_comm], fun hne => ⟨⟨d, g.add (lrec zs i), hl', ?_⟩, hb'⟩, fun he => ?_⟩
  · refine ⟨hd.left, hd.wait, h1, ?_, h3, ?_, ?_, fun hik => ?_, fun hki => hd.late (by omega)⟩
    · show g.recs ++ [lrec zs i] = _
      rw [h2, lrecs_succ]
    · show g.stop + ((lrec zs i).length + 16) = _
      rw [h4, hbs]
    · show (g.tail ++ frameL (g.first + g.recs.length) (lrec zs i)).length ≤ g.stop + ((lrec zs i).length + 16)
      rw [List.length_append, h1, hrl, hfr]
      omega
    · obtain ⟨e1, e2, e3⟩ := hd.early (by omega)
      refine ⟨e1, e2, ?_⟩
      show g.tail ++ frameL (g.first + g.recs.length) (lrec zs i) = _
      rw [e3, h1, hrl, hfs]
  · subst he
    obtain ⟨e1, e2, e3⟩ := hd.early (Nat.le_refl _)
    refine ⟨?_, hb'⟩
    rw [← e1]
    have eg : g.add (lrec zs i) = { first := 1, recs := lrecs zs (i + 1), start := 0, stop := bulkOf (lrecs zs (i + 1)), flushed := 0, tail := framesL 1 (lrecs zs (i + 1)) } := by
      obtain ⟨gf, gr, gs, gt, gl, gtl⟩ := g
      dsimp only at h1 h2 h3 h4 e2 e3
      subst h1 h2 h3 h4 e2 e3
      simp only [Lg.add, lrecs_len, hbs, hfs, ← lrecs_succ]
    rw [← eg]
    exact hl'

theorem LlF.flush {w W : World} {L B : Nat} {zs : List Int} {k : Nat} (h : LlF w L B zs k W) (hk : k < 20) (ht : TabOk w) :
    Calls Tryd.prog 11 #[.pointer (some ⟨L, 0, none⟩)] W fun e w' => e = .returned (.int .i64 0) ∧ LlI w L B zs k (k + 1) w' ∧ Calls Tryd.prog 12 #[.pointer (some ⟨L, 0, none⟩)] w' fun e w2 => e = .returned (.int .u64 ((k + 1 : Nat) : Int)) ∧ w2 = w' := by
  obtain ⟨rs, hrs⟩ : ∃ rs, rs = lrecs zs (k + 1) := ⟨_, rfl⟩
  have hl := h.log
  have hbk := lrecs_bulk zs (k + 1)
  have hok := lrecs_ok zs (k + 1)
  have hrl := lrecs_len zs (k + 1)
  rw [← hrs] at hl hbk hok hrl
  have hfl := frames_len rs 1 hok (by rw [hrl]; omega)
  obtain ⟨q, hq1, hq2⟩ : ∃ q, bulkOf rs ≤ q * 48 ∧ q * 48 < bulkOf rs + 48 := ⟨(bulkOf rs + 47) / 48, by omega, by omega⟩
  refine (lflush_any hl (ht.below h.below (Nat.le_refl _)) ht.lt rfl (Nat.le_refl _) (by show (framesL 1 rs).length ≤ bulkOf rs; omega) (by show (framesL 1 rs).length ≤ _; omega) (by simp [Dk.new, Dk.flush]) (by simp [Dk.new, Dk.flush]) (q := q) (by show (framesL 1 rs).length ≤ _; omega) (by show _ < (framesL 1 rs).length + 48; omega)).mono ?_
  rintro e w' ⟨rfl, hl', hk'⟩
  have hb' : Below w.heap.size w w' := h.below.trans hk'.below
  refine ⟨rfl, ⟨⟨_, _, hl', ?_⟩, hb'⟩, ?_⟩
  · have hD : flushD 0 100 q (Dk.new 100).flush { first := 1, recs := rs, start := 0, stop := bulkOf rs, flushed := 0, tail := framesL 1 rs } = (tailP 0 100 (Dk.new 100) 0 (cut48 q (framesL 1 rs))).1 := by
      unfold flushD
      dsimp only
      rw [if_pos (by omega), hfl, Nat.sub_self]
      rfl
    rw [hD]
    have hlv := tailP_live 0 100 (cut48 q (framesL 1 rs)) (Dk.new 100) 0 rfl
    have hcl : (cut48 q (framesL 1 rs)).length = q := cut48_len q _
    have hnw := tailP_now 0 100 100 (by omega) (cut48 q (framesL 1 rs)) (Dk.new 100) 0 rfl (by simp [Dk.new, Dk.now, app]) (by rw [hcl]; omega)
    refine ⟨by show burn _ = -1; rw [hlv.2]; rfl, rfl, rfl, ?_, rfl, ?_, ?_, fun hx => by omega, fun _ => ?_⟩
    · show rs = _
      rw [hrs]
    · show bulkOf rs = _
      rw [hrs]
    · show ((framesL 1 rs).drop _).length ≤ bulkOf rs
      rw [List.length_drop]
      omega
    · rw [← hrs]
      refine ⟨q, by omega, by omega, fun j hj => ?_⟩
      have hf : ((tailP 0 100 (Dk.new 100) 0 (cut48 q (framesL 1 rs))).1.flush).now = (tailP 0 100 (Dk.new 100) 0 (cut48 q (framesL 1 rs))).1.now := rfl
      rw [hf, hnw j, hcl]
      by_cases hc : 0 + 1 ≤ j ∧ j < 0 + 1 + q
      · rw [if_pos (by omega), if_pos hc, cut48_get (by omega)]
        simp
      · rw [if_neg (by omega), if_neg hc]
        exact new_at 100 j hj
  · have hff : (Lg.flush { first := 1, recs := rs, start := 0, stop := bulkOf rs, flushed := 0, tail := framesL 1 rs }).flushed = k + 1 := by
      show 1 + rs.length - 1 = k + 1
      omega
    have := lflushed_any hl'
    rw [hff] at this
    exact this

/-- Behind the crash: the disk has the first m records, or is as new. -/
structure LlC (w : World) (B : Nat) (zs : List Int) (m : Nat) (W : World) : Prop where
  disk : ∃ d, DiskIs W w.heap.size B 100 d ∧ d.left = -1 ∧ d.wait = [] ∧ (m = 0 → d.now = (Dk.new 100).now) ∧ (1 ≤ m → NowIs d.now (lrecs zs m))
  below : Below w.heap.size w W
theorem LlI.crash {w W : World} {L B : Nat} {zs : List Int} {k n : Nat} (h : LlI w L B zs k n W) :
    Calls Tryd.prog 13 #[.pointer (some ⟨B, 0, none⟩), .slice none 0 0] W fun e w' => (∃ v, e = .returned v) ∧ LlC w B zs (if k < n then k + 1 else 0) w' := by
  obtain ⟨d, g, hl, hd⟩ := h.log
  have hi : Ints W (.slice none 0 0) [] := ⟨fun y hy => by simp at hy, none, 0, rfl, fun hx => by simp at hx⟩
  refine (crash_any hl.1 (by rw [hd.wait]; simp) hi (by simp)).mono ?_
  rintro e w' ⟨he, hd', hk'⟩
  refine ⟨he, ⟨_, hd', rfl, rfl, fun hm => ?_, fun hm => ?_⟩, h.below.trans hk'.below⟩
  · have hkn : ¬ k < n := fun hx => by rw [if_pos hx] at hm; omega
    obtain ⟨e1, _⟩ := hd.early (by omega)
    rw [e1]
    rfl
  · have hkn : k < n := Classical.byContradiction fun hx => by rw [if_neg hx] at hm; omega
    rw [if_pos hkn]
    have hnow : (d.crash []).now = d.now := by
      unfold Dk.crash Dk.now
      rw [hd.wait]
      rfl
    rw [hnow]
    exact hd.late hkn

/-- What is there behind the crash, opened again. -/
def lgM (zs : List Int) (m : Nat) : Lg := { first := 1, recs := lrecs zs m, start := 0, stop := bulkOf (lrecs zs m), flushed := m, tail := (framesL 1 (lrecs zs m)).drop (bulkOf (lrecs zs m) / 48 * 48) }
structure LlO (w : World) (L B : Nat) (zs : List Int) (m : Nat) (W : World) : Prop where
  log : ∃ d, LogIs W w.heap.size L B 100 0 100 d (lgM zs m) ∧ d.left ≠ 0
  below : Below w.heap.size w W
theorem LlC.open {w W : World} {B : Nat} {zs : List Int} {m : Nat} (h : LlC w B zs m W) (hm : m ≤ 20) (ht : TabOk w) :
    Calls Tryd.prog 8 #[.pointer (some ⟨B, 0, none⟩), .int .i64 0, .int .i64 100] W fun e w' => ∃ L, e = .returned (.tuple #[.pointer (some ⟨L, 0, none⟩), .int .i64 0]) ∧ LlO w L B zs m w' := by
  obtain ⟨d, hd, hl, hw, h0, h1⟩ := h.disk
  have htW := ht.below h.below (Nat.le_refl _)
  rcases Nat.eq_zero_or_pos m with hz | hz
  · have hn := h0 hz
    have ho : openG d.now 0 100 = lgM zs m := by
      rw [hn, fresh_open (by omega), hz]
      simp [lgM, Lg.fresh, lrecs, bulkOf, framesL]
    refine (lopen_good (at' := 0) (sc := 100) hd (by omega) (by rw [hl]; decide) htW ht.lt (by rw [hw]; simp) (by rw [hn]; exact fresh_clear (by omega) _)).mono ?_
    rintro e w' ⟨L, rfl, hl', hk', _⟩
    rw [ho] at hl'
    exact ⟨L, rfl, ⟨_, hl', by show burn d.left ≠ 0; rw [hl]; decide⟩, h.below.trans hk'.below⟩
  · obtain ⟨q, q1, q2, hnow⟩ := h1 hz
    have hok := lrecs_ok zs m
    have hrl := lrecs_len zs m
    have hbk := lrecs_bulk zs m
    have ho : openG d.now 0 100 = lgM zs m := by
      have := read_back (now := d.now) (at' := 0) (sc := 100) (n := 100) (q := q) (rs := lrecs zs m) (by omega) hok (by rw [hrl]; omega) q1 q2 (by omega) hnow
      rw [this, hrl]
      rfl
    refine (lopen_same (at' := 0) (sc := 100) hd (by omega) (by rw [hl]; decide) htW ht.lt (by rw [hw]; simp) (by
      rw [ho]
      exact clear_back (now := d.now) (at' := 0) (sc := 100) (n := 100) (q := q) (rs := lrecs zs m) (by omega) hok (by rw [hrl]; omega) q2 (by omega) hnow)).mono ?_
    rintro e w' ⟨L, rfl, hl', hk', _⟩
    rw [ho] at hl'
    exact ⟨L, rfl, ⟨_, hl', by show burn d.left ≠ 0; rw [hl]; decide⟩, h.below.trans hk'.below⟩

theorem LlO.next {w W W1 : World} {L B : Nat} {zs : List Int} {m : Nat} (h : LlO w L B zs m W) (hm : m ≤ 20) (ht : TabOk w) (hb : Below W.heap.size W W1) {v : Value} {rec : List Int} (hv : ArgBs W.heap.size W1 v rec) (hr : rec.length ≤ 10) :
    Calls Tryd.prog 9 #[.pointer (some ⟨L, 0, none⟩), v] W1 fun e w' => e = .returned (.tuple #[.int .u64 ((m + 1 : Nat) : Int), .int .i64 0]) ∧ Below w.heap.size w w' := by
  obtain ⟨d, hl, hd⟩ := h.log
  have hrl := lrecs_len zs m
  have hbk := lrecs_bulk zs m
  have hfl := frames_len (lrecs zs m) 1 (lrecs_ok zs m) (by rw [hrl]; omega)
  have hbw : Below w.heap.size w W1 := h.below.trans (hb.mono h.below.size)
  refine (append_any hl hb hd (ht.below hbw (Nat.le_refl _)) ht.lt hv (by omega) (Nat.zero_le _) (by show rec.length + 16 + (bulkOf (lrecs zs m) - 0) ≤ _; omega) (by show 1 + (lrecs zs m).length ≤ _; omega) (by show bulkOf (lrecs zs m) ≤ _; omega) (by show (lrecs zs m).length ≤ _; omega) (by show ((framesL 1 (lrecs zs m)).drop _).length ≤ _; rw [List.length_drop]; omega)).mono ?_
  rintro e w' ⟨rfl, _, hk'⟩
  refine ⟨?_, hbw.trans hk'.below⟩
  rw [show (lgM zs m).first + (lgM zs m).recs.length = m + 1 by show 1 + (lrecs zs m).length = _; omega]
end Go.Proofs.YtgnhalcdlligfaaDoor
