/-
  DiskPlays: the script in memory; both disks beside it.
-/
import Derived.Test.YtindjkgkdldooaaRSame
namespace Go.Proofs.Ytindjkgkdldooaa
open Go.RowKit

/-- A call of the script, as plain data: kv is the slice value of what is kept. -/
structure OpD where
  kind : Int
  i : Int
  n : Int
  short : Bool
  kv : Value
  keep : List Int
def opV (o : OpD) : List Value := [.int .i64 o.kind, .int .i64 o.i, .int .i64 o.n, .bool o.short, o.kv]
def I64 (x : Int) : Prop := -9223372036854775808 ≤ x ∧ x ≤ 9223372036854775807
structure OpOk (w : World) (o : OpD) : Prop where
  kind : I64 o.kind
  i : I64 o.i
  n : I64 o.n
  keep : Ints w o.kv o.keep
  len : o.keep.length ≤ 140737488355328
/-- The slice v holds the calls os. -/
def OpsIs (w : World) (v : Value) (os : List OpD) : Prop :=
  (∀ o ∈ os, OpOk w o) ∧ ∃ ao cap, v = .slice ao os.length cap ∧ (1 ≤ os.length → ∃ b off, ao = some ⟨b, off, none⟩ ∧ ∀ j (hj : j < os.length), w.rangeAt b (off + j * 5) (opV os[j]))

/-- Both disks, and the call at hand in a variable of its own, block Bo. -/
structure Pr (w : World) (B R n Bo : Nat) (o : OpD) (d dr : Dk) (W : World) : Prop where
  disk : DiskIs W w.heap.size B n d
  ref : ∃ f, RefIs W w.heap.size R n dr f
  below : Below w.heap.size w W
  op : W.heap[Bo]? = some (.cells (opV o).toArray 44 (0, 0))
theorem Pr.fresh {w W W' : World} {B R n Bo : Nat} {o : OpD} {d dr : Dk} (h : Pr w B R n Bo o d dr W) (hb : Below W.heap.size W W') : Pr w B R n Bo o d dr W' := by
  obtain ⟨f, hr⟩ := h.ref
  exact ⟨h.disk.below hb, ⟨f, hr.below hb⟩, h.below.trans (hb.mono h.below.size), (hb.block Bo (lt_of_heap h.op)).trans h.op⟩
theorem Pr.drew {w W : World} {B R n Bo : Nat} {o : OpD} {d dr : Dk} (h : Pr w B R n Bo o d dr W) : Pr w B R n Bo o d dr W.drew := h.fresh (Below.refl _ W).drew
theorem Pr.kd {w W W' : World} {B R n Bo : Nat} {o : OpD} {d d' dr : Dk} (h : Pr w B R n Bo o d dr W) (hd : DiskIs W' w.heap.size B n d') (hk : Kd w.heap.size W W') : Pr w B R n Bo o d' dr W' := by
  obtain ⟨f, hr⟩ := h.ref
  exact ⟨hd, ⟨f, hr.kd hk⟩, h.below.trans hk.below, (hk.keep Bo _ _ _ h.op (by decide) (by decide) (by decide)).trans h.op⟩
theorem Pr.kr {w W W' : World} {B R n Bo : Nat} {o : OpD} {d dr dr' : Dk} (h : Pr w B R n Bo o d dr W) (hr : ∃ f, RefIs W' w.heap.size R n dr' f) (hk : Kr w.heap.size W W') : Pr w B R n Bo o d dr' W' :=
  ⟨h.disk.kr hk, hr, h.below.trans hk.below, (hk.keep Bo _ _ _ h.op (by decide) (by decide) (by decide)).trans h.op⟩
theorem Pr.cells {w W : World} {B R n Bo : Nat} {o : OpD} {d dr : Dk} (h : Pr w B R n Bo o d dr W) : W.cell? ⟨Bo, 0, none⟩ = some (.int .i64 o.kind) ∧ W.cell? ⟨Bo, 1, none⟩ = some (.int .i64 o.i) ∧ W.cell? ⟨Bo, 2, none⟩ = some (.int .i64 o.n) ∧ W.cell? ⟨Bo, 3, none⟩ = some (.bool o.short) ∧ W.cell? ⟨Bo, 4, none⟩ = some o.kv :=
  ⟨cell_of_row W Bo 0 _ _ _ h.op, cell_of_row W Bo 1 _ _ _ h.op, cell_of_row W Bo 2 _ _ _ h.op, cell_of_row W Bo 3 _ _ _ h.op, cell_of_row W Bo 4 _ _ _ h.op⟩
/-- A byte beside them is written. -/
theorem Pr.beside {w W : World} {B R n Bo g p : Nat} {o : OpD} {d dr : Dk} {c : Array Value} {f : Nat × Nat} (h : Pr w B R n Bo o d dr W) (hg : W.heap[g]? = some (.cells c 5 f)) (hb : w.heap.size ≤ g) (u : Value) : Pr w B R n Bo o d dr (W.setCell ⟨g, p, none⟩ u) := by
  obtain ⟨x, hr⟩ := h.ref
  have hgr := grown_setCell W g p u
  have key : ∀ (k : Nat) c' t' f', W.heap[k]? = some (Obj.cells c' t' f') → t' ≠ 5 → (W.setCell ⟨g, p, none⟩ u).heap[k]? = W.heap[k]? := fun k c' t' f' hk ht => hgr.block k (lt_of_heap hk) (fun e => by
    injection e with e
    exact ne_of_type hk hg ht e)
  refine ⟨h.disk.beside hg (by decide) (by decide) (by decide) u, ⟨x, hr.same fun k c t y hc ht => key k c t y hc (by rcases ht with rfl | rfl | rfl <;> decide)⟩, h.below.setCell (p := ⟨g, p, none⟩) hb u, (key _ _ _ _ h.op (by decide)).trans h.op⟩
theorem Pr.same {w W : World} {B R n Bo : Nat} {o : OpD} {d : Dk} (h : Pr w B R n Bo o d d W) (hwl : d.wait.length ≤ 1000000) : Calls Try.prog 25 #[.pointer (some ⟨B, 0, none⟩), .pointer (some ⟨R, 0, none⟩)] W fun e W' => e = .returned (.bool true) ∧ Pr w B R n Bo o d d W' := by
  obtain ⟨f, hr⟩ := h.ref
  exact (same_any h.disk hr hwl).mono (fun _ _ ⟨he, hb⟩ => ⟨he, h.fresh hb⟩)

/-- How both disks stand at a round's head. -/
structure Pl (w : World) (B R n : Nat) (d : Dk) (W : World) : Prop where
  disk : DiskIs W w.heap.size B n d
  ref : ∃ f, RefIs W w.heap.size R n d f
  below : Below w.heap.size w W
theorem Pl.op {w W : World} {B R n : Nat} {d : Dk} (h : Pl w B R n d W) (o : OpD) : Pr w B R n W.heap.size o d d (W.alloc (.cells (opV o).toArray 44)) := by
  obtain ⟨f, hr⟩ := h.ref
  have hb : Below W.heap.size W (W.alloc (.cells (opV o).toArray 44)) := (Below.refl _ _).alloc (Nat.le_refl _) _
  exact ⟨h.disk.below hb, ⟨f, hr.below hb⟩, h.below.trans (hb.mono h.below.size), heap_new W _⟩
theorem Pr.pl {w W : World} {B R n Bo : Nat} {o : OpD} {d : Dk} (h : Pr w B R n Bo o d d W) : Pl w B R n d W := ⟨h.disk, h.ref, h.below⟩

theorem own_kd {W W' : World} {b base n : Nat} {v : Value} {xs : List Value} (h : W.ownsRow base 5 1 v n xs) (hk : Kd b W W') : W'.ownsRow base 5 1 v n xs := own_same h fun k hk' => by
  obtain ⟨c, hc⟩ := own_heap h hk'
  exact hk.keep k _ _ _ hc (by decide) (by decide) (by decide)
theorem own_kr {W W' : World} {b base n : Nat} {v : Value} {xs : List Value} (h : W.ownsRow base 5 1 v n xs) (hk : Kr b W W') : W'.ownsRow base 5 1 v n xs := own_same h fun k hk' => by
  obtain ⟨c, hc⟩ := own_heap h hk'
  exact hk.keep k _ _ _ hc (by decide) (by decide) (by decide)
theorem has_cut {W : World} {base g : Nat} {l : List Int} (h : W.ownsRow base 5 1 (.slice (some ⟨g, 0, none⟩) 64 64) 64 (secV l)) : Has W (.slice (some ⟨g, 0, none⟩) 63 64) (l.take 63) := by
  have hl : l.length = 64 := by simpa [secV] using h.1
  refine ⟨g, 0, 64, by simp [hl], by simp; omega, fun j hj => ?_⟩
  have hj' : j < 63 := by simp at hj; omega
  have := h.cellAt j (by omega)
  rw [Nat.zero_add, this]
  simp [secV, List.getD, hl, hj', show j < 64 by omega]
theorem byte_at {W : World} {base g c : Nat} {l : List Int} (h : W.ownsRow base 5 1 (.slice (some ⟨g, 0, none⟩) 64 c) 64 (secV l)) : W.cell? ⟨g, 0, none⟩ = some (.int .u8 (l.getD 0 0)) ∧ W.frozen? ⟨g, 0, none⟩ = false ∧ base ≤ g ∧ ∃ cs, W.heap[g]? = some (.cells cs 5 (0, 0)) := by
  have hl : l.length = 64 := by simpa [secV] using h.1
  refine ⟨?_, h.frozenAt 0, own_base h g rfl, own_heap h rfl⟩
  rw [h.cellAt 0 (by omega)]
  simp [secV, List.getD, hl]
theorem own_slice {W : World} {base : Nat} {v : Value} {xs : List Value} (h : W.ownsRow base 5 1 v 64 xs) : ∃ g c, v = .slice (some ⟨g, 0, none⟩) 64 c := by
  rcases h.2 with ⟨_, h0⟩ | ⟨g, c, _, rfl, _⟩
  · omega
  · exact ⟨g, c, rfl⟩
theorem Pr.poke {w W : World} {B R n Bo base g c : Nat} {o : OpD} {d : Dk} {l : List Int} (h : Pr w B R n Bo o d d W) (hwl : d.wait.length ≤ 1000000) (ho : W.ownsRow base 5 1 (.slice (some ⟨g, 0, none⟩) 64 c) 64 (secV l)) (hb : w.heap.size ≤ base) (u : Value) :
    Calls Try.prog 25 #[.pointer (some ⟨B, 0, none⟩), .pointer (some ⟨R, 0, none⟩)] (W.setCell ⟨g, 0, none⟩ u) fun e W' => e = .returned (.bool true) ∧ Pr w B R n Bo o d d W' := by
  obtain ⟨_, _, hg, cs, hc⟩ := byte_at ho
  exact (h.beside hc (by omega) u).same hwl

/-- A Write, a Flush on a copy, whatever comes of it. -/
theorem write_tot {w : World} {base B n : Nat} {d : Dk} (h : DiskIs w base B n d) {g : Nat} {s : List Int} (hs : Sec s) (hv : Has w (.slice (some ⟨g, 0, none⟩) 64 64) s) (hwl : d.wait.length ≤ 1000000) (hwr : d.writes ≤ 1000000000) :
    Calls Try.prog 8 #[.pointer (some ⟨B, 0, none⟩), .int .i64 0, .slice (some ⟨g, 0, none⟩) 64 64] w fun e w' => (∃ v, e = .returned v) ∧ ∃ d', DiskIs w' base B n d' ∧ d'.wait.length ≤ d.wait.length + 1 ∧ Kd base w w' := by
  have hn := h.2.1
  by_cases hd : d.left = 0
  · exact (write_dead h (i := 0) ⟨by omega, by omega⟩ hd).mono (fun _ _ ⟨he, hw⟩ => by subst hw; exact ⟨⟨_, he⟩, d, h, by omega, Kd.refl _ _⟩)
  · have := write_any h (i := 0) (by omega) hd hs hv hwl hwr
    exact this.mono (fun _ _ ⟨he, hd', hk⟩ => ⟨⟨_, he⟩, _, hd', by simp [Dk.write], hk⟩)
theorem flush_tot {w : World} {base B n : Nat} {d : Dk} (h : DiskIs w base B n d) (hwl : d.wait.length ≤ 1000000) :
    Calls Try.prog 10 #[.pointer (some ⟨B, 0, none⟩)] w fun e w' => (∃ v, e = .returned v) ∧ ∃ d', DiskIs w' base B n d' ∧ d'.wait.length ≤ d.wait.length ∧ Kd base w w' := by
  by_cases hd : d.left = 0
  · exact (flush_dead h hd).mono (fun _ _ ⟨he, hb⟩ => ⟨⟨_, he⟩, d, h.below hb, by omega, Kd.fresh hb h.base_le⟩)
  · exact (flush_any h hd hwl).mono (fun _ _ ⟨he, hd', hk⟩ => ⟨⟨_, he⟩, _, hd', by simp [Dk.flush], hk⟩)
end Go.Proofs.Ytindjkgkdldooaa
