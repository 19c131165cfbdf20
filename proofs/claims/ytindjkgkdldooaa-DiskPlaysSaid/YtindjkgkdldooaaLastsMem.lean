/-
  DiskLasts: the walk.
-/
import Derived.Test.YtindjkgkdldooaaDAwake
namespace Go.Proofs.Ytindjkgkdldooaa
open Go.RowKit

theorem i64_and15 (n : Int) : bits .and .i64 n 15 = n % 16 := by
  have h15 : (BitVec.ofInt 64 15).toNat = 2 ^ 4 - 1 := by decide
  have key : (BitVec.ofInt 64 n &&& BitVec.ofInt 64 15).toNat = (n % ((2 ^ 64 : Nat) : Int)).toNat % 2 ^ 4 := by
    rw [BitVec.toNat_and, BitVec.toNat_ofInt, h15, Nat.and_two_pow_sub_one_eq_mod]
  show IntKind.i64.wrap ((BitVec.ofInt 64 n &&& BitVec.ofInt 64 15).toNat : Nat) = n % 16
  rw [key, IntKind.wrap_i64]
  omega

/-- What a sector is to hold, by the law's own row. -/
def want (x : Int) : List Int := if 0 < x then secL x else nought
structure Wants (L : List (List Int)) (xs : List Int) : Prop where
  len : L.length = 16
  xlen : xs.length = 16
  is : ∀ p, p < 16 → L.getD p [] = want (xs.getD p 0)
  bound : ∀ p, 0 ≤ xs.getD p 0 ∧ xs.getD p 0 ≤ 200
theorem Wants.set {L : List (List Int)} {xs : List Int} (h : Wants L xs) {q : Nat} (hq : q < 16) {y : Int} (h0 : 0 < y) (h1 : y ≤ 200) : Wants (L.set q (secL y)) (xs.set q y) := by
  have hL := h.len
  have hX := h.xlen
  refine ⟨by simpa using hL, by simpa using hX, fun p hp => ?_, fun p => ?_⟩
  · by_cases hqp : q = p
    · subst hqp
      simp [List.getD, hL, hX, hq, want, h0]
    · have := h.is p hp
      simp only [List.getD, List.getElem?_set, hqp] at this ⊢
      simpa using this
  · have := h.bound p
    by_cases hqp : q = p
    · subst hqp
      simp [List.getD, hX, hq]; omega
    · simp only [List.getD, List.getElem?_set, hqp] at this ⊢
      simpa using this
theorem wants_new : Wants (List.replicate 16 nought) (List.replicate 16 0) := by
  refine ⟨by simp, by simp, fun p hp => ?_, fun p => ?_⟩
  · have e1 : (List.replicate 16 nought).getD p [] = nought := by rw [List.getD_eq_getElem?_getD, List.getElem?_replicate, if_pos hp]; rfl
    have e2 : (List.replicate 16 (0 : Int)).getD p 0 = 0 := by rw [List.getD_eq_getElem?_getD, List.getElem?_replicate, if_pos hp]; rfl
    rw [e1, e2]; rfl
  · have e2 : (List.replicate 16 (0 : Int)).getD p 0 = 0 := by
      rw [List.getD_eq_getElem?_getD, List.getElem?_replicate]; split <;> rfl
    rw [e2]; omega

/-- The law's row of sixteen numbers, in block Bl. -/
def Arr (W : World) (Bl : Nat) (xs : List Int) : Prop := W.heap[Bl]? = some (.cells (xs.map (Value.int .i64)).toArray 51 (0, 0))
theorem Arr.cell {W : World} {Bl : Nat} {xs : List Int} (h : Arr W Bl xs) {p : Nat} (hp : p < xs.length) : W.cell? ⟨Bl, p, none⟩ = some (.int .i64 (xs.getD p 0)) := by
  rw [cell_of_row _ _ _ _ _ _ h]
  simp [List.getD, hp]
theorem Arr.frozen {W : World} {Bl : Nat} {xs : List Int} (h : Arr W Bl xs) (p : Nat) : W.frozen? ⟨Bl, p, none⟩ = false := frozen_of_row W Bl p _ _ h
theorem Arr.set {W : World} {Bl : Nat} {xs : List Int} (h : Arr W Bl xs) (p : Nat) (y : Int) : Arr (W.setCell ⟨Bl, p, none⟩ (.int .i64 y)) Bl (xs.set p y) := by
  unfold Arr
  rw [heap_setCell_same W Bl p _ _ _ h, List.map_set]
  simp
theorem Arr.fresh {W W' : World} {Bl : Nat} {xs : List Int} (h : Arr W Bl xs) (hb : Below W.heap.size W W') : Arr W' Bl xs := (hb.block Bl (lt_of_heap h)).trans h
theorem Arr.kd {W W' : World} {base Bl : Nat} {xs : List Int} (h : Arr W Bl xs) (hk : Kd base W W') : Arr W' Bl xs := (hk.keep Bl _ _ _ h (by decide) (by decide) (by decide)).trans h
/-- A cell that is no disk's is written. -/
theorem DiskIs.beside {W : World} {base B n : Nat} {d : Dk} {g o : Nat} {c : Array Value} {t : TypeId} {f : Nat × Nat} (h : DiskIs W base B n d) (hg : W.heap[g]? = some (.cells c t f)) (h1 : t ≠ 59) (h2 : t ≠ 62) (h3 : t ≠ 64) (u : Value) : DiskIs (W.setCell ⟨g, o, none⟩ u) base B n d := by
  have hgr := grown_setCell W g o u
  have key : ∀ (k : Nat) c' t' f', W.heap[k]? = some (Obj.cells c' t' f') → t ≠ t' → (W.setCell ⟨g, o, none⟩ u).heap[k]? = W.heap[k]? := fun k c' t' f' hk ht => hgr.block k (lt_of_heap hk) (fun e => by
    injection e with e
    exact ne_of_type hg hk ht e.symm)
  have row' : ∀ (e : TypeId) (m : Nat) (v : Value) (bl : List (List Value)), t ≠ e → Blocks W base e m v bl → Blocks (W.setCell ⟨g, o, none⟩ u) base e m v bl := fun e m v bl he hb => hb.same fun k hk => by
    obtain ⟨c, hc⟩ := own_heap hb.2 hk
    exact key k _ _ _ hc he
  obtain ⟨ho, hn, hB, gl, cl, gn, cn, vw, hh, hne, b1, b2, b3⟩ := h
  exact ⟨ho, hn, hB, gl, cl, gn, cn, vw, (key _ _ _ _ hh h1).trans hh, hne, row' _ _ _ _ h2 b1, row' _ _ _ _ h2 b2, row' _ _ _ _ h3 b3⟩

/-- How disk and row stand. -/
structure La (w : World) (B Bl : Nat) (d : Dk) (xs : List Int) (W : World) : Prop where
  disk : DiskIs W w.heap.size B 16 d
  arr : Arr W Bl xs
  below : Below w.heap.size w W
  base : w.heap.size ≤ Bl
  left : d.left = -1
theorem La.fresh {w W W' : World} {B Bl : Nat} {d : Dk} {xs : List Int} (h : La w B Bl d xs W) (hb : Below W.heap.size W W') : La w B Bl d xs W' := ⟨h.disk.below hb, h.arr.fresh hb, h.below.trans (hb.mono h.below.size), h.base, h.left⟩
theorem La.put {w W : World} {B Bl : Nat} {d : Dk} {xs : List Int} (h : La w B Bl d xs W) (p : Nat) (y : Int) : La w B Bl d (xs.set p y) (W.setCell ⟨Bl, p, none⟩ (.int .i64 y)) :=
  ⟨h.disk.beside h.arr (by decide) (by decide) (by decide) _, h.arr.set p y, h.below.setCell (p := ⟨Bl, p, none⟩) h.base _, h.base, h.left⟩
theorem La.step {w W W' : World} {B Bl : Nat} {d d' : Dk} {xs : List Int} (h : La w B Bl d xs W) (hd : DiskIs W' w.heap.size B 16 d') (hk : Kd w.heap.size W W') (hl : d'.left = -1) : La w B Bl d' xs W' := ⟨hd, h.arr.kd hk, h.below.trans hk.below, h.base, hl⟩
theorem now_write (d : Dk) (q : Nat) (s : List Int) : (d.write q s).now = d.now.set q s := app_snoc _ _ _
theorem int_at {w W : World} {ys : List Int} {ao : Option Addr} (hc : 1 ≤ ys.length → ∃ b off, ao = some ⟨b, off, none⟩ ∧ ∀ j, j < ys.length → w.cell? ⟨b, off + j, none⟩ = some (.int .i64 (ys.getD j 0))) (hb : Below w.heap.size w W) {k : Nat} (hk : k < ys.length) :
    ∃ b off, ao = some ⟨b, off, none⟩ ∧ W.cell? ⟨b, off + k, none⟩ = some (.int .i64 (ys.getD k 0)) := by
  obtain ⟨b, off, rfl, hx⟩ := hc (by omega)
  exact ⟨b, off, rfl, by rw [hb.cell (p := ⟨b, off + k, none⟩) (lt_of_cell (hx k hk))]; exact hx k hk⟩
theorem and15 (y : Int) : ∃ q : Nat, bits .and .i64 y 15 = (q : Int) ∧ q < 16 := ⟨(y % 16).toNat, by rw [i64_and15]; omega, by omega⟩
end Go.Proofs.Ytindjkgkdldooaa
