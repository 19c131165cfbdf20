/-
  DiskCopies: what the law's own memory holds.
-/
import Derived.Test.YtindjkgkdldooaaDCopy
import Derived.Test.YtindjkgkdldooaaLastsMem
namespace Go.Proofs.Ytindjkgkdldooaa
open Go.RowKit

theorem i64_and255 (n : Int) : bits .and .i64 n 255 = n % 256 := by
  have h255 : (BitVec.ofInt 64 255).toNat = 2 ^ 8 - 1 := by decide
  have key : (BitVec.ofInt 64 n &&& BitVec.ofInt 64 255).toNat = (n % ((2 ^ 64 : Nat) : Int)).toNat % 2 ^ 8 := by
    rw [BitVec.toNat_and, BitVec.toNat_ofInt, h255, Nat.and_two_pow_sub_one_eq_mod]
  show IntKind.i64.wrap ((BitVec.ofInt 64 n &&& BitVec.ofInt 64 255).toNat : Nat) = n % 256
  rw [key, IntKind.wrap_i64]
  omega
theorem i64_and31' (n : Int) : bits .and .i64 n 31 = n % 32 := by
  have h31 : (BitVec.ofInt 64 31).toNat = 2 ^ 5 - 1 := by decide
  have key : (BitVec.ofInt 64 n &&& BitVec.ofInt 64 31).toNat = (n % ((2 ^ 64 : Nat) : Int)).toNat % 2 ^ 5 := by
    rw [BitVec.toNat_and, BitVec.toNat_ofInt, h31, Nat.and_two_pow_sub_one_eq_mod]
  show IntKind.i64.wrap ((BitVec.ofInt 64 n &&& BitVec.ofInt 64 31).toNat : Nat) = n % 32
  rw [key, IntKind.wrap_i64]
  omega
theorem and255 (y : Int) : ∃ p q : Nat, bits .and .i64 y 255 = (p : Int) ∧ (p : Int).tmod 12 = (q : Int) ∧ p < 256 ∧ q < 12 := ⟨(y % 256).toNat, (y % 256).toNat % 12, by rw [i64_and255]; omega, by rw [Int.tmod_eq_emod_of_nonneg (by omega)]; omega, by omega, by omega⟩

/-- The law's row of twelve texts, in block Bl. -/
def Txt (W : World) (Bl : Nat) (ss : List ByteArray) : Prop := W.heap[Bl]? = some (.cells (ss.map Value.string).toArray 33 (0, 0))
theorem Txt.cell {W : World} {Bl : Nat} {ss : List ByteArray} (h : Txt W Bl ss) {p : Nat} (hp : p < ss.length) : W.cell? ⟨Bl, p, none⟩ = some (.string (ss.getD p ByteArray.empty)) := by
  rw [cell_of_row _ _ _ _ _ _ h]
  simp [List.getD, hp]
theorem Txt.frozen {W : World} {Bl : Nat} {ss : List ByteArray} (h : Txt W Bl ss) (p : Nat) : W.frozen? ⟨Bl, p, none⟩ = false := frozen_of_row W Bl p _ _ h
theorem Txt.set {W : World} {Bl : Nat} {ss : List ByteArray} (h : Txt W Bl ss) (p : Nat) (y : ByteArray) : Txt (W.setCell ⟨Bl, p, none⟩ (.string y)) Bl (ss.set p y) := by
  unfold Txt
  rw [heap_setCell_same W Bl p _ _ _ h, List.map_set]
  simp
theorem Txt.fresh {W W' : World} {Bl : Nat} {ss : List ByteArray} (h : Txt W Bl ss) (hb : Below W.heap.size W W') : Txt W' Bl ss := (hb.block Bl (lt_of_heap h)).trans h
theorem Txt.kd {W W' : World} {base Bl : Nat} {ss : List ByteArray} (h : Txt W Bl ss) (hk : Kd base W W') : Txt W' Bl ss := (hk.keep Bl _ _ _ h (by decide) (by decide) (by decide)).trans h

/-- How the disk stands in the first loop. -/
structure Ci (w : World) (B : Nat) (d : Dk) (W : World) : Prop where
  disk : DiskIs W w.heap.size B 12 d
  below : Below w.heap.size w W
  left : d.left = -1
theorem Ci.fresh {w W W' : World} {B : Nat} {d : Dk} (h : Ci w B d W) (hb : Below W.heap.size W W') : Ci w B d W' := ⟨h.disk.below hb, h.below.trans (hb.mono h.below.size), h.left⟩
theorem Ci.step {w W W' : World} {B : Nat} {d d' : Dk} (h : Ci w B d W) (hd : DiskIs W' w.heap.size B 12 d') (hk : Kd w.heap.size W W') (hl : d'.left = -1) : Ci w B d' W' := ⟨hd, h.below.trans hk.below, hl⟩

/-- How both disks and the texts stand behind the copy. -/
structure Cp (w w2 : World) (B Bc Bl : Nat) (d dc : Dk) (ss : List ByteArray) (W : World) : Prop where
  one : Ci w B d w2
  copy : DiskIs W w2.heap.size Bc 12 dc
  txt : Txt W Bl ss
  below : Below w2.heap.size w2 W
  base : w2.heap.size ≤ Bl
  left : dc.left = -1
theorem Cp.disk {w w2 W : World} {B Bc Bl : Nat} {d dc : Dk} {ss : List ByteArray} (h : Cp w w2 B Bc Bl d dc ss W) : DiskIs W w.heap.size B 12 d := h.one.disk.below h.below
theorem Cp.all {w w2 W : World} {B Bc Bl : Nat} {d dc : Dk} {ss : List ByteArray} (h : Cp w w2 B Bc Bl d dc ss W) : Below w.heap.size w W := h.one.below.trans (h.below.mono h.one.below.size)
theorem Cp.fresh {w w2 W W' : World} {B Bc Bl : Nat} {d dc : Dk} {ss : List ByteArray} (h : Cp w w2 B Bc Bl d dc ss W) (hb : Below W.heap.size W W') : Cp w w2 B Bc Bl d dc ss W' :=
  ⟨h.one, h.copy.below hb, h.txt.fresh hb, h.below.trans (hb.mono h.below.size), h.base, h.left⟩
theorem Cp.put {w w2 W : World} {B Bc Bl : Nat} {d dc : Dk} {ss : List ByteArray} (h : Cp w w2 B Bc Bl d dc ss W) (p : Nat) (y : ByteArray) : Cp w w2 B Bc Bl d dc (ss.set p y) (W.setCell ⟨Bl, p, none⟩ (.string y)) :=
  ⟨h.one, h.copy.beside h.txt (by decide) (by decide) (by decide) _, h.txt.set p y, h.below.setCell (p := ⟨Bl, p, none⟩) h.base _, h.base, h.left⟩
theorem Cp.step {w w2 W W' : World} {B Bc Bl : Nat} {d dc dc' : Dk} {ss : List ByteArray} (h : Cp w w2 B Bc Bl d dc ss W) (hd : DiskIs W' w2.heap.size Bc 12 dc') (hk : Kd w2.heap.size W W') (hl : dc'.left = -1) : Cp w w2 B Bc Bl d dc' ss W' :=
  ⟨h.one, hd, h.txt.kd hk, h.below.trans hk.below, h.base, hl⟩

/-- The texts behind so many rounds. -/
def texts (L : List (List Int)) (p : Nat) : List ByteArray := (L.take p).map strOfNums ++ List.replicate (12 - p) ByteArray.empty
theorem texts_zero (L : List (List Int)) : texts L 0 = List.replicate 12 ByteArray.empty := by simp [texts]
theorem texts_set {L : List (List Int)} (hL : L.length = 12) {p : Nat} (hp : p < 12) : (texts L p).set p (strOfNums (L.getD p [])) = texts L (p + 1) := by
  unfold texts
  have e : 12 - p = (12 - (p + 1)) + 1 := by omega
  rw [e, List.replicate_succ, List.take_succ_eq_append_getElem (by omega)]
  have hl : ((L.take p).map strOfNums).length = p := by simp; omega
  have e2 : L.getD p [] = L[p] := by simp [List.getD, show p < L.length by omega]
  rw [List.set_append_right _ _ (by omega), hl, Nat.sub_self, List.set_cons_zero, List.map_append, List.append_assoc, e2]
  rfl
theorem texts_at {L : List (List Int)} (hL : L.length = 12) {p : Nat} (hp : p < 12) : (texts L 12).getD p ByteArray.empty = strOfNums (L.getD p []) := by
  unfold texts
  rw [List.take_of_length_le (by omega)]
  simp [List.getD, show p < L.length by omega]
theorem texts_len {L : List (List Int)} (hL : L.length = 12) {p : Nat} (hp : p ≤ 12) : (texts L p).length = 12 := by
  unfold texts
  simp; omega
end Go.Proofs.Ytindjkgkdldooaa
