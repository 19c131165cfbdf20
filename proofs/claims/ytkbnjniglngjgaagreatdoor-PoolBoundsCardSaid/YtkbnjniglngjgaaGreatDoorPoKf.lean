/-
  Layer 4 anew for layer 5: the frame of a Flush: all but the disk and the Log's own block.
-/
import Derived.Test.YtkbnjniglngjgaaGreatDoorME
namespace Go.Proofs.YtkbnjniglngjgaaGreatDoor
open Go.RowKit Go.Shelf

/-- What a Flush of the Log in block L leaves as it was: all but the disk and that block. -/
structure Kf (base L : Nat) (w w' : World) : Prop where
  below : Below base w w'
  keep : ∀ (k : Nat) (c : Array Value) (t : TypeId) (f : Nat × Nat), w.heap[k]? = some (Obj.cells c t f) → ¬ diskT t → k ≠ L → w'.heap[k]? = w.heap[k]?
theorem Kf.trans {base L : Nat} {a b c : World} (h : Kf base L a b) (k : Kf base L b c) : Kf base L a c :=
  ⟨h.below.trans k.below, fun i x t f hx hd hp => by
    have e := h.keep i x t f hx hd hp
    exact (k.keep i x t f (e.trans hx) hd hp).trans e⟩
theorem Kf.of_kd {base L : Nat} {w w' : World} (h : Kd base w w') : Kf base L w w' := ⟨h.below, fun k c t f hk hd _ => h.keep k c t f hk (fun e => hd (.inl e)) (fun e => hd (.inr (.inl e))) (fun e => hd (.inr (.inr e)))⟩
theorem Kf.fresh {base L : Nat} {w w' : World} (h : Below w.heap.size w w') (hb : base ≤ w.heap.size) : Kf base L w w' := .of_kd (Kd.fresh h hb)
theorem Kf.size {base L : Nat} {w w' : World} (h : Kf base L w w') : w.heap.size ≤ w'.heap.size := h.below.size
theorem Kf.set {base L : Nat} (hb : base ≤ L) (i : Nat) (v : Value) (w : World) : Kf base L w (w.setCell ⟨L, i, none⟩ v) :=
  ⟨(Below.refl base w).setCell (p := ⟨L, i, none⟩) hb v, fun k _ _ _ _ _ hk => Below.heap_setCell w ⟨L, i, none⟩ v k hk⟩
end Go.Proofs.YtkbnjniglngjgaaGreatDoor
