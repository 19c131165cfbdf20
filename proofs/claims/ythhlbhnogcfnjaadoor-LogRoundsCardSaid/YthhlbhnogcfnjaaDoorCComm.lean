/-
  What several layers lean on: what a round of a loop over an iterator keeps; boxes beside a disk; bytes.Equal.
-/
import Derived.Test.YthhlbhnogcfnjaaDoorMA
import Derived.Test.YthhlbhnogcfnjaaDoorPPack
import Derived.Test.YthhlbhnogcfnjaaDoorDCrash
namespace Go.Proofs.YthhlbhnogcfnjaaDoor
open Go.RowKit Go.Shelf

/-- All blocks below N but those of P are as they were. -/
structure Kc (N : Nat) (P : Nat → Prop) (W W' : World) : Prop where
  size : W.heap.size ≤ W'.heap.size
  keep : ∀ (k : Nat) (c : Array Value) (t : TypeId) (f : Nat × Nat), k < N → ¬ P k → W.heap[k]? = some (Obj.cells c t f) → W'.heap[k]? = W.heap[k]?
theorem Kc.refl (N : Nat) (P : Nat → Prop) (W : World) : Kc N P W W := ⟨Nat.le_refl _, fun _ _ _ _ _ _ _ => rfl⟩
theorem Kc.trans {N : Nat} {P : Nat → Prop} {A B C : World} (h : Kc N P A B) (k : Kc N P B C) : Kc N P A C :=
  ⟨Nat.le_trans h.size k.size, fun i c t f hi hp hk => (k.keep i c t f hi hp ((h.keep i c t f hi hp hk).trans hk)).trans (h.keep i c t f hi hp hk)⟩
theorem Kc.below {N B : Nat} {P : Nat → Prop} {A C : World} (h : Below B A C) (hB : ∀ k, k < N → ¬ P k → k < B) : Kc N P A C := ⟨h.size, fun k _ _ _ hi hp _ => h.block k (hB k hi hp)⟩
theorem Kc.fresh {N : Nat} {P : Nat → Prop} {A C : World} (h : Below A.heap.size A C) : Kc N P A C := ⟨h.size, fun k _ _ _ _ _ hk => h.block k (lt_of_heap hk)⟩
theorem Kc.putObj (N : Nat) (P : Nat → Prop) (W : World) (l : Nat) (o o' : Obj) (h : W.heap[l]? = some o) (ho : o.isCells = false) : Kc N P W (W.putObj l o') :=
  ⟨(grownBy_putObj' W l o').size, fun k c t f _ _ hk => (grownBy_putObj' W l o').block k (lt_of_heap hk) (fun e => by
    injection e with e
    subst e
    rw [h] at hk
    injection hk with e1
    subst e1
    cases ho)⟩
theorem Kc.row {N g : Nat} {P : Nat → Prop} {W W' : World} (hg : W.grownBy W' (some g)) (hp : P g ∨ N ≤ g) : Kc N P W W' :=
  ⟨hg.size, fun k _ _ _ hi hn hk => hg.block k (lt_of_heap hk) (fun e => by
    injection e with e
    subst e
    rcases hp with h | h
    · exact hn h
    · omega)⟩

def diskT (t : TypeId) : Prop := t = 46 ∨ t = 67 ∨ t = 69
/-- A call on a disk leaves all other blocks alone, as a loop body must. -/
theorem kc_of_kd {w W W' : World} {base base' N : Nat} {P : Nat → Prop} (hk : Kd base w W) (hk' : Kd base' W W') (hP : ∀ k c t f, w.heap[k]? = some (Obj.cells c t f) → diskT t → P k)
    (hbox : ∀ k, w.heap.size ≤ k → k < N → ¬ P k → ∃ c t f, W.heap[k]? = some (Obj.cells c t f) ∧ ¬ diskT t) : Kc N P W W' := by
  refine ⟨hk'.size, fun k c t f hi hp hW => ?_⟩
  have key : ¬ diskT t := by
    intro ht
    rcases Nat.lt_or_ge k w.heap.size with hlt | hge
    · have hw : w.heap[k]? = some w.heap[k] := by simp [hlt]
      cases ho : w.heap[k] with
      | cells c' t' f' =>
        rw [ho] at hw
        by_cases hd : diskT t'
        · exact hp (hP k _ _ _ hw hd)
        · have := hk.keep k _ _ _ hw (fun e => hd (.inl e)) (fun e => hd (.inr (.inl e))) (fun e => hd (.inr (.inr e)))
          rw [hW, hw] at this
          injection this with e
          injection e with _ e _
          subst e
          exact hd ht
      | _ =>
        rw [ho] at hw
        have := hk.others k _ hw (fun _ _ _ e => by cases e)
        rw [hW] at this
        injection this with e
        cases e
    · obtain ⟨c', t', f', h1, h2⟩ := hbox k hge hi hp
      rw [hW] at h1
      injection h1 with e
      injection e with _ e _
      subst e
      exact h2 ht
  exact hk'.keep k _ _ _ hW (fun e => key (.inl e)) (fun e => key (.inr (.inl e))) (fun e => key (.inr (.inr e)))

theorem push5 (a : Array Obj) (x0 x1 x2 x3 x4 : Obj) : (((((a.push x0).push x1).push x2).push x3).push x4)[a.size]? = some x0 ∧ (((((a.push x0).push x1).push x2).push x3).push x4)[a.size + 1]? = some x1 ∧ (((((a.push x0).push x1).push x2).push x3).push x4)[a.size + 2]? = some x2 ∧ (((((a.push x0).push x1).push x2).push x3).push x4)[a.size + 3]? = some x3 ∧ (((((a.push x0).push x1).push x2).push x3).push x4)[a.size + 4]? = some x4 := by
  refine ⟨?_, ?_, ?_, ?_, ?_⟩ <;> simp only [Array.getElem?_push, Array.size_push] <;> repeat (first | rw [if_pos (by omega)] | rw [if_neg (by omega)] | rw [if_pos trivial])
theorem DiskIs.same {W W' : World} {base B n : Nat} {d : Dk} (h : DiskIs W base B n d) (hk : ∀ (k : Nat) c t f, W.heap[k]? = some (Obj.cells c t f) → diskT t → W'.heap[k]? = W.heap[k]?) : DiskIs W' base B n d := by
  have row' : ∀ (e : TypeId) (m : Nat) (v : Value) (bl : List (List Value)), diskT e → Blocks W base e m v bl → Blocks W' base e m v bl := fun e m v bl he hb => hb.same fun k hk' => by
    obtain ⟨c, hc⟩ := own_heap hb.2 hk'
    exact hk k _ _ _ hc he
  obtain ⟨ho, hn, hB, gl, cl, gn, cn, vw, hh, hne, h1, h2, h3⟩ := h
  exact ⟨ho, hn, hB, gl, cl, gn, cn, vw, (hk _ _ _ _ hh (.inl rfl)).trans hh, hne, row' _ _ _ _ (.inr (.inl rfl)) h1, row' _ _ _ _ (.inr (.inl rfl)) h2, row' _ _ _ _ (.inr (.inr rfl)) h3⟩
/-- A store into a box. -/
theorem DiskIs.box {W : World} {base B n : Nat} {d : Dk} {b o : Nat} {c : Array Value} {t : TypeId} {f : Nat × Nat} (h : DiskIs W base B n d) (hb : W.heap[b]? = some (.cells c t f)) (ht : ¬ diskT t) (v : Value) : DiskIs (W.setCell ⟨b, o, none⟩ v) base B n d :=
  h.same fun k c' t' f' hk hd => Below.heap_setCell W ⟨b, o, none⟩ v k (fun e => by
    subst e
    rw [hb] at hk
    injection hk with e1
    injection e1 with _ e2 _
    exact ht (e2 ▸ hd))
theorem box_set {W : World} {b : Nat} {u v : Value} {t : TypeId} (h : W.heap[b]? = some (.cells #[u] t (0, 0))) : (W.setCell ⟨b, 0, none⟩ v).heap[b]? = some (.cells #[v] t (0, 0)) := by
  rw [heap_setCell_same W b 0 _ _ _ h]
  rfl
theorem nd_int : ¬ diskT 3 := by unfold diskT; decide
theorem nd_err : ¬ diskT 23 := by unfold diskT; decide
theorem nd_bytes : ¬ diskT 32 := by unfold diskT; decide
theorem Kd.keep' {base : Nat} {w w' : World} (h : Kd base w w') {k : Nat} {c : Array Value} {t : TypeId} {f : Nat × Nat} (hk : w.heap[k]? = some (.cells c t f)) (ht : ¬ diskT t) : w'.heap[k]? = some (.cells c t f) :=
  (h.keep k _ _ _ hk (fun e => ht (.inl e)) (fun e => ht (.inr (.inl e))) (fun e => ht (.inr (.inr e)))).trans hk
theorem keeps_kd {base : Nat} {W W' : World} (h : Kd base W W') : KeepsOthers W W' := ⟨h.size, fun k o hk ho => h.others k o hk (fun c t f e => by subst e; cases ho)⟩
theorem keepsFrom_drew {B : Nat} {W X : World} (h : KeepsOthers W X) : KeepsFrom B W X.drew := ⟨h.size, fun k o _ hk ho => h.same k o hk ho⟩
theorem keepsFrom_of_drew {B : Nat} {W X : World} (h : KeepsOthers W.drew X) : KeepsFrom B W X := ⟨h.size, fun k o _ hk ho => h.same k o hk ho⟩
theorem cell_kept {W W' : World} {b o : Nat} {c : Array Value} {t : TypeId} {f : Nat × Nat} {row : Option Nat} (h : W.heap[b]? = some (.cells c t f)) (hg : W.grownBy W' row) (hr : ∀ r, row = some r → ∃ o : Obj, W.heap[r]? = some o ∧ o.isCells = false) : W'.cell? ⟨b, o, none⟩ = c[o]? :=
  cell_of_row W' b o _ _ _ ((turn_cells hg hr _ _ _ _ h).trans h)
theorem equal_any {w : World} {u v : Value} {xs ys : List Int} (hu : Bs w u xs) (hv : Bs w v ys) :
    Calls Tryd.prog 40 #[u, v] w fun e w' => e = .returned (.bool (decide (xs = ys))) ∧ w' = w := by
  have c1 := hu.conv
  have c2 := hv.conv
  have hb1 := hu.byte
  have hb2 := hv.byte
  obtain ⟨S1, hS1⟩ : ∃ S, S = strOfNums xs := ⟨_, rfl⟩
  obtain ⟨S2, hS2⟩ : ∃ S, S = strOfNums ys := ⟨_, rfl⟩
  rw [← hS1] at c1
  rw [← hS2] at c2
  have he : (S1.toList == S2.toList) = decide (xs = ys) := by
    by_cases h : xs = ys
    · rw [hS1, hS2, h]; simp
    · rw [decide_eq_false h, beq_eq_false_iff_ne, ByteArray.toList_eq, ByteArray.toList_eq, hS1, hS2]
      exact fun hx => h (strOfNums_inj hb1 hb2 hx)
  clear hu hv hb1 hb2 hS1 hS2
  have HE := hid he
  clear he
  go_enter Tryd.func40, Tryd.ntmps40
  go_wp2
  go_ret
  exact ⟨by rw [← HE.out]; rfl, rfl⟩
end Go.Proofs.YthhlbhnogcfnjaaDoor
