/-
  What disk.marks gives; what Crash's loops lean on.
-/
import Derived.Test.YtkbnjniglngjgaaGreatDoorMD
import Derived.Test.YtkbnjniglngjgaaGreatDoorMA
import Derived.Test.YtkbnjniglngjgaaGreatDoorPPack
namespace Go.Proofs.YtkbnjniglngjgaaGreatDoor
open Go.RowKit Go.Shelf

/-- The slice v holds the numbers ys. -/
def Ints (w : World) (v : Value) (ys : List Int) : Prop :=
  (∀ y ∈ ys, -9223372036854775808 ≤ y ∧ y ≤ 9223372036854775807) ∧
  ∃ ao cap, v = .slice ao ys.length cap ∧ (1 ≤ ys.length → ∃ b off, ao = some ⟨b, off, none⟩ ∧ ∀ j, j < ys.length → w.cell? ⟨b, off + j, none⟩ = some (.int .i64 (ys.getD j 0)))
theorem Ints.below {w w' : World} {v : Value} {ys : List Int} (h : Ints w v ys) {N : Nat} (hb : Below N w w') (hlt : ∀ k a n c, v = .slice (some a) n c → a.block = k → k < N) : Ints w' v ys := by
  obtain ⟨h1, ao, cap, rfl, hc⟩ := h
  refine ⟨h1, ao, cap, rfl, fun hl => ?_⟩
  obtain ⟨b, off, rfl, hx⟩ := hc hl
  exact ⟨b, off, rfl, fun j hj => by rw [hb.cell (p := ⟨b, off + j, none⟩) (hlt b _ _ _ rfl rfl)]; exact hx j hj⟩
theorem ints_nil (w : World) : Ints w (.slice none 0 0) [] := ⟨by simp, none, 0, rfl, fun h => by simp at h⟩
theorem Ints.fresh {w w' : World} {v : Value} {ys : List Int} (h : Ints w v ys) (hb : Below w.heap.size w w') : Ints w' v ys := by
  obtain ⟨h1, ao, cap, rfl, hc⟩ := h
  refine ⟨h1, ao, cap, rfl, fun hl => ?_⟩
  obtain ⟨b, off, rfl, hx⟩ := hc hl
  exact ⟨b, off, rfl, fun j hj => by rw [hb.cell (p := ⟨b, off + j, none⟩) (lt_of_cell (hx 0 (by omega)))]; exact hx j hj⟩

def marksL (ks : List Int) (n : Nat) : List Value := (List.range n).map fun (i : Nat) => Value.bool (decide ((i : Int) ∈ ks))
theorem marksL_nil (n : Nat) : marksL [] n = List.replicate n (.bool false) := by
  apply List.ext_getElem (by simp [marksL])
  intro i h1 h2
  rw [List.getElem_replicate]
  simp [marksL]
theorem marksL_set {ks : List Int} {n : Nat} {k : Nat} (_hk : k < n) : (marksL ks n).set k (.bool true) = marksL (ks ++ [(k : Int)]) n := by
  apply List.ext_getElem (by simp [marksL])
  intro i h1 h2
  simp only [marksL, List.getElem_set, List.getElem_map, List.getElem_range, List.mem_append, List.mem_singleton]
  by_cases h : k = i
  · subst h; simp
  · have : ¬ ((i : Int) = (k : Int)) := by omega
    rw [if_neg h]
    simp [this]
theorem marksL_out {ks : List Int} {n : Nat} {y : Int} (h : ¬ (0 ≤ y ∧ y < n)) : marksL ks n = marksL (ks ++ [y]) n := by
  apply List.ext_getElem (by simp [marksL])
  intro i h1 h2
  have hi : i < n := by simpa [marksL] using h1
  have : ¬ ((i : Int) = y) := by omega
  simp [marksL, this]
theorem infoBool : (Tryz.prog.info? 4).map (fun i => (i.zero, i.size, i.bytes)) = some (some (.bool false), 1, 1) := by kernel_rfl



























































































end Go.Proofs.YtkbnjniglngjgaaGreatDoor

namespace Go.Proofs.YtkbnjniglngjgaaGreatDoor
open Go.RowKit Go.Shelf

attribute [local go_sem] Oper.semAt_some

/-- Of numbered Writes those that are kept. -/
def keptO (keep : List Int) (l : List (Nat × (Nat × List Int))) : List (Nat × List Int) := (l.filter fun x => decide ((x.1 : Int) ∈ keep)).map (·.2)
theorem keptO_items (keep : List Int) (ws : List (Nat × List Int)) : keptO keep (items ws) = kept keep ws := by
  have : ∀ k, keptO keep (itemsFrom k ws) = keptFrom keep k ws := by
    induction ws with
    | nil => intro k; rfl
    | cons x r ih =>
      intro k
      have := ih (k + 1)
      unfold keptO at this ⊢
      by_cases h : (k : Int) ∈ keep
      · simp [itemsFrom, keptFrom, h, ← this]
      · simp [itemsFrom, keptFrom, h, ← this]
  exact this 0
theorem keptO_yes {keep : List Int} {l : List (Nat × (Nat × List Int))} {x : Nat × (Nat × List Int)} (h : (x.1 : Int) ∈ keep) : keptO keep (l ++ [x]) = keptO keep l ++ [x.2] := by simp [keptO, h]
theorem keptO_no {keep : List Int} {l : List (Nat × (Nat × List Int))} {x : Nat × (Nat × List Int)} (h : ¬ (x.1 : Int) ∈ keep) : keptO keep (l ++ [x]) = keptO keep l := by simp [keptO, h]











theorem turn_cells {W W' : World} {row : Option Nat} (hg : W.grownBy W' row) (hr : ∀ r, row = some r → ∃ o : Obj, W.heap[r]? = some o ∧ o.isCells = false) : ∀ (k : Nat) c t f, W.heap[k]? = some (Obj.cells c t f) → W'.heap[k]? = W.heap[k]? := fun k c t f hk => hg.block k (lt_of_heap hk) (fun e => by
    obtain ⟨o, ho, hc⟩ := hr k e.symm
    rw [hk] at ho
    injection ho with e1
    subst e1
    cases hc)





















































































































































































































































































































end Go.Proofs.YtkbnjniglngjgaaGreatDoor

namespace Go.Proofs.YtkbnjniglngjgaaGreatDoor
open Go.RowKit Go.Shelf

/-- All blocks below N but those of P are as they were. -/
structure Kc (N : Nat) (P : Nat → Prop) (W W' : World) : Prop where
  size : W.heap.size ≤ W'.heap.size
  keep : ∀ (k : Nat) (c : Array Value) (t : TypeId) (f : Nat × Nat), k < N → ¬ P k → W.heap[k]? = some (Obj.cells c t f) → W'.heap[k]? = W.heap[k]?
theorem Kc.refl (N : Nat) (P : Nat → Prop) (W : World) : Kc N P W W := ⟨Nat.le_refl _, fun _ _ _ _ _ _ _ => rfl⟩
theorem Kc.trans {N : Nat} {P : Nat → Prop} {A B C : World} (h : Kc N P A B) (k : Kc N P B C) : Kc N P A C :=
  ⟨Nat.le_trans h.size k.size, fun i c t f hi hp hk => (k.keep i c t f hi hp ((h.keep i c t f hi hp hk).trans hk)).trans (h.keep i c t f hi hp hk)⟩
theorem Kc.below {N B : Nat} {P : Nat → Prop} {A C : World} (h : Below B A C) (hB : ∀ k, k < N → ¬ P k → k < B) : Kc N P A C := ⟨h.size, fun k _ _ _ hi hp _ => h.block k (hB k hi hp)⟩
theorem Kc.fresh {N : Nat} {P : Nat → Prop} {A C : World} (h : Below A.heap.size A C) : Kc N P A C := ⟨h.size, fun k _ _ _ _ _ hk => h.block k (lt_of_heap hk)⟩
theorem Kc.putObj (N : Nat) (P : Nat → Prop) (W : World) (l : Nat) (o o' : Obj) (h : W.heap[l]? = some o) (ho : o.isCells = false) : Kc N P W (W.putObj l o') :=
  ⟨(grownBy_putObj' W l o').size, fun k c t f _ _ hk => (grownBy_putObj' W l o').block k (lt_of_heap hk) (fun e => by
    injection e with e
    subst e
    rw [h] at hk
    injection hk with e1
    subst e1
    cases ho)⟩
theorem Kc.row {N g : Nat} {P : Nat → Prop} {W W' : World} (hg : W.grownBy W' (some g)) (hp : P g ∨ N ≤ g) : Kc N P W W' :=
  ⟨hg.size, fun k _ _ _ hi hn hk => hg.block k (lt_of_heap hk) (fun e => by
    injection e with e
    subst e
    rcases hp with h | h
    · exact hn h
    · omega)⟩

def diskT (t : TypeId) : Prop := t = 73 ∨ t = 114 ∨ t = 125
/-- A call on a disk leaves all other blocks alone, as a loop body must. -/
theorem kc_of_kd {w W W' : World} {base base' N : Nat} {P : Nat → Prop} (hk : Kd base w W) (hk' : Kd base' W W') (hP : ∀ k c t f, w.heap[k]? = some (Obj.cells c t f) → diskT t → P k)
    (hbox : ∀ k, w.heap.size ≤ k → k < N → ¬ P k → ∃ c t f, W.heap[k]? = some (Obj.cells c t f) ∧ ¬ diskT t) : Kc N P W W' := by
  refine ⟨hk'.size, fun k c t f hi hp hW => ?_⟩
  have key : ¬ diskT t := by
    intro ht
    rcases Nat.lt_or_ge k w.heap.size with hlt | hge
    · have hw : w.heap[k]? = some w.heap[k] := by simp [hlt]
      cases ho : w.heap[k] with
      | cells c' t' f' =>
        rw [ho] at hw
        by_cases hd : diskT t'
        · exact hp (hP k _ _ _ hw hd)
        · have := hk.keep k _ _ _ hw (fun e => hd (.inl e)) (fun e => hd (.inr (.inl e))) (fun e => hd (.inr (.inr e)))
          rw [hW, hw] at this
          injection this with e
          injection e with _ e _
          subst e
          exact hd ht
      | _ =>
        rw [ho] at hw
        have := hk.others k _ hw (fun _ _ _ e => by cases e)
        rw [hW] at this
        injection this with e
        cases e
    · obtain ⟨c', t', f', h1, h2⟩ := hbox k hge hi hp
      rw [hW] at h1
      injection h1 with e
      injection e with _ e _
      subst e
      exact h2 ht
  exact hk'.keep k _ _ _ hW (fun e => key (.inl e)) (fun e => key (.inr (.inl e))) (fun e => key (.inr (.inr e)))

theorem push5 (a : Array Obj) (x0 x1 x2 x3 x4 : Obj) : (((((a.push x0).push x1).push x2).push x3).push x4)[a.size]? = some x0 ∧ (((((a.push x0).push x1).push x2).push x3).push x4)[a.size + 1]? = some x1 ∧ (((((a.push x0).push x1).push x2).push x3).push x4)[a.size + 2]? = some x2 ∧ (((((a.push x0).push x1).push x2).push x3).push x4)[a.size + 3]? = some x3 ∧ (((((a.push x0).push x1).push x2).push x3).push x4)[a.size + 4]? = some x4 := by
  refine ⟨?_, ?_, ?_, ?_, ?_⟩ <;> simp only [Array.getElem?_push, Array.size_push] <;> repeat (first | rw [if_pos (by omega)] | rw [if_neg (by omega)] | rw [if_pos trivial])
theorem DiskIs.same {W W' : World} {base B n : Nat} {d : Dk} (h : DiskIs W base B n d) (hk : ∀ (k : Nat) c t f, W.heap[k]? = some (Obj.cells c t f) → diskT t → W'.heap[k]? = W.heap[k]?) : DiskIs W' base B n d := by
  have row' : ∀ (e : TypeId) (m : Nat) (v : Value) (bl : List (List Value)), diskT e → Blocks W base e m v bl → Blocks W' base e m v bl := fun e m v bl he hb => hb.same fun k hk' => by
    obtain ⟨c, hc⟩ := own_heap hb.2 hk'
    exact hk k _ _ _ hc he
  obtain ⟨ho, hn, hB, gl, cl, gn, cn, vw, hh, hne, h1, h2, h3⟩ := h
  exact ⟨ho, hn, hB, gl, cl, gn, cn, vw, (hk _ _ _ _ hh (.inl rfl)).trans hh, hne, row' _ _ _ _ (.inr (.inl rfl)) h1, row' _ _ _ _ (.inr (.inl rfl)) h2, row' _ _ _ _ (.inr (.inr rfl)) h3⟩
/-- A store into a box. -/
theorem DiskIs.box {W : World} {base B n : Nat} {d : Dk} {b o : Nat} {c : Array Value} {t : TypeId} {f : Nat × Nat} (h : DiskIs W base B n d) (hb : W.heap[b]? = some (.cells c t f)) (ht : ¬ diskT t) (v : Value) : DiskIs (W.setCell ⟨b, o, none⟩ v) base B n d :=
  h.same fun k c' t' f' hk hd => Below.heap_setCell W ⟨b, o, none⟩ v k (fun e => by
    subst e
    rw [hb] at hk
    injection hk with e1
    injection e1 with _ e2 _
    exact ht (e2 ▸ hd))
theorem box_set {W : World} {b : Nat} {u v : Value} {t : TypeId} (h : W.heap[b]? = some (.cells #[u] t (0, 0))) : (W.setCell ⟨b, 0, none⟩ v).heap[b]? = some (.cells #[v] t (0, 0)) := by
  rw [heap_setCell_same W b 0 _ _ _ h]
  rfl
theorem nd_int : ¬ diskT 3 := by unfold diskT; decide
theorem nd_err : ¬ diskT 26 := by unfold diskT; decide
theorem nd_bytes : ¬ diskT 38 := by unfold diskT; decide
theorem Kd.keep' {base : Nat} {w w' : World} (h : Kd base w w') {k : Nat} {c : Array Value} {t : TypeId} {f : Nat × Nat} (hk : w.heap[k]? = some (.cells c t f)) (ht : ¬ diskT t) : w'.heap[k]? = some (.cells c t f) :=
  (h.keep k _ _ _ hk (fun e => ht (.inl e)) (fun e => ht (.inr (.inl e))) (fun e => ht (.inr (.inr e)))).trans hk
theorem keeps_kd {base : Nat} {W W' : World} (h : Kd base W W') : KeepsOthers W W' := ⟨h.size, fun k o hk ho => h.others k o hk (fun c t f e => by subst e; cases ho)⟩
theorem keepsFrom_drew {B : Nat} {W X : World} (h : KeepsOthers W X) : KeepsFrom B W X.drew := ⟨h.size, fun k o _ hk ho => h.same k o hk ho⟩
theorem keepsFrom_of_drew {B : Nat} {W X : World} (h : KeepsOthers W.drew X) : KeepsFrom B W X := ⟨h.size, fun k o _ hk ho => h.same k o hk ho⟩
theorem cell_kept {W W' : World} {b o : Nat} {c : Array Value} {t : TypeId} {f : Nat × Nat} {row : Option Nat} (h : W.heap[b]? = some (.cells c t f)) (hg : W.grownBy W' row) (hr : ∀ r, row = some r → ∃ o : Obj, W.heap[r]? = some o ∧ o.isCells = false) : W'.cell? ⟨b, o, none⟩ = c[o]? :=
  cell_of_row W' b o _ _ _ ((turn_cells hg hr _ _ _ _ h).trans h)
theorem equal_any {w : World} {u v : Value} {xs ys : List Int} (hu : Bs w u xs) (hv : Bs w v ys) :
    Calls Tryz.prog 53 #[u, v] w fun e w' => e = .returned (.bool (decide (xs = ys))) ∧ w' = w := by
  have c1 := hu.conv
  have c2 := hv.conv
  have hb1 := hu.byte
  have hb2 := hv.byte
  obtain ⟨S1, hS1⟩ : ∃ S, S = strOfNums xs := ⟨_, rfl⟩
  obtain ⟨S2, hS2⟩ : ∃ S, S = strOfNums ys := ⟨_, rfl⟩
  rw [← hS1] at c1
  rw [← hS2] at c2
  have he : (S1.toList == S2.toList) = decide (xs = ys) := by
    by_cases h : xs = ys
    · rw [hS1, hS2, h]; simp
    · rw [decide_eq_false h, beq_eq_false_iff_ne, ByteArray.toList_eq, ByteArray.toList_eq, hS1, hS2]
      exact fun hx => h (strOfNums_inj hb1 hb2 hx)
  clear hu hv hb1 hb2 hS1 hS2
  have HE := hid he
  clear he
  go_enter Tryz.func53, Tryz.ntmps53
  go_wp2
  go_ret
  exact ⟨by rw [← HE.out]; rfl, rfl⟩
end Go.Proofs.YtkbnjniglngjgaaGreatDoor

namespace Go.Proofs.YtkbnjniglngjgaaGreatDoor
open Go.RowKit

theorem write_bad {w : World} {base B n : Nat} {d : Dk} (h : DiskIs w base B n d) {i : Int} {ao : Option Addr} {len cap : Nat} (hbad : ¬ (0 ≤ i ∧ i < n) ∨ len ≠ 64) :
    Calls Tryz.prog 54 #[.pointer (some ⟨B, 0, none⟩), .int .i64 i, .slice ao len cap] w fun e w' => e = .returned (.int .i64 1) ∧ w' = w := by
  have HH := hid (has_any h i)
  clear h
  by_cases hi : 0 ≤ i ∧ i < (n : Int)
  · have hd : decide (0 ≤ i ∧ i < (n : Int)) = true := by simpa using hi
    have hl : len ≠ 64 := by rcases hbad with hb | hb; exact absurd hi hb; exact hb
    have hlI : ¬ ((len : Int) = 64) := by omega
    rw [hd] at HH
    clear hbad hi hd hl
    go_enter Tryz.func54, Tryz.ntmps54
    go_wp2_with (go_at_call 70; refine HH.out.mono ?_; rintro e w2 ⟨rfl, hw⟩; have hw' := hw.symm; clear hw; subst hw')
    go_ret
    exact ⟨rfl, rfl⟩
  · have hd : decide (0 ≤ i ∧ i < (n : Int)) = false := by simpa using hi
    rw [hd] at HH
    clear hbad hi hd
    go_enter Tryz.func54, Tryz.ntmps54
    go_wp2_with (go_at_call 70; refine HH.out.mono ?_; rintro e w2 ⟨rfl, hw⟩; have hw' := hw.symm; clear hw; subst hw')
    go_ret
    exact ⟨rfl, rfl⟩
theorem write_dead {w : World} {base B n : Nat} {d : Dk} (h : DiskIs w base B n d) {i : Int} (hi : 0 ≤ i ∧ i < n) (hd : d.left = 0) {ao : Option Addr} {cap : Nat} :
    Calls Tryz.prog 54 #[.pointer (some ⟨B, 0, none⟩), .int .i64 i, .slice ao 64 cap] w fun e w' => e = .returned (.int .i64 50) ∧ w' = w := by
  have HH := hid (has_any h i)
  have hd' : decide (0 ≤ i ∧ i < (n : Int)) = true := by simpa using hi
  have HD := hid (dead_any h)
  have hd2 : (d.left == 0) = true := by simpa using hd
  rw [hd'] at HH
  rw [hd2] at HD
  clear h hi hd hd' hd2
  go_enter Tryz.func54, Tryz.ntmps54
  go_wp2_with (first | (go_at_call 70; refine HH.out.mono ?_; rintro e w2 ⟨rfl, hw⟩; have hw' := hw.symm; clear hw; subst hw') | (go_at_call 37; refine HD.out.mono ?_; rintro e w2 ⟨rfl, hw⟩; have hw' := hw.symm; clear hw; subst hw'))
  go_ret
  exact ⟨rfl, rfl⟩
end Go.Proofs.YtkbnjniglngjgaaGreatDoor

namespace Go.Proofs.YtkbnjniglngjgaaGreatDoor
open Go.RowKit

/-- A File behind the pointer to block F. -/
def FileIs (w : World) (base F B p0 np : Nat) (half : Bool) : Prop :=
  base ≤ F ∧ w.heap[F]? = some (.cells #[.pointer (some ⟨B, 0, none⟩), .int .i64 p0, .int .i64 np, .bool half] 76 (0, 0))
theorem FileIs.kd {w w' : World} {base base' F B p0 np : Nat} {half : Bool} (h : FileIs w base F B p0 np half) (hk : Kd base' w w') : FileIs w' base F B p0 np half :=
  ⟨h.1, (hk.keep _ _ _ _ h.2 (by decide) (by decide) (by decide)).trans h.2⟩
theorem FileIs.below {w w' : World} {base F B p0 np : Nat} {half : Bool} (h : FileIs w base F B p0 np half) (hb : Below w.heap.size w w') : FileIs w' base F B p0 np half :=
  ⟨h.1, (hb.block _ (lt_of_heap h.2)).trans h.2⟩
theorem FileIs.cells {w : World} {base F B p0 np : Nat} {half : Bool} (h : FileIs w base F B p0 np half) :
    w.cell? ⟨F, 0, none⟩ = some (.pointer (some ⟨B, 0, none⟩)) ∧ w.cell? ⟨F, 1, none⟩ = some (.int .i64 p0) ∧ w.cell? ⟨F, 2, none⟩ = some (.int .i64 np) ∧ w.cell? ⟨F, 3, none⟩ = some (.bool half) :=
  ⟨cell_of_row w F 0 _ _ _ h.2, cell_of_row w F 1 _ _ _ h.2, cell_of_row w F 2 _ _ _ h.2, cell_of_row w F 3 _ _ _ h.2⟩

theorem need_any (k : Int) (w : World) (h : k ≤ 1099511627776) :
    Calls Tryz.prog 11 #[.int .i64 k] w fun e w' => e = .returned (.int .i64 (8 * max k 1 + 80)) ∧ w' = w := by
  by_cases h1 : k < 1
  · have e : max k 1 = 1 := by omega
    rw [e]
    clear e
    go_enter Tryz.func11, Tryz.ntmps11
    go_wp2
    all_goals
      go_ret
      exact ⟨by first | rfl | (congr 2; omega), rfl⟩
  · have e : max k 1 = k := by omega
    rw [e]
    clear e
    go_enter Tryz.func11, Tryz.ntmps11
    go_wp2
    all_goals
      go_ret
      exact ⟨by first | rfl | (congr 2; omega), rfl⟩

theorem pages_any {w : World} {base F B p0 np : Nat} {half : Bool} (h : FileIs w base F B p0 np half) :
    Calls Tryz.prog 30 #[.pointer (some ⟨F, 0, none⟩)] w fun e w' => e = .returned (.int .i64 np) ∧ w' = w := by
  obtain ⟨c0, c1, c2, c3⟩ := h.cells
  clear h
  go_enter Tryz.func30, Tryz.ntmps30
  go_wp2
  go_ret
  exact ⟨rfl, rfl⟩


theorem phas_any {w : World} {base F B p0 np : Nat} {half : Bool} (h : FileIs w base F B p0 np half) (i : Int) :
    Calls Tryz.prog 32 #[.pointer (some ⟨F, 0, none⟩), .int .i64 i] w fun e w' => e = .returned (.bool (decide (0 ≤ i ∧ i < np))) ∧ w' = w := by
  obtain ⟨c0, c1, c2, c3⟩ := h.cells
  clear h
  by_cases h0 : 0 ≤ i
  · have hd : decide (0 ≤ i ∧ i < (np : Int)) = decide (i < (np : Int)) := by simp [h0]
    rw [hd]
    clear hd
    go_enter Tryz.func32, Tryz.ntmps32
    go_wp2
    go_ret
    exact ⟨rfl, rfl⟩
  · have hd : decide (0 ≤ i ∧ i < (np : Int)) = false := by simp [h0]
    rw [hd]
    clear hd
    have hd2 : decide (0 ≤ i) = false := by simp [h0]
    go_enter Tryz.func32, Tryz.ntmps32
    go_wp2
    go_ret
    exact ⟨rfl, rfl⟩
theorem place_any {w : World} {base F B p0 np : Nat} {half : Bool} (h : FileIs w base F B p0 np half) {k : Nat} (hp : p0 ≤ 65536) (hk : k ≤ 65536) :
    Calls Tryz.prog 45 #[.pointer (some ⟨F, 0, none⟩), .int .i64 k] w fun e w' => e = .returned (.int .i64 ((p0 + k * 8 : Nat) : Int)) ∧ w' = w := by
  obtain ⟨c0, c1, c2, c3⟩ := h.cells
  clear h
  go_enter Tryz.func45, Tryz.ntmps45
  go_wp2
  go_ret
  exact ⟨rfl, rfl⟩
theorem journal_any {w : World} {base F B p0 np : Nat} {half : Bool} (h : FileIs w base F B p0 np half) (hp : p0 ≤ 65536) (hk : np ≤ 65536) :
    Calls Tryz.prog 88 #[.pointer (some ⟨F, 0, none⟩)] w fun e w' => e = .returned (.int .i64 ((p0 + np * 8 : Nat) : Int)) ∧ w' = w := by
  obtain ⟨c0, c1, c2, c3⟩ := h.cells
  have HP := hid (place_any h hp hk)
  clear h
  go_enter Tryz.func88, Tryz.ntmps88
  go_wp2_with (go_at_call 45; refine HP.out.mono ?_; rintro e w2 ⟨rfl, hw⟩; have hw' := hw.symm; clear hw; subst hw')
  go_ret
  exact ⟨rfl, rfl⟩

/-- Noughts alone? -/
def allZ (zs : List Int) : Bool := zs.all (· == 0)
theorem allZ_take {zs : List Int} {k : Nat} {c : Int} (hk : k < zs.length) (hc : c = zs.getD k 0) (h : allZ (zs.take k) = true) : allZ (zs.take (k + 1)) = (c == 0) := by
  unfold allZ at *
  rw [take_at hc hk, List.all_append, h]
  simp
theorem allZ_not {zs : List Int} {k : Nat} (hk : k < zs.length) (hc : (zs.getD k 0 == 0) = false) : allZ zs = false := by
  unfold allZ
  rw [List.all_eq_false]
  refine ⟨zs[k], List.getElem_mem hk, ?_⟩
  have e : zs.getD k 0 = zs[k] := by simp [hk]
  rw [e] at hc
  simp [hc]
theorem isNot_any (c : Int) (w : World) :
    Calls Tryz.prog 72 #[.int .u8 c] w fun e w' => e = .returned (.bool (!(c == 0))) ∧ w' = w := by
  go_enter Tryz.func72, Tryz.ntmps72
  go_wp2
  go_ret
  exact ⟨by first | rfl | simp, rfl⟩
theorem index_any {w : World} {v : Value} {zs : List Int} (h : Bs w v zs) :
    Calls Tryz.prog 93 #[v, .func (.func 72) #[] #[]] w fun e w' => ∃ i : Int, e = .returned (.int .i64 i) ∧ decide (0 ≤ i) = !allZ zs ∧ w' = w := by
  obtain ⟨ao, cap, rfl, hop⟩ := h.open
  have hl := h.2.1
  obtain ⟨n, hn⟩ : ∃ n, n = zs.length := ⟨_, rfl⟩
  rw [← hn] at hop hl ⊢
  have HO := hid hop
  have HN := hid hn
  clear h hop hn
  go_enter Tryz.func93, Tryz.ntmps93
  go_wp2
  go_loop [5, 8] (fun _ i => ∃ k : Nat, k ≤ n ∧ i = .int .i64 k ∧ allZ (zs.take k) = true) (fun _ i => n - (intOf i).toNat)
  case atStart => exact ⟨0, by omega, rfl, rfl⟩
  case round =>
    obtain ⟨k, hk, rfl, hz⟩ := hrel
    have HZ := hid hz
    clear hz
    by_cases hlt : k < n
    · obtain ⟨b, off, rfl, hc⟩ := HO.out (by omega)
      have hck := hc k (by have := HN.out; omega)
      obtain ⟨c, hcc⟩ : ∃ c, c = zs.getD k 0 := ⟨_, rfl⟩
      rw [← hcc] at hck
      have HC := hid hcc
      have hkI : (k : Int) < (n : Int) := by omega
      clear hc hcc
      by_cases hc0 : (c == 0) = true
      · have hn0 : (!(c == 0)) = false := by simp [hc0]
        have HC0 := hid hc0
        clear hc0
        go_wp2_with (go_at_call 72; refine (isNot_any _ _).mono ?_; rintro e w2 ⟨rfl, hw⟩; have hw' := hw.symm; clear hw; subst hw')
        go_round
        case rel => exact ⟨k + 1, by omega, by go_num, by rw [allZ_take (by have := HN.out; omega) HC.out HZ.out]; exact HC0.out⟩
        case measure => simp [intOf]; omega
      · have hc1 : (c == 0) = false := by simpa using hc0
        have hn0 : (!(c == 0)) = true := by simp [hc1]
        have HC0 := hid hc1
        clear hc0 hc1
        go_wp2_with (go_at_call 72; refine (isNot_any _ _).mono ?_; rintro e w2 ⟨rfl, hw⟩; have hw' := hw.symm; clear hw; subst hw')
        go_ret
        refine ⟨_, rfl, ?_, rfl⟩
        rw [allZ_not (k := k) (by have := HN.out; omega) (by rw [← HC.out]; exact HC0.out)]
        simp
    · have HF : Hid (allZ zs = true) := by
        have := HZ.out
        rw [List.take_of_length_le (by have := HN.out; omega)] at this
        exact this
      go_wp2
      go_ret
      refine ⟨_, rfl, ?_, rfl⟩
      rw [HF.out]
      rfl
theorem contains_any {w : World} {v : Value} {zs : List Int} (h : Bs w v zs) :
    Calls Tryz.prog 71 #[v, .func (.func 72) #[] #[]] w fun e w' => e = .returned (.bool (!allZ zs)) ∧ w' = w := by
  have HI := hid (index_any h)
  obtain ⟨ao, cap, rfl, _⟩ := h.open
  clear h
  go_enter Tryz.func71, Tryz.ntmps71
  go_wp2_with (go_at_call 93; refine HI.out.mono ?_; rintro e w2 ⟨i, rfl, hi, hw⟩; have hw' := hw.symm; clear hw; subst hw'; have HI2 := hid hi; clear hi)
  go_ret
  exact ⟨by first | (rw [← HI2.out]; rfl) | (rw [HI2.out]), rfl⟩
theorem noughts_any {w : World} {v : Value} {zs : List Int} (h : Bs w v zs) :
    Calls Tryz.prog 46 #[v] w fun e w' => e = .returned (.bool (allZ zs)) ∧ w' = w := by
  have HI := hid (contains_any h)
  obtain ⟨ao, cap, rfl, _⟩ := h.open
  clear h
  obtain ⟨z, hz⟩ : ∃ z, allZ zs = z := ⟨_, rfl⟩
  rw [hz] at HI ⊢
  clear hz
  go_enter Tryz.func46, Tryz.ntmps46
  go_wp2_with (go_at_call 71; refine HI.out.mono ?_; rintro e w2 ⟨rfl, hw⟩; have hw' := hw.symm; clear hw; subst hw')
  go_ret
  exact ⟨by cases z <;> rfl, rfl⟩

theorem count_any {w : World} {v : Value} {zs : List Int} (h : Bs w v zs) :
    Calls Tryz.prog 89 #[v] w fun e w' => e = .returned (.int .i64 (countOf zs)) ∧ w' = w := by
  have HV := hid (var_bs h)
  obtain ⟨ao, cap, rfl, _⟩ := h.open
  have HC : Hid (countOf zs = if (dec 0 0 zs).2.2 ≠ 0 ∨ 8 < (dec 0 0 zs).1 then 0 else (dec 0 0 zs).1.toNat) := rfl
  have hx0 : 0 ≤ (dec 0 0 zs).1 := dec_nonneg zs 0 0 (by omega)
  clear h
  generalize (dec 0 0 zs).1 = X at *
  generalize (dec 0 0 zs).2.1 = N at *
  generalize (dec 0 0 zs).2.2 = E at *
  by_cases hE : E = 0
  · subst hE
    have hd : ((0 : Int) != 0) = false := rfl
    by_cases h8 : 8 < X
    · have hc : countOf zs = 0 := by rw [HC.out, if_pos (.inr h8)]
      rw [hc]
      clear hc
      go_enter Tryz.func89, Tryz.ntmps89
      go_wp2_with (go_at_call 73; refine HV.out.mono ?_; rintro e w2 ⟨rfl, hw⟩; have hw' := hw.symm; clear hw; subst hw')
      go_ret
      exact ⟨rfl, rfl⟩
    · have hc : ((countOf zs : Nat) : Int) = X := by rw [HC.out, if_neg (by omega)]; omega
      rw [hc]
      clear hc
      go_enter Tryz.func89, Tryz.ntmps89
      go_wp2_with (go_at_call 73; refine HV.out.mono ?_; rintro e w2 ⟨rfl, hw⟩; have hw' := hw.symm; clear hw; subst hw')
      go_ret
      exact ⟨rfl, rfl⟩
  · have hd : (E != 0) = true := by simpa using hE
    have hc : countOf zs = 0 := by rw [HC.out, if_pos (.inl hE)]
    rw [hc]
    clear hc hE
    go_enter Tryz.func89, Tryz.ntmps89
    go_wp2_with (go_at_call 73; refine HV.out.mono ?_; rintro e w2 ⟨rfl, hw⟩; have hw' := hw.symm; clear hw; subst hw')
    go_ret
    exact ⟨rfl, rfl⟩
end Go.Proofs.YtkbnjniglngjgaaGreatDoor
