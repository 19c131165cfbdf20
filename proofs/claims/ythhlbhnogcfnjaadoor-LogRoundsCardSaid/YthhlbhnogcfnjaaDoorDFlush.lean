/-
  What disk.Flush gives.
-/
import Derived.Test.YthhlbhnogcfnjaaDoorDIter
namespace Go.Proofs.YthhlbhnogcfnjaaDoor
open Go.RowKit Go.Shelf

attribute [local go_sem] Oper.semAt_some

/-- A disk amid a range over what waits: the box of the receiver, the struct, the rows; the sectors as they stand. -/
structure Fl (w : World) (base B n : Nat) (d : Dk) (gl cl gn cn : Nat) (vw : Value) (Bx : Nat) (last now : List (List Int)) (W : World) : Prop where
  box : W.heap[Bx]? = some (.cells #[.pointer (some ⟨B, 0, none⟩)] 22 (0, 0))
  str : W.heap[B]? = some (.cells #[.slice (some ⟨gl, 0, none⟩) n cl, .slice (some ⟨gn, 0, none⟩) n cn, vw, .int .i64 d.writes, .int .i64 d.left] 46 (0, 0))
  bl : Blocks W base 67 64 (.slice (some ⟨gl, 0, none⟩) n cl) (last.map secV)
  bn : Blocks W base 67 64 (.slice (some ⟨gn, 0, none⟩) n cn) (now.map secV)
  bw : Blocks W base 69 65 vw (d.wait.map wrV)
  kd : Kd base w W
theorem not_cells {o : Obj} (h : o.isCells = false) : ∀ c t f, o ≠ .cells c t f := fun c t f e => by subst e; cases h
theorem is_cells {o : Obj} (h : ∀ c t f, o ≠ .cells c t f) : o.isCells = false := by cases o <;> first | rfl | exact absurd rfl (h _ _ _)

theorem Fl.turn {w W W' : World} {base B n : Nat} {d : Dk} {gl cl gn cn : Nat} {vw : Value} {Bx : Nat} {last now : List (List Int)} {row : Option Nat} (h : Fl w base B n d gl cl gn cn vw Bx last now W) (hb : base ≤ w.heap.size) (hg : W.grownBy W' row)
    (hr : ∀ r, row = some r → w.heap.size ≤ r ∧ ∃ o : Obj, W.heap[r]? = some o ∧ o.isCells = false) : Fl w base B n d gl cl gn cn vw Bx last now W' := by
  have key : ∀ k c t f, W.heap[k]? = some (Obj.cells c t f) → W'.heap[k]? = W.heap[k]? := fun k c t f hk => hg.block k (lt_of_heap hk) (fun e => by
    obtain ⟨_, o, ho, hc⟩ := hr k e.symm
    rw [hk] at ho
    injection ho with e1
    subst e1
    cases hc)
  have row' : ∀ (e : TypeId) (m : Nat) (v : Value) (bl : List (List Value)), Blocks W base e m v bl → Blocks W' base e m v bl := fun e m v bl hb => hb.same fun k hk => by
    obtain ⟨c, hc⟩ := own_heap hb.2 hk
    exact key k _ _ _ hc
  refine ⟨(key _ _ _ _ h.box).trans h.box, (key _ _ _ _ h.str).trans h.str, row' _ _ _ _ h.bl, row' _ _ _ _ h.bn, row' _ _ _ _ h.bw, ?_⟩
  refine ⟨h.kd.below.grown hg (by have := h.kd.size; omega) (fun k e => by have := (hr k e).1; omega), fun k c t f hk h1 h2 h3 => ?_, fun k o hk ho => ?_⟩
  · have e := h.kd.keep k c t f hk h1 h2 h3
    exact (key k c t f (e.trans hk)).trans e
  · have e := h.kd.others k o hk ho
    exact (hg.block k (lt_of_heap e) (fun e' => by have := (hr k e'.symm).1; have := lt_of_heap hk; omega)).trans e
theorem Fl.fresh {w W W' : World} {base B n : Nat} {d : Dk} {gl cl gn cn : Nat} {vw : Value} {Bx : Nat} {last now : List (List Int)} (h : Fl w base B n d gl cl gn cn vw Bx last now W) (hb : base ≤ w.heap.size) (hf : Below W.heap.size W W') : Fl w base B n d gl cl gn cn vw Bx last now W' :=
  ⟨(hf.block _ (lt_of_heap h.box)).trans h.box, (hf.block _ (lt_of_heap h.str)).trans h.str, h.bl.below hf, h.bn.below hf, h.bw.below hf, h.kd.trans (Kd.fresh hf (by have := h.kd.size; omega))⟩
theorem grown_drewSet (W : World) (g o : Nat) (vs : List Value) : W.grownBy (W.drew.setCells g o vs) (some g) := by
  have h := grown_setCells g vs o W.drew
  exact ⟨h.os, h.tape, h.output, h.size, h.block⟩
theorem Fl.setRow {w W : World} {base B n : Nat} {d : Dk} {gl cl gn cn : Nat} {vw : Value} {Bx : Nat} {last now : List (List Int)} (h : Fl w base B n d gl cl gn cn vw Bx last now W) (hb : base ≤ w.heap.size) {g : Nat} {c : Array Value} (hg : W.heap[g]? = some (.cells c 67 (0, 0))) (hgb : base ≤ g) (o : Nat) (vs : List Value) :
    (W.drew.setCells g o vs).heap[Bx]? = W.heap[Bx]? ∧ (W.drew.setCells g o vs).heap[B]? = W.heap[B]? ∧ Blocks (W.drew.setCells g o vs) base 69 65 vw (d.wait.map wrV) ∧ Kd base w (W.drew.setCells g o vs) ∧ Ks W (W.drew.setCells g o vs) ∧ ∀ B', KeepsFrom B' W (W.drew.setCells g o vs) := by
  have hgr := grown_drewSet W g o vs
  have ks : Ks W (W.drew.setCells g o vs) := Ks.row hgr hg
  exact ⟨ks.keep _ _ _ _ h.box (by decide), ks.keep _ _ _ _ h.str (by decide), h.bw.ks ks (by decide), h.kd.trans (Kd.row hgr hgb (by have := h.kd.size; omega) hg (.inr (.inl rfl))), ks,
    fun B' => ⟨hgr.size, fun k o' _ hk ho => (hgr.block k (lt_of_heap hk) (fun e => by injection e with e; subst e; rw [hg] at hk; injection hk with e1; subst e1; cases ho)).trans hk⟩⟩
theorem Fl.setLast {w W : World} {base B n : Nat} {d : Dk} {gl cl gn cn : Nat} {vw : Value} {Bx : Nat} {last now : List (List Int)} (h : Fl w base B n d gl cl gn cn vw Bx last now W) (hb : base ≤ w.heap.size) (hne : gl ≠ gn) (hl : last.length = n) {i : Nat} (hi : i < n) {s : List Int} (hs : Sec s) :
    Fl w base B n d gl cl gn cn vw Bx (last.set i s) now (W.drew.setCells gl (i * 64) (secV s)) ∧ Ks W (W.drew.setCells gl (i * 64) (secV s)) ∧ ∀ B', KeepsFrom B' W (W.drew.setCells gl (i * 64) (secV s)) := by
  obtain ⟨c, hc⟩ := own_heap h.bl.2 (k := gl) rfl
  obtain ⟨e1, e2, e3, e4, e5, e6⟩ := h.setRow hb hc (own_base h.bl.2 gl rfl) (i * 64) (secV s)
  have hgr := grown_drewSet W gl (i * 64) (secV s)
  refine ⟨⟨e1.trans h.box, e2.trans h.str, ?_, ?_, e3, e4⟩, e5, e6⟩
  · have hd : Blocks W.drew base 67 64 (.slice (some ⟨gl, 0, none⟩) n cl) (last.map secV) := h.bl.same fun _ _ => rfl
    have := hd.set (by simp [hl]) (i := i) (by simp [hl, hi]) (b := secV s) (secV_len hs)
    rw [← List.map_set] at this
    exact this
  · exact h.bn.same fun k hk => by
      simp [Value.ownBlock] at hk
      subst hk
      exact hgr.block gn (h.bn.2.lt gn rfl).2 (fun e => by injection e with e; exact hne e.symm)
theorem Fl.setNow {w W : World} {base B n : Nat} {d : Dk} {gl cl gn cn : Nat} {vw : Value} {Bx : Nat} {last now : List (List Int)} (h : Fl w base B n d gl cl gn cn vw Bx last now W) (hb : base ≤ w.heap.size) (hne : gl ≠ gn) (hl : now.length = n) {i : Nat} (hi : i < n) {s : List Int} (hs : Sec s) :
    Fl w base B n d gl cl gn cn vw Bx last (now.set i s) (W.drew.setCells gn (i * 64) (secV s)) ∧ Ks W (W.drew.setCells gn (i * 64) (secV s)) ∧ ∀ B', KeepsFrom B' W (W.drew.setCells gn (i * 64) (secV s)) := by
  obtain ⟨c, hc⟩ := own_heap h.bn.2 (k := gn) rfl
  obtain ⟨e1, e2, e3, e4, e5, e6⟩ := h.setRow hb hc (own_base h.bn.2 gn rfl) (i * 64) (secV s)
  have hgr := grown_drewSet W gn (i * 64) (secV s)
  refine ⟨⟨e1.trans h.box, e2.trans h.str, ?_, ?_, e3, e4⟩, e5, e6⟩
  · exact h.bl.same fun k hk => by
      simp [Value.ownBlock] at hk
      subst hk
      exact hgr.block gl (h.bl.2.lt gl rfl).2 (fun e => by injection e with e; exact hne e)
  · have hd : Blocks W.drew base 67 64 (.slice (some ⟨gn, 0, none⟩) n cn) (now.map secV) := h.bn.same fun _ _ => rfl
    have := hd.set (by simp [hl]) (i := i) (by simp [hl, hi]) (b := secV s) (secV_len hs)
    rw [← List.map_set] at this
    exact this
/-- Behind the loops: nothing waits. -/
theorem Fl.close {w W : World} {base B n : Nat} {d : Dk} {gl cl gn cn : Nat} {vw : Value} {Bx : Nat} {last : List (List Int)} (h : Fl w base B n d gl cl gn cn vw Bx last last W) (hb : base ≤ w.heap.size) (hne : gl ≠ gn) (hn : 8 ≤ n ∧ n ≤ 65536) (hB : base ≤ B) (hl : last.length = n) (hs : ∀ s ∈ last, Sec s) (ho : d.Ok n) :
    DiskIs (W.setCell ⟨B, 2, none⟩ (.slice none 0 0)) base B n ⟨last, [], d.writes, d.left⟩ ∧ Kd base w (W.setCell ⟨B, 2, none⟩ (.slice none 0 0)) ∧ W.cell? ⟨B, 2, none⟩ = some vw ∧ W.frozen? ⟨B, 2, none⟩ = false ∧
      ∀ (k : Nat) (o : Obj), W.heap[k]? = some o → o.isCells = false → (W.setCell ⟨B, 2, none⟩ (.slice none 0 0)).heap[k]? = some o := by
  have hg := grown_setCell W B 2 (.slice none 0 0)
  have other : ∀ (v : Value) (e : TypeId) (m : Nat) (bl : List (List Value)), Blocks W base e m v bl → e ≠ 46 → Blocks (W.setCell ⟨B, 2, none⟩ (.slice none 0 0)) base e m v bl := fun v e m bl hb he =>
    hb.same fun k hk => by
      obtain ⟨c, hc⟩ := own_heap hb.2 hk
      exact hg.block k (lt_of_heap hc) (fun e' => by injection e' with e'; exact ne_of_type h.str hc (fun e2 => he e2.symm) e'.symm)
  refine ⟨⟨⟨hl, hs, fun x hx => by simp at hx, ho.left0, ho.left1, ho.w0⟩, hn, hB, gl, cl, gn, cn, .slice none 0 0, ?_, hne, other _ _ _ _ h.bl (by decide), other _ _ _ _ h.bn (by decide), ⟨fun b hb => by simp at hb, by simp; exact World.ownsRow_nil _ _ _ _⟩⟩, h.kd.trans (Kd.row hg hB (by have := h.kd.size; omega) h.str (.inl rfl)), cell_of_row W B 2 _ _ _ h.str, frozen_of_row W B 2 _ _ h.str, fun k o hk ho => ?_⟩
  · rw [heap_setCell_same W B 2 _ _ _ h.str]; rfl
  · exact (hg.block k (lt_of_heap hk) (fun e => by injection e with e; subst e; rw [h.str] at hk; injection hk with e1; subst e1; cases ho)).trans hk

theorem flush_dead {w : World} {base B n : Nat} {d : Dk} (h : DiskIs w base B n d) (hd : d.left = 0) :
    Calls Tryd.prog 27 #[.pointer (some ⟨B, 0, none⟩)] w fun e w' => e = .returned (.int .i64 50) ∧ Below w.heap.size w w' := by
  have hf : Below w.heap.size w (w.alloc (.cells #[.pointer (some ⟨B, 0, none⟩)] 22)) := (Below.refl _ _).alloc (Nat.le_refl _) _
  have HD := hid (dead_any (h.below hf))
  have hd2 : (d.left == 0) = true := by simpa using hd
  rw [hd2] at HD
  clear h hd hd2
  go_enter Tryd.func27, Tryd.ntmps27
  go_wp2_with (go_at_call 20; refine HD.out.mono ?_; rintro e w2 ⟨rfl, hw⟩; subst hw)
  go_ret
  exact ⟨rfl, hf⟩
end Go.Proofs.YthhlbhnogcfnjaaDoor
