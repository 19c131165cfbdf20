/-
  Layer 12: points of the grid; the document's Same, Reverse, Closed, At.
-/
import Derived.Test.YtkdnkmheidbfdaaGreatMB
import Derived.Deep.CutRange
import Derived.Maps.AppendAt
import Derived.Deep.RegionHeld3
import Derived.BigRegion
import Derived.Lib.SliceRun
import Derived.Test.YtkdnkmheidbfdaaGreatMA
import Derived.Test.YtkdnkmheidbfdaaGreatM7
namespace Go.Proofs.YtkdnkmheidbfdaaGreat
open Go.RowKit Go.Sort

theorem PtRow.nil (w : World) (base : Nat) : PtRow w base (.slice none 0 0) [] := ⟨rfl, .inl ⟨rfl, rfl⟩⟩
theorem PtRow.toPts {w : World} {base : Nat} {v : Value} {ps : List Pp} (h : PtRow w base v ps) : Pts w v ps := by
  obtain ⟨ao, cap, rfl⟩ := h.form
  refine ⟨ao, cap, rfl, fun h1 => ?_⟩
  obtain ⟨g, rfl, _⟩ := h.at (k := 0) (p := ps[0]) (by simp)
  refine ⟨g, 0, rfl, fun k p hk => ?_⟩
  obtain ⟨g', e, c0, c1⟩ := h.at hk
  cases e
  rw [Nat.zero_add]
  exact ⟨c0, c1⟩
/-- A slice of points that may be told on: nil, or at an address. -/
def Src (w : World) (v : Value) (ps : List Pp) : Prop :=
  (v = .slice none 0 0 ∧ ps = []) ∨ ∃ b off cap, v = .slice (some ⟨b, off, none⟩) ps.length cap ∧ ps.length ≤ cap ∧ ∀ k p, ps[k]? = some p → w.cell? ⟨b, off + k * 2, none⟩ = some (.int .i64 p.1) ∧ w.cell? ⟨b, off + k * 2 + 1, none⟩ = some (.int .i64 p.2)
theorem Src.pts {w : World} {v : Value} {ps : List Pp} (h : Src w v ps) : Pts w v ps := by
  rcases h with ⟨rfl, rfl⟩ | ⟨b, off, cap, rfl, _, hc⟩
  · exact ⟨none, 0, rfl, fun h => absurd h (by simp)⟩
  · exact ⟨_, cap, rfl, fun _ => ⟨b, off, rfl, hc⟩⟩
theorem Src.below {w w' : World} {v : Value} {ps : List Pp} (h : Src w v ps) (hb : Below w.heap.size w w') : Src w' v ps := by
  rcases h with h | ⟨b, off, cap, rfl, h1, hc⟩
  · exact .inl h
  · refine .inr ⟨b, off, cap, rfl, h1, fun k p hk => ?_⟩
    obtain ⟨z0, z1⟩ := hc k p hk
    have hbb : b < w.heap.size := World.block_lt_of_cell? w _ z0
    exact ⟨(hb.cell (p := ⟨b, off + k * 2, none⟩) hbb).trans z0, (hb.cell (p := ⟨b, off + k * 2 + 1, none⟩) hbb).trans z1⟩
theorem PtRow.src {w : World} {base : Nat} {v : Value} {ps : List Pp} (h : PtRow w base v ps) : Src w v ps := by
  rcases h.2 with ⟨rfl, h0⟩ | ⟨g, cap, cur, rfl, _, _, h1, _⟩
  · exact .inl ⟨rfl, List.length_eq_zero_iff.1 h0⟩
  · refine .inr ⟨g, 0, cap, rfl, h1, fun k p hk => ?_⟩
    obtain ⟨g', e, c0, c1⟩ := h.at hk
    cases e
    rw [Nat.zero_add]
    exact ⟨c0, c1⟩
theorem PtRow.set2 {w : World} {base b : Nat} {v : Value} {ps : List Pp} (h : PtRow w base v ps) (hb : b < base) (x y : Value) : PtRow ((w.setCell ⟨b, 0, none⟩ x).setCell ⟨b, 1, none⟩ y) base v ps := by
  refine ⟨h.1, ?_⟩
  rcases h.2 with h0 | ⟨g, cap, cur, h1, h2, h3, h4⟩
  · exact .inl h0
  · refine .inr ⟨g, cap, cur, h1, h2, ?_, h4⟩
    rw [Below.heap_setCell _ _ _ _ (show g ≠ b by omega), Below.heap_setCell _ _ _ _ (show g ≠ b by omega)]
    exact h3
theorem take_snoc {α : Type} {l : List α} {k : Nat} {p : α} (h : l[k]? = some p) : l.take (k + 1) = l.take k ++ [p] := by
  rw [List.take_add_one, h]
  rfl














































































































































































































end Go.Proofs.YtkdnkmheidbfdaaGreat

namespace Go.Proofs.YtkdnkmheidbfdaaGreat
open Go.RowKit Go.Sort

/-- The cells of a slice of points, in a world that has grown out of its own. -/
theorem Pts.row {w : World} {ao : Option Addr} {n cap : Nat} {ps : List Pp} (h : Pts w (.slice ao n cap) ps) (hn : 1 ≤ ps.length) : ∃ b off, ao = some ⟨b, off, none⟩ ∧ ∀ i, i < ps.length → w.cell? ⟨b, off + i * 2, none⟩ = some (.int .i64 (lpt ps i).1) ∧ w.cell? ⟨b, off + i * 2 + 1, none⟩ = some (.int .i64 (lpt ps i).2) := by
  obtain ⟨a, cap', e, hx⟩ := h
  injection e with e1 e2 e3
  subst e1
  obtain ⟨b, off, rfl, hc⟩ := hx hn
  exact ⟨b, off, rfl, fun i hi => hc i _ (at_lpt hi)⟩



/-- The first segment that has a point, by the segments that have it not. -/
def atI (o : Option Nat) : Int := match o with | none => -1 | some k => (k : Int)



end Go.Proofs.YtkdnkmheidbfdaaGreat

namespace Go.Proofs.YtkdnkmheidbfdaaGreat
open Go.RowKit Go.Sort



end Go.Proofs.YtkdnkmheidbfdaaGreat

namespace Go.Proofs.YtkdnkmheidbfdaaGreat
open Go.RowKit Go.Sort

theorem gridL_true {ps : List Pp} (h : ∀ i, i < ps.length → okP (lpt ps i).1 (lpt ps i).2 = true) : gridL ps = true := by
  unfold gridL
  rw [List.all_eq_true]
  intro p hp
  obtain ⟨i, hi⟩ := List.getElem?_of_mem hp
  have := h i (List.getElem?_eq_some_iff.1 hi).1
  rwa [lpt_at hi] at this
theorem gridL_at {ps : List Pp} (h : gridL ps = true) {i : Nat} (hi : i < ps.length) : okP (lpt ps i).1 (lpt ps i).2 = true := by
  unfold gridL at h
  rw [List.all_eq_true] at h
  exact h _ (List.mem_of_getElem? (at_lpt hi))

theorem okL_len {ps : List Pp} (h : okL ps = true) : 2 ≤ ps.length ∧ ps.length ≤ 64 := by
  unfold okL at h
  simp only [Bool.and_eq_true, decide_eq_true_eq] at h
  exact ⟨h.1.1.1, h.1.1.2⟩


















































































end Go.Proofs.YtkdnkmheidbfdaaGreat

namespace Go.Proofs.YtkdnkmheidbfdaaGreat
open Go.RowKit Go.Sort

/-- An append touches its own row alone, and makes it anew behind all, if at all. -/
structure RowBy (w w' : World) (v v' : Value) : Prop where
  keep : ∀ b, b < w.heap.size → v.ownBlock ≠ some b → w'.heap[b]? = w.heap[b]?
  own : ∀ k, v'.ownBlock = some k → v.ownBlock = some k ∨ w.heap.size ≤ k
def Other (u v : Value) : Prop := ∀ k, u.ownBlock = some k → v.ownBlock ≠ some k
theorem PtRow.lt {w : World} {base : Nat} {v : Value} {ps : List Pp} (h : PtRow w base v ps) {k : Nat} (hk : v.ownBlock = some k) : k < w.heap.size ∧ base ≤ k := by
  rcases h.2 with ⟨rfl, h0⟩ | ⟨g, cap, cur, rfl, h1, h2, _⟩
  · cases hk
  · cases hk
    exact ⟨lt_of_heap h2, h1⟩
theorem PtRow.keep {w w' : World} {base : Nat} {v u u' : Value} {ps : List Pp} (h : PtRow w base v ps) (hg : RowBy w w' u u') (ha : Other u v) : PtRow w' base v ps ∧ Other u' v := by
  refine ⟨⟨h.1, ?_⟩, fun k hk hv => ?_⟩
  · rcases h.2 with h0 | ⟨g, cap, cur, rfl, h2, h3, h4⟩
    · exact .inl h0
    · exact .inr ⟨g, cap, cur, rfl, h2, (hg.keep g (lt_of_heap h3) fun e => ha g e rfl).trans h3, h4⟩
  · rcases hg.own k hk with e | e
    · exact ha k e hv
    · have := (h.lt hv).1
      omega
theorem ptCells_len (ps : List Pp) : (ptCells ps).length = ps.length * 2 := by
  induction ps with
  | nil => rfl
  | cons p ps ih =>
    show (ptCells ps).length + 1 + 1 = _
    rw [ih, List.length_cons]
    omega
theorem ptCells_mem {ps : List Pp} {u : Value} (h : u ∈ ptCells ps) : u.oneCell' = true := by
  unfold ptCells at h
  rw [List.mem_flatMap] at h
  obtain ⟨p, _, hp⟩ := h
  simp only [List.mem_cons, List.not_mem_nil, or_false] at hp
  rcases hp with rfl | rfl <;> rfl
theorem ptCells_get {ps : List Pp} {j : Nat} {u : Value} (h : (ptCells ps)[j]? = some u) : ∃ k p, ps[k]? = some p ∧ ((j = k * 2 ∧ u = .int .i64 p.1) ∨ (j = k * 2 + 1 ∧ u = .int .i64 p.2)) := by
  have hj := (List.getElem?_eq_some_iff.1 h).1
  rw [ptCells_len] at hj
  have hk : j / 2 < ps.length := by omega
  have hp : ps[j / 2]? = some ps[j / 2] := List.getElem?_eq_getElem hk
  obtain ⟨c0, c1⟩ := ptCells_at ps (j / 2) _ hp
  refine ⟨j / 2, _, hp, ?_⟩
  rcases (show j = j / 2 * 2 ∨ j = j / 2 * 2 + 1 by omega) with e | e
  · refine .inl ⟨e, ?_⟩
    rw [e, c0] at h
    exact (Option.some.inj h).symm
  · refine .inr ⟨e, ?_⟩
    rw [e, c1] at h
    exact (Option.some.inj h).symm
theorem addr_add (b off j : Nat) : (⟨b, off, none⟩ : Addr).add j = ⟨b, off + j, none⟩ := by
  unfold Addr.add
  split
  · rename_i h; rw [h]; rfl
  · rfl
theorem PtRow.add {w : World} {base : Nat} {v u : Value} {ps qs : List Pp} (h : PtRow w base v ps) (hs : Src w u qs) (hb : base ≤ w.heap.size) (hl : ps.length + qs.length ≤ 1000000) :
    ∃ v' w', (Builtin.append_ #[27, 27] 27 #[v, u]).run Tryz.prog w = .ok v' w' ∧ PtRow w' base v' (ps ++ qs) ∧ Below base w w' ∧ RowBy w w' v v' := by
  obtain ⟨i0, hi, hz0, hz1, hz2⟩ := info_parts infoPt
  rcases hs with ⟨rfl, rfl⟩ | ⟨b, off, cap, rfl, hcap, hc⟩
  · refine ⟨v, w, run_append_owned_none w base 27 27 23 i0 2 Tryz.underlying27 hi v ps.length _ h, by rw [List.append_nil]; exact h, Below.refl _ _, fun b _ _ => rfl, fun k hk => .inl hk⟩
  · obtain ⟨v', w', hrun, r1, r2, _, r4⟩ := run_append_own_at (P := Tryz.prog) w base 27 27 23 i0 _ 2 16 Tryz.underlying27 hi hz0 hz1 hz2 rfl (by decide) v ps.length _ h ⟨b, off, none⟩ qs.length cap (ptCells qs) (ptCells_len qs)
      (fun j u hj => by
        obtain ⟨k, p, hk, h2⟩ := ptCells_get hj
        obtain ⟨c0, c1⟩ := hc k p hk
        rcases h2 with ⟨rfl, rfl⟩ | ⟨rfl, rfl⟩
        · rw [addr_add]; exact c0
        · rw [addr_add]; exact c1) (fun u hu => ptCells_mem hu) (by unfold maxLen; omega) (by omega) hb
    refine ⟨v', w', hrun, ?_, ?_, ?_⟩
    · unfold PtRow
      rw [ptCells_app, List.length_append]
      exact r1
    · refine (Below.refl _ w).grown r2 hb (fun k e => ?_)
      exact (h.lt e).2
    · refine ⟨fun b' hb' hne => r2.block b' hb' (fun e => hne e.symm), fun k hk => ?_⟩
      rcases r4 with r4 | r4
      · exact .inl (r4.symm.trans hk)
      · rw [r4] at hk
        injection hk with hk
        exact .inr (by omega)
/-- An empty row, laid anew. -/
theorem PtRow.lit0 (w : World) : PtRow (w.alloc (.cells #[] 23)) w.heap.size (.slice (some ⟨w.heap.size, 0, none⟩) 0 0) [] :=
  World.ownsRow_lit (e := 23) (size := 2) w #[] 0 (Nat.le_refl _) (by unfold maxLen; omega) rfl
theorem PtRow.base {w : World} {base base' : Nat} {v : Value} {ps : List Pp} (h : PtRow w base v ps) (hb : base' ≤ base) : PtRow w base' v ps := by
  refine ⟨h.1, ?_⟩
  rcases h.2 with h0 | ⟨g, cap, cur, h1, h2, h3⟩
  · exact .inl h0
  · exact .inr ⟨g, cap, cur, h1, Nat.le_trans hb h2, h3⟩
/-- A slice without its first ones. -/
theorem Src.drop {w : World} {b off n cap : Nat} {ps : List Pp} (h : Src w (.slice (some ⟨b, off, none⟩) n cap) ps) {k : Nat} (hk : k ≤ ps.length) : Src w (.slice (some ⟨b, off + k * 2, none⟩) (n - k) (cap - k)) (ps.drop k) := by
  rcases h with ⟨h, _⟩ | ⟨b', off', cap', e, h1, hc⟩
  · cases h
  · injection e with e1 e2 e3
    injection e1 with e1
    injection e1 with e4 e5
    subst e2 e3 e4 e5
    refine .inr ⟨b, off + k * 2, cap - k, by rw [List.length_drop], by rw [List.length_drop]; omega, fun j p hj => ?_⟩
    rw [List.getElem?_drop] at hj
    obtain ⟨c0, c1⟩ := hc (k + j) p hj
    rw [show off + k * 2 + j * 2 = off + (k + j) * 2 by omega]
    exact ⟨c0, c1⟩
/-- Where nothing is left of the room the address stays. -/
theorem Src.none_left {w : World} {b off k : Nat} {ps : List Pp} (hk : ps.length = k) : Src w (.slice (some ⟨b, off, none⟩) 0 0) (ps.drop k) := by
  rw [List.drop_of_length_le (by omega)]
  exact .inr ⟨b, off, 0, rfl, Nat.le_refl _, fun j p hj => by cases hj⟩
theorem Src.drop1 {w : World} {b off n cap : Nat} {ps : List Pp} (h : Src w (.slice (some ⟨b, off, none⟩) n cap) ps) (hk : 1 ≤ ps.length) : Src w (.slice (some ⟨b, off + 2, none⟩) (n - 1) (cap - 1)) (ps.drop 1) := h.drop hk
theorem Src.take {w : World} {b off n cap : Nat} {ps : List Pp} (h : Src w (.slice (some ⟨b, off, none⟩) n cap) ps) {k : Nat} (hk : k ≤ ps.length) : Src w (.slice (some ⟨b, off, none⟩) k cap) (ps.take k) := by
  rcases h with ⟨h, _⟩ | ⟨b', off', cap', e, h1, hc⟩
  · cases h
  · injection e with e1 e2 e3
    injection e1 with e1
    injection e1 with e4 e5
    subst e2 e3 e4 e5
    refine .inr ⟨b, off, cap, by rw [List.length_take]; congr 1; omega, by rw [List.length_take]; omega, fun j p hj => hc j p ?_⟩
    rw [List.getElem?_take] at hj
    split at hj
    · exact hj
    · cases hj
theorem Src.at {w : World} {ao : Option Addr} {n cap : Nat} {ps : List Pp} (h : Src w (.slice ao n cap) ps) (hn : 1 ≤ ps.length) : ∃ b off, ao = some ⟨b, off, none⟩ ∧ n ≤ cap := by
  rcases h with ⟨_, rfl⟩ | ⟨b, off, cap', e, h1, _⟩
  · simp at hn
  · injection e with e1 e2 e3
    subst e1 e2 e3
    exact ⟨b, off, rfl, h1⟩
end Go.Proofs.YtkdnkmheidbfdaaGreat

namespace Go.Proofs.YtkdnkmheidbfdaaGreat
open Go.RowKit Go.Sort



















































































































































































































































































end Go.Proofs.YtkdnkmheidbfdaaGreat

namespace Go.Proofs.YtkdnkmheidbfdaaGreat
open Go.RowKit Go.Sort

/-- An append whose run is known, at a step of a region that draws its order. -/
theorem step_append_known {P : Program} {ops : Array Oper} {o : Oper} {a : Act} {ts : Array Value} {w w' : World} {K : Act → World → Prop} {Q : Exit → Act → World → Prop} {E : Prop} (hg : o.guard = none) (s x : Operand) (t : TypeId) (hop : o.op = Op.call { callee := Callee.builtin Builtin.append, args := #[s, x], argTypes := #[t, t] }) {v u v' : Value} (hs : a.eval s = v) (hx : a.eval x = u)
    (hrun : (Builtin.append_ #[t, t] o.type #[v, u]).run P w = .ok v' w') (hK : K (a.put o.dst v') w') : if Region.wanted o (yielded ops ts) = true then Oper.wp P o a w K Q else E := by
  have hw : Region.wanted o (yielded ops ts) = true := by simp [Region.wanted, hg]
  rw [if_pos hw]
  unfold Oper.wp
  rw [show (execOp a.eval o).run P w = .ok (.value v') w' by simp [execOp, hop, resolve, invoke, builtin, hs, hx, hrun, Result.andThen]]
  exact hK
theorem atL_lt {ps : List Pp} {p : Pp} {k : Nat} (h : atL ps p = some k) : k + 1 < ps.length := by
  have := List.mem_of_find?_eq_some h
  have := List.mem_range.1 this
  omega
theorem Src.new (w : World) (x y : Int) : Src (w.alloc (.cells #[.int .i64 x, .int .i64 y] 23)) (.slice (some ⟨w.heap.size, 0, none⟩) 1 1) [(x, y)] := by
  have h := Pt.new w x y
  refine .inr ⟨_, 0, 1, rfl, Nat.le_refl _, fun k p hk => ?_⟩
  match k, hk with
  | 0, hk =>
    simp only [List.getElem?_cons_zero, Option.some.injEq] at hk
    subst hk
    exact ⟨h.c0, h.c1⟩
  | k + 1, hk => simp at hk
theorem PtRow.lit1 (w : World) (x y : Int) : PtRow (w.alloc (.cells #[.int .i64 x, .int .i64 y] 23)) w.heap.size (.slice (some ⟨w.heap.size, 0, none⟩) 1 1) [(x, y)] :=
  World.ownsRow_lit (e := 23) (size := 2) w #[.int .i64 x, .int .i64 y] 1 (Nat.le_refl _) (by unfold maxLen; omega) rfl













































































































































































































































































































































































































































































end Go.Proofs.YtkdnkmheidbfdaaGreat

namespace Go.Proofs.YtkdnkmheidbfdaaGreat
open Go.RowKit Go.Sort


theorem ptCells_set : ∀ (ps : List Pp) (j : Nat) (p : Pp), ptCells (ps.set j p) = ((ptCells ps).set (j * 2) (.int .i64 p.1)).set (j * 2 + 1) (.int .i64 p.2)
  | [], j, p => by simp [ptCells]
  | q :: ps, 0, p => by simp [ptCells]
  | q :: ps, j + 1, p => by
    have h := ptCells_set ps j p
    have e : ∀ (r : Pp) (rs : List Pp), ptCells (r :: rs) = .int .i64 r.1 :: .int .i64 r.2 :: ptCells rs := fun _ _ => rfl
    rw [List.set_cons_succ, e, e, h, show (j + 1) * 2 = j * 2 + 1 + 1 by omega, List.set_cons_succ, List.set_cons_succ, List.set_cons_succ, List.set_cons_succ]
theorem PtRow.put {w : World} {base g n cap : Nat} {ps : List Pp} (h : PtRow w base (.slice (some ⟨g, 0, none⟩) n cap) ps) (hn : ps.length = n) (j : Nat) (p : Pp) :
    PtRow ((w.setCell ⟨g, j * 2, none⟩ (.int .i64 p.1)).setCell ⟨g, j * 2 + 1, none⟩ (.int .i64 p.2)) base (.slice (some ⟨g, 0, none⟩) n cap) (ps.set j p) := by
  subst hn
  have h' : w.ownsRow base 23 2 (.slice (some ⟨g, 0, none⟩) ps.length cap) ps.length (ptCells ps) := h
  have h2 := (h'.stored (j * 2) (.int .i64 p.1)).1
  have h3 := (h2.stored (j * 2 + 1) (.int .i64 p.2)).1
  unfold PtRow
  rw [List.length_set, ptCells_set]
  exact h3
theorem PtRow.frz {w : World} {base g n cap : Nat} {ps : List Pp} (h : PtRow w base (.slice (some ⟨g, 0, none⟩) n cap) ps) (hn : ps.length = n) (j : Nat) : w.frozen? ⟨g, j, none⟩ = false := by
  subst hn
  have h' : w.ownsRow base 23 2 (.slice (some ⟨g, 0, none⟩) ps.length cap) ps.length (ptCells ps) := h
  exact h'.frozenAt j
/-- The first k and the last k of a list exchanged. -/
def revK (ps : List Pp) (k : Nat) : List Pp := (List.range ps.length).map fun t => if t < k ∨ ps.length ≤ t + k then lpt ps (ps.length - 1 - t) else lpt ps t
theorem revK_len (ps : List Pp) (k : Nat) : (revK ps k).length = ps.length := by unfold revK; simp
theorem revK_at {ps : List Pp} {k t : Nat} (h : t < ps.length) : (revK ps k)[t]? = some (if t < k ∨ ps.length ≤ t + k then lpt ps (ps.length - 1 - t) else lpt ps t) := by
  unfold revK
  rw [List.getElem?_map, List.getElem?_range h]
  rfl
theorem revK_zero (ps : List Pp) : revK ps 0 = ps := by
  refine List.ext_getElem? fun t => ?_
  by_cases ht : t < ps.length
  · rw [revK_at ht, if_neg (by omega), at_lpt ht]
  · rw [List.getElem?_eq_none (by rw [revK_len]; omega), List.getElem?_eq_none (by omega)]
theorem revK_end {ps : List Pp} {k : Nat} (h : ps.length ≤ 2 * k + 1) : revK ps k = ps.reverse := by
  refine List.ext_getElem? fun t => ?_
  by_cases ht : t < ps.length
  · rw [revK_at ht, List.getElem?_reverse ht, at_lpt (by omega)]
    split
    · rfl
    · rw [show ps.length - 1 - t = t by omega]
  · rw [List.getElem?_eq_none (by rw [revK_len]; omega), List.getElem?_eq_none (by rw [List.length_reverse]; omega)]
theorem revK_succ {ps : List Pp} {k : Nat} (h : 2 * k + 1 < ps.length) : ((revK ps k).set k (lpt ps (ps.length - 1 - k))).set (ps.length - 1 - k) (lpt ps k) = revK ps (k + 1) := by
  refine List.ext_getElem? fun t => ?_
  by_cases ht : t < ps.length
  · rw [revK_at ht]
    by_cases h1 : t = ps.length - 1 - k
    · subst h1
      rw [List.getElem?_set_self (by rw [List.length_set, revK_len]; omega), if_pos (by omega), show ps.length - 1 - (ps.length - 1 - k) = k by omega]
    · rw [List.getElem?_set_ne (by omega)]
      by_cases h2 : t = k
      · subst h2
        rw [List.getElem?_set_self (by rw [revK_len]; omega), if_pos (by omega)]
      · rw [List.getElem?_set_ne (by omega), revK_at ht]
        by_cases h3 : t < k ∨ ps.length ≤ t + k
        · rw [if_pos h3, if_pos (by omega)]
        · rw [if_neg h3, if_neg (by omega)]
  · rw [List.getElem?_eq_none (by rw [List.length_set, List.length_set, revK_len]; omega), List.getElem?_eq_none (by rw [revK_len]; omega)]

set_option maxHeartbeats 1600000 in
theorem clone_any (v : Value) (ps : List Pp) (w : World) (hs : Src w v ps) (hl : ps.length ≤ 100000) :
    Calls Tryz.prog 39 #[v] w fun e w' => (∃ u, e = .returned u ∧ PtRow w' w.heap.size u ps) ∧ Below w.heap.size w w' := by
  have HS := hid hs
  have hnil : ∀ (wx : World) (a : Option Addr) (n c : Nat), (binOp .eql 27 (.slice a n c) (.slice none 0 0)).run Tryz.prog wx = .ok (.bool a.isNone) wx := fun wx a n c => Lib.run_eql_slice_nil wx _ _ a n c 0 0 Tryz.underlying27
  rcases hs with ⟨rfl, rfl⟩ | ⟨b, off, cap, rfl, hcap, -⟩
  · go_enter Tryz.func39, Tryz.ntmps39
    go_wp2
    go_ret
    exact ⟨⟨_, rfl, PtRow.nil _ _⟩, Below.refl _ _⟩
  · obtain ⟨wA, hwA⟩ : ∃ wA, w.alloc (.cells #[] 23) = wA := ⟨_, rfl⟩
    have hbA : Below w.heap.size w wA := by rw [← hwA]; exact (Below.refl _ _).alloc (Nat.le_refl _) _
    obtain ⟨v1, w1, hrun1, hrow1, hb1, _⟩ := (show PtRow wA w.heap.size (.slice (some ⟨w.heap.size, 0, none⟩) 0 0) [] by rw [← hwA]; exact PtRow.lit0 w).add (HS.out.below hbA) hbA.size (by simp; omega)
    rw [List.nil_append] at hrow1
    have HRUN1 := hid hrun1
    have HROW1 := hid hrow1
    have HBW1 := hid (hbA.trans hb1)
    clear hrun1 hrow1 hb1 hbA
    go_enter Tryz.func39, Tryz.ntmps39
    go_wp2_with (at_builtin; refine wpList_append_run rfl (.tmp 5) (.tmp 6) 27 rfl rfl rfl HRUN1.out ?_)
    go_ret
    exact ⟨⟨_, rfl, HROW1.out⟩, HBW1.out⟩

set_option maxHeartbeats 1600000 in
theorem reverse_any (v : Value) (ps : List Pp) (base : Nat) (w : World) (hr : PtRow w base v ps) (hl : ps.length ≤ 100000) :
    Calls Tryz.prog 109 #[v] w fun e w' => e = .returned (.tuple #[]) ∧ PtRow w' base v ps.reverse ∧ Below base w w' := by
  obtain ⟨ao, cap, rfl⟩ := hr.form
  obtain ⟨n, hn⟩ : ∃ n, ps.length = n := ⟨_, rfl⟩
  have HN := hid hn
  rw [hn] at hl hr ⊢
  have HR := hid hr
  clear hr hn
  go_enter Tryz.func109, Tryz.ntmps109
  go_wp2
  go_loopw [2, 3] (fun iv jv wr => ∃ k : Nat, 2 * k ≤ n + 1 ∧ iv = .int .i64 k ∧ jv = .int .i64 ((n : Int) - 1 - (k : Int)) ∧ PtRow wr base (.slice ao n cap) (revK ps k) ∧ Below base w wr) (fun iv _ _ => n - (intOf iv).toNat)
  case atStart => exact ⟨0, by omega, rfl, by go_num, by rw [revK_zero]; exact HR.out, Below.refl _ _⟩
  case round =>
    obtain ⟨k, hk, rfl, rfl, hrow, hb⟩ := hrel
    have HB := hid hb
    have HROW := hid hrow
    clear hb HR
    by_cases hlt : 2 * k + 1 < n
    · obtain ⟨j, hj⟩ : ∃ j : Nat, n - 1 - k = j := ⟨_, rfl⟩
      have hjI : (n : Int) - 1 - (k : Int) = (j : Int) := by omega
      rw [hjI]
      have hkjI : (k : Int) < (j : Int) := by omega
      have hkn : (k : Int) < (n : Int) := by omega
      have hjn : (j : Int) < (n : Int) := by omega
      have hnext : (j : Int) - 1 = (n : Int) - 1 - ((k : Int) + 1) := by omega
      have hkj : k ≠ j := by omega
      obtain ⟨g, rfl, c0, c1⟩ := hrow.at (k := k) (p := lpt ps k) (by rw [revK_at (by rw [HN.out]; omega), if_neg (by rw [HN.out]; omega)])
      obtain ⟨g', e, d0, d1⟩ := hrow.at (k := j) (p := lpt ps j) (by rw [revK_at (by rw [HN.out]; omega), if_neg (by rw [HN.out]; omega)])
      cases e
      have f0 := hrow.frz (by rw [revK_len, HN.out]) (k * 2)
      have f1 := hrow.frz (by rw [revK_len, HN.out]) (k * 2 + 1)
      have e0 := hrow.frz (by rw [revK_len, HN.out]) (j * 2)
      have e1 := hrow.frz (by rw [revK_len, HN.out]) (j * 2 + 1)
      have HS := hid (show ((revK ps k).set k (lpt ps j)).set j (lpt ps k) = revK ps (k + 1) by
        have q := revK_succ (ps := ps) (k := k) (by rw [HN.out]; exact hlt)
        rw [HN.out, hj] at q
        exact q)
      have HLN := hid (show (revK ps k).length = n by rw [revK_len, HN.out])
      have HOWN := hid (show base ≤ g from (hrow.lt rfl).2)
      clear hrow hj hjI
      generalize lpt ps k = P at *
      generalize lpt ps j = Q at *
      obtain ⟨px, py⟩ := P
      obtain ⟨qx, qy⟩ := Q
      dsimp only at c0 c1 d0 d1
      generalize revK ps k = L at *
      go_wp2
      go_big_region
      all_goals go_wp2
      go_roundw
      case rel =>
        refine ⟨k + 1, by omega, by go_num, by go_num, ?_, ?_⟩
        · rw [← HS.out]
          have q1 := HROW.out.put HLN.out k (qx, qy)
          have q2 := q1.put (by rw [List.length_set, HLN.out]) j (px, py)
          exact q2.below (Below.refl _ _).drew
        · exact (((((HB.out.setCell (p := ⟨g, k * 2, none⟩) HOWN.out _).setCell (p := ⟨g, k * 2 + 1, none⟩) HOWN.out _).setCell (p := ⟨g, j * 2, none⟩) HOWN.out _).setCell (p := ⟨g, j * 2 + 1, none⟩) HOWN.out _).drew)
      case measure => simp [intOf]; omega
    · have hlI : ¬ (k : Int) < (n : Int) - 1 - (k : Int) := by omega
      have HE := hid (revK_end (ps := ps) (k := k) (by rw [HN.out]; omega))
      clear hrow
      go_wp2
      go_end0
      exact ⟨rfl, by rw [← HE.out]; exact HROW.out, HB.out⟩

set_option maxHeartbeats 1600000 in
theorem lineReverse_any (v : Value) (ps : List Pp) (w : World) (hs : Src w v ps) (hl : ps.length ≤ 100000) :
    Calls Tryz.prog 74 #[v] w fun e w' => (∃ u, e = .returned u ∧ Src w' u ps.reverse) ∧ Below w.heap.size w w' := by
  have H1 := hid (clone_any v ps w hs hl)
  have H2 := hid (fun u W hW => reverse_any u ps w.heap.size W hW hl)
  clear hs
  go_enter Tryz.func74, Tryz.ntmps74
  go_wp2_with (first
    | (go_at_call 39; refine H1.out.mono ?_; rintro e w1 ⟨⟨u, rfl, hu⟩, hb1⟩; have HB := hid hb1; have HU := hid hu; clear hb1 hu H1)
    | (go_at_call 109; refine (H2.out _ _ HU.out).mono ?_; rintro e w2 ⟨rfl, hu2, hb2⟩; replace HB := hid (HB.out.trans hb2); have HU2 := hid hu2; clear hb2 hu2 H2))
  go_ret
  exact ⟨⟨_, rfl, HU2.out.src⟩, HB.out⟩

end Go.Proofs.YtkdnkmheidbfdaaGreat

namespace Go.Proofs.YtkdnkmheidbfdaaGreat
open Go.RowKit Go.Sort

theorem Pts.oneT {w : World} {b : Nat} {x y : Int} (h : Pt w b x y) (cap : Nat) : Pts w (.slice (some ⟨b, 0, none⟩) 1 cap) [(x, y)] := by
  refine ⟨_, cap, rfl, fun _ => ⟨b, 0, rfl, ?_⟩⟩
  intro k p hk
  match k, hk with
  | 0, hk =>
    simp only [List.getElem?_cons_zero, Option.some.injEq] at hk
    subst hk
    exact ⟨h.c0, h.c1⟩
  | k + 1, hk => simp at hk

set_option maxHeartbeats 1600000 in
theorem turnHeld_any (x y : Int) (w : World) :
    Calls Tryz.prog 192 #[pv x y] w fun e w' => e = .returned (pv (near x) (near y)) ∧ Below w.heap.size w w' := by
  obtain ⟨wA, hwA⟩ : ∃ wA, w.alloc (.cells #[.int .i64 x, .int .i64 y] 23) = wA := ⟨_, rfl⟩
  obtain ⟨wB, hwB⟩ : ∃ wB, wA.alloc (.cells #[.int .i64 0, .int .i64 0] 23) = wB := ⟨_, rfl⟩
  obtain ⟨wC, hwC⟩ : ∃ wC, wB.alloc (.cells #[.int .i64 x, .int .i64 y] 23) = wC := ⟨_, rfl⟩
  obtain ⟨hA, hB, hC, hBL, hszC, hszA, hszB⟩ := box3 hwA hwB hwC
  have a0 : wB.cell? ⟨w.heap.size, 0, none⟩ = some (.int .i64 x) := (box2 hwA hwB).1.c0
  have a1 : wB.cell? ⟨w.heap.size, 1, none⟩ = some (.int .i64 y) := (box2 hwA hwB).1.c1
  have HX := hid (box_any (.slice (some ⟨w.heap.size + 2, 0, none⟩) 1 1) [(x, y)] wC (Pts.oneT hC 1) (by simp))
  simp only [boxL, List.foldl_nil, List.length_cons, List.length_nil] at HX
  have HB := hid hB
  have HBL := hid hBL
  clear hA hB hC hBL
  generalize near x = NX at *
  generalize near y = NY at *
  go_enter Tryz.func192, Tryz.ntmps192
  go_wp2_with (go_at_call 119; refine HX.out.mono ?_; rintro e w1 ⟨rfl, hb1⟩; obtain ⟨w2, hw2⟩ : ∃ w2, w1.alloc (.cells #[.int .i64 0, .int .i64 0] 23) = w2 := ⟨_, rfl⟩; obtain ⟨w3, hw3⟩ : ∃ w3, w2.alloc (.cells #[.int .i64 0, .int .i64 0] 23) = w3 := ⟨_, rfl⟩; obtain ⟨hF, hG, hBL1, hsz3, hsz2⟩ := box2 hw2 hw3; obtain ⟨B1, hB1⟩ : ∃ B1, w1.heap.size = B1 := ⟨_, rfl⟩; rw [hB1] at hF hG hBL1 hsz3 hsz2; have hle : w.heap.size + 3 ≤ B1 := (by have := hb1.size; omega); have hE : Pt w3 (w.heap.size + 1) 0 0 := (HB.out.below hb1 (by omega)).below hBL1 (by omega); have HB3 := hid (show Below w.heap.size w w3 from (HBL.out.trans (hb1.mono HBL.out.size)).trans (hBL1.mono (by omega))); clear hb1 hBL1 HB HBL; have f0 := hF.c0; have f1 := hF.c1; have f2 := hF.f0; have f3 := hF.f1; obtain ⟨V1, hV1⟩ : ∃ V, (w3.setCell ⟨B1, 0, none⟩ (.int .i64 NX)).setCell ⟨B1, 1, none⟩ (.int .i64 NY) = V := ⟨_, rfl⟩; replace hF : Pt V1 B1 NX NY := (by rw [← hV1]; exact hF.set _ _); replace hG : Pt V1 (B1 + 1) 0 0 := (by rw [← hV1]; exact hG.far (by omega) _ _); replace hE : Pt V1 (w.heap.size + 1) 0 0 := (by rw [← hV1]; exact hE.far (by omega) _ _); have g0 := hG.c0; have g1 := hG.c1; have g2 := hG.f0; have g3 := hG.f1; obtain ⟨V2, hV2⟩ : ∃ V, (V1.setCell ⟨B1 + 1, 0, none⟩ (.int .i64 NX)).setCell ⟨B1 + 1, 1, none⟩ (.int .i64 NY) = V := ⟨_, rfl⟩; replace hF : Pt V2 B1 NX NY := (by rw [← hV2]; exact hF.far (by omega) _ _); replace hE : Pt V2 (w.heap.size + 1) 0 0 := (by rw [← hV2]; exact hE.far (by omega) _ _); have h0 := hF.c0; have h1 := hF.c1; have e0 := hE.c0; have e1 := hE.c1; have e2 := hE.f0; have e3 := hE.f1; obtain ⟨V3, hV3⟩ : ∃ V, (V2.setCell ⟨w.heap.size + 1, 0, none⟩ (.int .i64 NX)).setCell ⟨w.heap.size + 1, 1, none⟩ (.int .i64 NY) = V := ⟨_, rfl⟩; replace hE : Pt V3 (w.heap.size + 1) NX NY := (by rw [← hV3]; exact hE.set _ _); have i0 := hE.c0; have i1 := hE.c1; have HBV := hid (show Below w.heap.size w V3 by rw [← hV3, ← hV2, ← hV1]; exact below_set2 (below_set2 (below_set2 HB3.out (by omega)) (by omega)) (by omega)); clear hF hG hE HB3)
  exact bodyPost_ret (v := pv NX NY) (by simp [results, Tryz.results192, go_sem, i0, i1]) rfl ⟨rfl, HBV.out⟩

set_option maxHeartbeats 800000 in
theorem turnOf_any (ax ay bx by' : Int) (w : World) :
    Calls Tryz.prog 176 #[pv ax ay, pv bx by'] w fun e w' => e = .returned (.tuple #[pv (ofD (near ax, near ay) (near bx, near by')).1.1 (ofD (near ax, near ay) (near bx, near by')).1.2, .bool (ofD (near ax, near ay) (near bx, near by')).2]) ∧ Below w.heap.size w w' := by
  obtain ⟨wA, hwA⟩ : ∃ wA, w.alloc (.cells #[.int .i64 ax, .int .i64 ay] 23) = wA := ⟨_, rfl⟩
  obtain ⟨wB, hwB⟩ : ∃ wB, wA.alloc (.cells #[.int .i64 bx, .int .i64 by'] 23) = wB := ⟨_, rfl⟩
  obtain ⟨hA, hB, hBL, hszB, hszA⟩ := box2 hwA hwB
  obtain ⟨wC, hwC⟩ : ∃ wC, wB.alloc (.cells #[.int .i64 0, .int .i64 0] 155) = wC := ⟨_, rfl⟩
  have hC : Dt 155 wC (w.heap.size + 2) 0 0 := by rw [← hwC, ← hszB]; exact Dt.new _ wB 0 0
  replace hA : Pt wC w.heap.size ax ay := by rw [← hwC]; exact hA.alloc _
  replace hB : Pt wC (w.heap.size + 1) bx by' := by rw [← hwC]; exact hB.alloc _
  have HBL := hid (show Below w.heap.size w wC by rw [← hwC]; exact hBL.alloc (by omega) _)
  have HA := hid hA; have HB := hid hB; have HC := hid hC
  have ka0 := cell_regrown hA.c0; have ka1 := cell_regrown hA.c1; have kb0 := cell_regrown hB.c0; have kb1 := cell_regrown hB.c1
  have ca := fun d os => turnHeld_any ax ay (grow (redrawn wC d) os)
  have cb := fun d os => turnHeld_any bx by' (grow (redrawn wC d) os)
  have n1 := near_lo ax; have n2 := near_hi ax; have n3 := near_lo ay; have n4 := near_hi ay
  have n5 := near_lo bx; have n6 := near_hi bx; have n7 := near_lo by'; have n8 := near_hi by'
  generalize near ax = AX at *
  generalize near ay = AY at *
  generalize near bx = BX at *
  generalize near by' = BY at *
  clear hA hB hC hBL
  go_enter Tryz.func176, Tryz.ntmps176
  go_wp2
  refine wp_region_tail (C := fun w' => ∃ p : Regrown, w' = grow (redrawn wC p.d) p.os) 4 (by kernel_rfl) (by kernel_rfl) ⟨⟨wC.drawn + 1, #[]⟩, by rw [grow_empty]; rfl⟩ ?_
  simp only [List.take, List.drop]
  go_big_quiet_step (fail)
  go_big_quiet_step (exact Calls.regrown_of (ca _ _))
  go_big_quiet_step (fail)
  go_big_quiet_step (exact Calls.regrown_of (cb _ _))
  refine wpQuiet_nil ?_
  intro W hW'
  obtain ⟨⟨dq, osq⟩, hW⟩ := hW'
  have hb : Below wC.heap.size wC W := by rw [hW]; exact below_regrown _ _ _
  clear hW ka0 ka1 kb0 kb1 ca cb
  have hA := HA.out.below hb HA.out.lt
  have hB := HB.out.below hb HB.out.lt
  have hC := HC.out.below hb HC.out.lt
  have a0 := hA.c0; have a1 := hA.c1; have a2 := hA.f0; have a3 := hA.f1
  have b2 := hB.f0; have b3 := hB.f1
  obtain ⟨V1, hV1⟩ : ∃ V, (W.setCell ⟨w.heap.size, 0, none⟩ (.int .i64 AX)).setCell ⟨w.heap.size, 1, none⟩ (.int .i64 AY) = V := ⟨_, rfl⟩
  replace hA : Pt V1 w.heap.size AX AY := by rw [← hV1]; exact hA.set _ _
  replace hB : Pt V1 (w.heap.size + 1) bx by' := by rw [← hV1]; exact hB.far (by omega) _ _
  replace hC : Dt 155 V1 (w.heap.size + 2) 0 0 := by rw [← hV1]; exact hC.far (by omega) _ _
  have d0 := hB.c0; have d1 := hB.c1; have d2 := hB.f0; have d3 := hB.f1
  obtain ⟨V2, hV2⟩ : ∃ V, (V1.setCell ⟨w.heap.size + 1, 0, none⟩ (.int .i64 BX)).setCell ⟨w.heap.size + 1, 1, none⟩ (.int .i64 BY) = V := ⟨_, rfl⟩
  replace hA : Pt V2 w.heap.size AX AY := by rw [← hV2]; exact hA.far (by omega) _ _
  replace hB : Pt V2 (w.heap.size + 1) BX BY := by rw [← hV2]; exact hB.set _ _
  replace hC : Dt 155 V2 (w.heap.size + 2) 0 0 := by rw [← hV2]; exact hC.far (by omega) _ _
  have HVL := hid (show Below w.heap.size w V2 by rw [← hV2, ← hV1]; exact below_set2 (below_set2 (HBL.out.trans (hb.mono HBL.out.size)) (Nat.le_refl _)) (Nat.le_add_right _ _))
  have r0 := hA.c0; have r1 := hA.c1; have s0 := hB.c0; have s1 := hB.c1
  have ee0 := hC.c0; have ee1 := hC.c1; have ee2 := hC.f0; have ee3 := hC.f1
  have m1 : w.heap.size + 2 ≠ w.heap.size := by omega
  have m2 : w.heap.size + 2 ≠ w.heap.size + 1 := by omega
  clear hb hA hB hC HA HB HC HBL
  go_wp2
  have u1 : IntKind.i64.wrap (BX - AX) = BX - AX := by rw [IntKind.wrap_i64]; omega
  have u2 : IntKind.i64.wrap (BY - AY) = BY - AY := by rw [IntKind.wrap_i64]; omega
  have fin : ∀ r1 r2, (AX == BX) = r1 → (AY == BY) = r2 → (!(AX == BX && AY == BY)) = !(r1 && r2) := fun r1 r2 h1 h2 => by rw [h1, h2]
  cases h1 : (AX == BX) <;> cases h2 : (AY == BY) <;> (
    have HF := hid (fin _ _ h1 h2)
    go_region_held (fun w' => w'.cell? ⟨w.heap.size, 0, none⟩ = some (.int .i64 AX) ∧ w'.cell? ⟨w.heap.size, 1, none⟩ = some (.int .i64 AY) ∧ w'.cell? ⟨w.heap.size + 1, 0, none⟩ = some (.int .i64 BX) ∧ w'.cell? ⟨w.heap.size + 1, 1, none⟩ = some (.int .i64 BY)) (simp [go_sem, r0, r1, s0, s1, World.cell?_setCell_far]) (fail)
    go_wp2
    refine bodyPost_ret (v := .tuple #[pv (BX - AX) (BY - AY), .bool (!(AX == BX && AY == BY))]) (by rw [HF.out]; simp [results, Tryz.results176, go_sem, ee0, ee1]) rfl ⟨rfl, ?_⟩
    exact below_set2 HVL.out.drew (Nat.le_add_right _ _))
end Go.Proofs.YtkdnkmheidbfdaaGreat
