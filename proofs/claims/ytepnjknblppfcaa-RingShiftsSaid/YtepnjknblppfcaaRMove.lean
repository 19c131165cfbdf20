/-
  Rings that are moved, or begun elsewhere, as lists of points; two rows side by side.
-/
import Derived.Test.YtepnjknblppfcaaRLawB
namespace Go.Proofs.Ytepnjknblppfcaa
open Go.RowKit Go.Sort

theorem areaQ_congr {n : Nat} {q r : Nat → Pp} (h : ∀ i, i < n → q i = r i) : areaR n q = areaR n r := by
  unfold areaR
  refine sN_congr fun i hi => ?_
  rw [h i hi, h _ (Nat.mod_lt _ (by omega))]
theorem insideQ_congr {n : Nat} {q r : Nat → Pp} (p : Pp) (h : ∀ i, i < n → q i = r i) : insideR n q p = insideR n r p := by
  unfold insideR onR rayR
  rw [cN_congr (c := fun i => on2 (r i) (r ((i + 1) % n)) p) (fun i hi => by rw [h i hi, h _ (Nat.mod_lt _ (by omega))]), cN_congr (b := fun i => rayP (q i) (q ((i + 1) % n)) p) (c := fun i => rayP (r i) (r ((i + 1) % n)) p) (fun i hi => by rw [h i hi, h _ (Nat.mod_lt _ (by omega))])]
theorem lpt_map {xs : List Pp} {f : Pp → Pp} {i : Nat} (h : i < xs.length) : lpt (xs.map f) i = f (lpt xs i) := by
  refine lpt_at ?_
  rw [List.getElem?_map, at_lpt h]
  rfl
/-- A small number. -/
def Sm (b : Int) (p : Pp) : Prop := (-b ≤ p.1 ∧ p.1 ≤ b) ∧ -b ≤ p.2 ∧ p.2 ≤ b
theorem clP_small {b : Int} {p : Pp} (h : Sm b p) (hb : b ≤ 1048576) : clP p = p := by
  obtain ⟨h1, h2⟩ := h
  unfold clP
  rw [near_in (by omega) (by omega), near_in (by omega) (by omega)]
theorem sm_md (p : Pp) : Sm 100 (md p) := by
  have h1 := tmod_100 p.1
  have h2 := tmod_100 p.2
  unfold Sm md
  dsimp only
  omega
theorem sm_mv {p : Pp} {x y : Int} (h : Sm 100 p) (hx : -10000 ≤ x ∧ x ≤ 10000) (hy : -10000 ≤ y ∧ y ≤ 10000) : Sm 10100 (mvP x y p) := by
  unfold Sm mvP at *
  dsimp only
  omega
theorem ringQ_mv {xs : List Pp} {x y : Int} (hs : ∀ p ∈ xs, Sm 100 p) (hx : -10000 ≤ x ∧ x ≤ 10000) (hy : -10000 ≤ y ∧ y ≤ 10000) {i : Nat} (hi : i < xs.length) : ringQ (xs.map (mvP x y)) i = mvP x y (ringQ xs i) := by
  have h := hs _ (List.mem_of_getElem? (at_lpt hi))
  unfold ringQ
  rw [lpt_map hi, clP_small (sm_mv h hx hy) (by decide), clP_small h (by decide)]
theorem areaL_mv {xs : List Pp} {x y : Int} (hs : ∀ p ∈ xs, Sm 100 p) (hx : -10000 ≤ x ∧ x ≤ 10000) (hy : -10000 ≤ y ∧ y ≤ 10000) : areaL (xs.map (mvP x y)) = areaL xs := by
  unfold areaL
  rw [List.length_map, areaQ_congr (fun i hi => ringQ_mv hs hx hy hi)]
  exact areaR_move _ _ _ _
theorem insideL_mv {xs : List Pp} {x y : Int} {p : Pp} (hs : ∀ p ∈ xs, Sm 100 p) (hp : Sm 100 p) (hx : -10000 ≤ x ∧ x ≤ 10000) (hy : -10000 ≤ y ∧ y ≤ 10000) : insideL (xs.map (mvP x y)) (mvP x y p) = insideL xs p := by
  unfold insideL
  rw [List.length_map, insideQ_congr _ (fun i hi => ringQ_mv hs hx hy hi), clP_small (sm_mv hp hx hy) (by decide), clP_small hp (by decide)]
  exact insideR_move _ _ _ _ _
/-- A ring begun elsewhere. -/
def rotL (xs : List Pp) (f k : Nat) : List Pp := (List.range k).map fun i => lpt xs ((i + f) % xs.length)
theorem rotL_len (xs : List Pp) (f k : Nat) : (rotL xs f k).length = k := by unfold rotL; simp
theorem rotL_succ (xs : List Pp) (f k : Nat) : rotL xs f (k + 1) = rotL xs f k ++ [lpt xs ((k + f) % xs.length)] := by
  unfold rotL
  rw [List.range_succ, List.map_append]
  rfl
theorem ringQ_rot {xs : List Pp} {f i : Nat} (hi : i < xs.length) : ringQ (rotL xs f xs.length) i = ringQ xs ((i + f) % xs.length) := by
  unfold ringQ
  rw [show lpt (rotL xs f xs.length) i = lpt xs ((i + f) % xs.length) from lpt_at (by unfold rotL; rw [List.getElem?_map, List.getElem?_range hi]; rfl)]
theorem areaL_rot (xs : List Pp) (f : Nat) : areaL (rotL xs f xs.length) = areaL xs := by
  unfold areaL
  rw [rotL_len, areaQ_congr (fun i hi => ringQ_rot hi)]
  exact areaR_rot _ _ _
theorem insideL_rot (xs : List Pp) (f : Nat) (p : Pp) : insideL (rotL xs f xs.length) p = insideL xs p := by
  unfold insideL
  rw [rotL_len, insideQ_congr _ (fun i hi => ringQ_rot hi)]
  exact insideR_rot _ _ _ _
theorem gl_rot {xs : List Pp} (h : Gl xs) (f k : Nat) (h0 : 0 < xs.length ∨ k = 0) : Gl (rotL xs f k) := fun p hp => by
  unfold rotL at hp
  obtain ⟨i, hi, rfl⟩ := List.mem_map.1 hp
  have := List.mem_range.1 hi
  exact h _ (List.mem_of_getElem? (at_lpt (Nat.mod_lt _ (by omega))))
theorem gl_mv {xs : List Pp} {x y : Int} (hs : ∀ p ∈ xs, Sm 100 p) (hx : -10000 ≤ x ∧ x ≤ 10000) (hy : -10000 ≤ y ∧ y ≤ 10000) : Gl (xs.map (mvP x y)) := fun p hp => by
  obtain ⟨q, hq, rfl⟩ := List.mem_map.1 hp
  exact clP_small (sm_mv (hs q hq) hx hy) (by decide)

theorem Other.symm {u v : Value} (h : Other u v) : Other v u := fun k hk e => h k e hk
theorem other_nil (u : Value) : Other (.slice none 0 0) u := fun k hk => by cases hk
/-- One point more on a row; other rows stay. -/
theorem PtRow.snocBy {w : World} {base : Nat} {v : Value} {ps : List Pp} (h : PtRow w base v ps) (hb : base ≤ w.heap.size) (hl : ps.length ≤ 999999) (x y : Int) :
    ∃ ao cap w', (Builtin.append_ #[22, 22] 22 #[v, .slice (some ⟨w.heap.size, 0, none⟩) 1 1]).run Try.prog (w.alloc (.cells #[.int .i64 x, .int .i64 y] 24)) = .ok (.slice ao (ps.length + 1) cap) w' ∧
      PtRow w' base (.slice ao (ps.length + 1) cap) (ps ++ [(x, y)]) ∧ Below base w w' ∧ ∀ u qs, PtRow w base u qs → Other v u → PtRow w' base u qs ∧ Other (.slice ao (ps.length + 1) cap) u := by
  obtain ⟨wA, hwA⟩ : ∃ wA, w.alloc (.cells #[.int .i64 x, .int .i64 y] 24) = wA := ⟨_, rfl⟩
  have hbA : Below w.heap.size w wA := by rw [← hwA]; exact (Below.refl _ _).alloc (Nat.le_refl _) _
  have hs : Src wA (.slice (some ⟨w.heap.size, 0, none⟩) 1 1) [(x, y)] := by rw [← hwA]; exact Src.new w x y
  obtain ⟨v', w', hrun, hrow, hb', hby⟩ := (h.below hbA).add hs (Nat.le_trans hb hbA.size) (by simp; omega)
  rw [hwA]
  obtain ⟨ao, cap, hv⟩ := hrow.form
  rw [List.length_append] at hv
  subst hv
  exact ⟨ao, cap, w', hrun, hrow, (hbA.mono hb).trans hb', fun u qs hu ho => (hu.below hbA).keep hby ho⟩
end Go.Proofs.Ytepnjknblppfcaa
