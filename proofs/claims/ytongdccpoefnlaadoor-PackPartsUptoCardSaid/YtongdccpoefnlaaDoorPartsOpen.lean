/-
  PackParts: the arguments opened, where they are of small bulk.
-/
import Derived.Test.YtongdccpoefnlaaDoorPartsWalk
import Derived.Test.YtongdccpoefnlaaDoorLaw
import Derived.Deep.Slices
namespace Go.Proofs.YtongdccpoefnlaaDoor
open Go.ChangeShapes Go.WideShapes Go.ChangeAt Go.RowKit Go.Deep

theorem bulk_lits {H : Type} (k : IntKind) : ∀ zs : List Int, Rows.uptoBulkAll (lits (H := H) k zs) = zs.length
  | [] => by simp [lits, Rows.uptoBulkAll]
  | z :: zs => by
    have := bulk_lits (H := H) k zs
    simp only [lits, List.map_cons, Rows.uptoBulkAll, Rows.uptoBulk, List.length_cons] at this ⊢
    omega
theorem bulk_sum {H : Type} : ∀ l : List (DataW H), Rows.uptoBulkAll l = (l.map Rows.uptoBulk).sum
  | [] => by simp [Rows.uptoBulkAll]
  | d :: l => by simp [Rows.uptoBulkAll, bulk_sum l]
theorem sum_le_sum {n : Nat} {f g : Nat → Nat} (h : ∀ i, i < n → f i ≤ g i) : ((List.range n).map f).sum ≤ ((List.range n).map g).sum := by
  induction n with
  | zero => simp
  | succ n ih =>
    have h1 := ih fun i hi => h i (by omega)
    have h2 := h n (by omega)
    simp only [List.range_succ, List.map_append, List.sum_append, List.map_cons, List.map_nil, List.sum_cons, List.sum_nil]
    omega
theorem sum_lt {n : Nat} {f g : Nat → Nat} (h : ∀ i, i < n → f i + 1 ≤ g i) : ((List.range n).map f).sum + n ≤ ((List.range n).map g).sum := by
  induction n with
  | zero => simp
  | succ n ih =>
    have h1 := ih fun i hi => h i (by omega)
    have h2 := h n (by omega)
    simp only [List.range_succ, List.map_append, List.sum_append, List.map_cons, List.map_nil, List.sum_cons, List.sum_nil]
    omega
theorem mem_le_sum {n : Nat} {g : Nat → Nat} {i : Nat} (hi : i < n) : g i ≤ ((List.range n).map g).sum := by
  induction n with
  | zero => omega
  | succ n ih =>
    simp only [List.range_succ, List.map_append, List.sum_append, List.map_cons, List.map_nil, List.sum_cons, List.sum_nil]
    rcases Nat.lt_succ_iff_lt_or_eq.1 hi with h | rfl
    · have := ih h; omega
    · omega

theorem has_cells {H : Type} {enc : TypeId × Value → H} {W : World} {V : Value} {d : DataW H} {pl : List MemPlace} {fuel : Nat} (hf : DataW.trod enc Tryd.prog W 0 (fun _ => true) true fuel 22 [V] = some (d, pl))
    (hb : Rows.uptoBulk d ≤ 1048576) : ∃ zs, Has W V zs ∧ zs.length + 1 ≤ Rows.uptoBulk d := by
  rcases open_ints Tryd.underlying22 Tryd.underlying5 (by kernel_rfl) hf with ⟨hcs, hd⟩ | ⟨x, len, cap, zs, hcs, _, hl, hm, hz, hd, hcell, hwz⟩
  · simp at hcs hd
    obtain ⟨rfl, rfl⟩ := hd
    subst hcs
    exact ⟨[], ⟨fun j => by simp, by simp, .inl ⟨none, 0, rfl, rfl, fun _ => rfl⟩⟩, by simp [Rows.uptoBulk]⟩
  · simp at hcs hd
    obtain ⟨rfl, rfl⟩ := hd
    subst hcs
    have hz' : zs.length = cap := by simpa using hz
    have hlen : (zs.take len).length = len := by simp; omega
    have hbnd : len + 1 ≤ Rows.uptoBulk (H := H) (.slice (lits .u8 (zs.take len)) (lits .u8 (zs.drop len))) := by
      simp only [Rows.uptoBulk, bulk_lits, hlen]
      omega
    have hr : ∀ b ∈ zs.take len, 0 ≤ b ∧ b ≤ 255 := fun b hb => bounds_u8 (hwz b (List.mem_of_mem_take hb))
    refine ⟨zs.take len, ⟨range_of hr, by rw [hlen]; omega, ?_⟩, by rw [hlen]; exact hbnd⟩
    by_cases h0 : len = 0
    · subst h0
      exact .inl ⟨_, _, rfl, by simp, fun h => by cases h⟩
    · obtain ⟨b, off, spot⟩ := x
      have hc := hcell 0 (by omega)
      have hspot : spot = none := by simpa [Addr.add] using World.cell?_spot hc
      subst hspot
      refine .inr ⟨b, off, cap, by rw [hlen], by omega, fun j hj => ?_⟩
      have hj' : j < len := by omega
      have := hcell j (by omega)
      rw [Addr.add_lit] at this
      rw [this]
      simp [hj']

theorem has_small {H : Type} {enc : TypeId × Value → H} {W : World} {v : Value} {d : DataW H} {p : List MemPlace} {base : Nat} (hv : Value.okWide Tryd.prog W .any base 22 v) (h : DataW.Trod enc Tryd.prog W 0 (fun _ => true) true 22 v d p)
    (hb : Rows.uptoBulk d ≤ 1048576) : ∃ zs, Has W v zs ∧ zs.length ≤ 1048576 := by
  obtain ⟨a, len, cap, rfl⟩ := okWide_slice Tryd.underlying22 hv
  obtain ⟨fuel, hf⟩ := h
  obtain ⟨zs, h1, h2⟩ := has_cells (V := .slice a len cap) hf hb
  exact ⟨zs, h1, by omega⟩

theorem has_parts {H : Type} {enc : TypeId × Value → H} {W : World} {v : Value} {d : DataW H} {p : List MemPlace} {base : Nat} (hv : Value.okWide Tryd.prog W .any base 46 v) (h : DataW.Trod enc Tryd.prog W 0 (fun _ => true) true 46 v d p)
    (hb : Rows.uptoBulk d ≤ 1048576) : ∃ pss, Parts W v pss ∧ lensL pss + pss.length ≤ 1048576 := by
  obtain ⟨a, len, cap, rfl⟩ := okWide_slice Tryd.underlying46 hv
  obtain ⟨fuel, hf⟩ := h
  rcases open_slice1 Tryd.underlying46 (by kernel_rfl) hf with ⟨hcs, _⟩ | ⟨x, l, c, m, n, V, D, Pl, hcs, _, hl, _, hm, hd, hx⟩
  · simp [Value.cells] at hcs
    obtain ⟨rfl, rfl, rfl⟩ := hcs
    exact ⟨[], ⟨none, 0, rfl, fun h => by simp at h⟩, by simp [lensL]⟩
  · simp [Value.cells] at hcs
    obtain ⟨rfl, rfl, rfl⟩ := hcs
    simp at hm hd
    subst hm
    obtain ⟨rfl, rfl⟩ := hd
    have hsum : ((List.range len).map fun i => Rows.uptoBulk (D i)).sum ≤ 1048576 := by
      simp only [Rows.uptoBulk, bulk_sum, List.map_map] at hb
      have e : ((List.range len).map fun i => Rows.uptoBulk (D i)) = (List.range len).map (Rows.uptoBulk ∘ D) := rfl
      rw [e]
      omega
    obtain ⟨Z, hZ⟩ := choose_lt (α := List Int) (n := len) (p := fun i zs => Has W (V i) zs ∧ zs.length + 1 ≤ Rows.uptoBulk (D i)) (fun i hi => by
      have := mem_le_sum (g := fun i => Rows.uptoBulk (D i)) hi
      exact has_cells (hx i (by omega)).2 (by omega))
    have hlen : ((List.range len).map Z).length = len := by simp
    refine ⟨(List.range len).map Z, ⟨some x, m, by rw [hlen], fun h1 => ?_⟩, ?_⟩
    · rw [hlen] at h1
      obtain ⟨b, off, spot⟩ := x
      have hspot : spot = none := by simpa [Addr.add] using World.cell?_spot (hx 0 (by omega)).1
      subst hspot
      refine ⟨b, off, rfl, fun j hj => ⟨V j, ?_, ?_⟩⟩
      · have := (hx j (by omega)).1
        rw [Addr.add_lit] at this
        exact this
      · have hj' : j < len := by omega
        have := (hZ j hj').1
        simpa [hj'] using this
    · have := sum_lt (f := fun i => (Z i).length) (g := fun i => Rows.uptoBulk (D i)) (n := len) fun i hi => (hZ i hi).2
      rw [hlen]
      unfold lensL
      rw [List.map_map]
      have e : ((List.range len).map (List.length ∘ Z)) = (List.range len).map fun i => (Z i).length := rfl
      rw [e]
      omega
end Go.Proofs.YtongdccpoefnlaaDoor
