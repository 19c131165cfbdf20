/-
  DiskPlays: the script, as it comes in.
-/
import Derived.Test.YtindjkgkdldooaaPlaysMem
import Derived.Test.YtindjkgkdldooaaDLaw
import Derived.Deep.Slices
namespace Go.Proofs.Ytindjkgkdldooaa
open Go.ChangeShapes Go.WideShapes Go.ChangeAt Go.RowKit

theorem weights_all {H : Type} {P : Program} {e : TypeId} : ∀ {l : List (DataW H)} {d : DataW H}, d ∈ l → ∀ n ∈ d.weights P e, n ∈ DataW.weightsAll P e l
  | x :: l, d, hd, n, hn => by
    rw [DataW.weightsAll]
    rcases List.mem_cons.1 hd with rfl | hd
    · exact List.mem_append.2 (.inl hn)
    · exact List.mem_append.2 (.inr (weights_all hd n hn))

/-- Numbers that lie within a struct. -/
theorem ints_cells {H : Type} {enc : TypeId × Value → H} {W : World} {fuel : Nat} {v : Value} {x : DataW H × List MemPlace} (hf : DataW.trod enc Try.prog W 0 (fun _ => true) true fuel 22 [v] = some x)
    (hsz : ∀ es sp, x.1 = .slice es sp → es.length + sp.length ≤ reachBytes) : ∃ zs, Ints W v zs ∧ zs.length ≤ reachBytes := by
  rcases open_ints Try.underlying22 Try.underlying3 (by kernel_rfl) hf with ⟨hcs, _⟩ | ⟨x, l, c, zs, hcs, _, hl, hm, hz, hd, hcell, hwz⟩
  · obtain rfl : v = .slice none 0 0 := by simpa using hcs
    exact ⟨[], ⟨fun j hj => by simp at hj, none, 0, rfl, fun h => by simp at h⟩, by simp⟩
  · obtain rfl : v = .slice (some x) l c := by simpa using hcs
    have hz' : zs.length = c := by simpa using hz
    have hbnd : l ≤ reachBytes := by
      have := hsz _ _ (by rw [hd])
      simp [lits] at this
      omega
    have hlen : (zs.take l).length = l := by simp; omega
    refine ⟨zs.take l, ⟨fun b hb => bounds_i64 (hwz b (List.mem_of_mem_take hb)), some x, c, by rw [hlen], fun h1 => ?_⟩, by rw [hlen]; exact hbnd⟩
    rw [hlen] at h1
    obtain ⟨b, off, spot⟩ := x
    have hc := hcell 0 (by omega)
    have hspot : spot = none := by simpa [Addr.add] using World.cell?_spot hc
    subst hspot
    refine ⟨b, off, rfl, fun j hj => ?_⟩
    rw [hlen] at hj
    have := hcell j (by omega)
    rw [Addr.add_lit] at this
    rw [this]
    simp [hj]

theorem bytesOp : Try.prog.cellsOf 44 = 5 := by kernel_rfl
theorem op_cells {H : Type} {enc : TypeId × Value → H} {W : World} {n b off i : Nat} {cs : List Value} {x : DataW H × List MemPlace} (h1 : W.cells? 0 ⟨b, off + i * 5, none⟩ 5 = some cs) (hf : DataW.trod enc Try.prog W 0 (fun _ => true) true n 44 cs = some x)
    (hw : ∀ n ∈ x.1.weights Try.prog 44, n ≤ reachBytes) : ∃ o : OpD, OpOk W o ∧ W.rangeAt b (off + i * 5) (opV o) := by
  obtain ⟨_, hlen, hcell⟩ := World.cells?_some h1
  obtain ⟨xs, k, hk, hxy, _, hxl, hfl⟩ := DataW.trod_struct Try.underlying44 hf
  have c3 : Try.prog.cellsOf 3 = 1 := by kernel_rfl
  have c4 : Try.prog.cellsOf 4 = 1 := by kernel_rfl
  have c22 : Try.prog.cellsOf 22 = 1 := by kernel_rfl
  match xs, hxl, cs, hlen with
  | [y0, y1, y2, y3, y4], _, [v0, v1, v2, v3, v4], _ =>
    have g0 := hfl 0 _ rfl
    have g1 := hfl 1 _ rfl
    have g2 := hfl 2 _ rfl
    have g3 := hfl 3 _ rfl
    have g4 := hfl 4 _ rfl
    simp [c3, c4, c22] at g0 g1 g2 g3 g4
    obtain ⟨z0, e0, _, w0⟩ := DataW.trod_int Try.underlying3 g0
    obtain ⟨z1, e1, _, w1⟩ := DataW.trod_int Try.underlying3 g1
    obtain ⟨z2, e2, _, w2⟩ := DataW.trod_int Try.underlying3 g2
    obtain ⟨z3, e3, _⟩ := DataW.trod_bool Try.underlying4 g3
    simp at e0 e1 e2 e3
    subst e0 e1 e2 e3
    have hwy : ∀ n ∈ y4.1.weights Try.prog 22, n ≤ reachBytes := fun n hn => by
      refine hw n ?_
      rw [hxy]
      show n ∈ DataW.weights Try.prog 44 (.agg [y0.1, y1.1, y2.1, y3.1, y4.1])
      rw [DataW.weights, Try.underlying44]
      exact DataW.weights_mem_each (j := 4) rfl rfl n hn
    obtain ⟨ks, hks, hkl⟩ := ints_cells g4 (fun es sp he => by
      have := hwy ((es.length + sp.length) * Try.prog.bytesOf 3) (by
        rw [he, DataW.weights, Try.underlying22]
        simp)
      rw [bytesInt] at this
      omega)
    refine ⟨⟨z0, z1, z2, z3, v4, ks⟩, ⟨bounds_i64 w0, bounds_i64 w1, bounds_i64 w2, hks, by unfold reachBytes at hkl; show ks.length ≤ _; omega⟩, fun j v hj => ?_⟩
    have hj5 : j < 5 := (List.getElem?_eq_some_iff.1 hj).1
    have := hcell j hj5
    rw [Addr.add_lit] at this
    rw [this]
    exact hj
theorem has_ops {H : Type} {enc : TypeId × Value → H} {W : World} {v : Value} {d : DataW H} {p : List MemPlace} {base : Nat} (hv : Value.okWide Try.prog W .any base 39 v) (h : DataW.Trod enc Try.prog W 0 (fun _ => true) true 39 v d p)
    (hw : ∀ n ∈ d.weights Try.prog 39, n ≤ reachBytes) : ∃ os, OpsIs W v os := by
  obtain ⟨a, len, cap, rfl⟩ := okWide_slice Try.underlying39 hv
  obtain ⟨fuel, hf⟩ := h
  rcases Deep.open_slice Try.underlying39 hf with ⟨hcs, _⟩ | ⟨x, l, c, m, n, D, Pl, hcs, _, hl, _, hm, hd, hx⟩
  · simp [Value.cells] at hcs
    obtain ⟨rfl, rfl, rfl⟩ := hcs
    exact ⟨[], fun o ho => by simp at ho, none, 0, rfl, fun h => by simp at h⟩
  · simp [Value.cells] at hcs
    obtain ⟨rfl, rfl, rfl⟩ := hcs
    have hm' : m = cap := by simpa using hm
    subst hm'
    rw [bytesOp] at hx
    have hd1 : d = .slice ((List.range len).map D) ((List.range (m - len)).map fun j => D (len + j)) := by injection hd
    by_cases h0 : len = 0
    · subst h0
      exact ⟨[], fun o ho => by simp at ho, some x, m, rfl, fun h => by simp at h⟩
    · obtain ⟨b, off, spot⟩ := x
      have hspot : spot = none := by
        obtain ⟨cs', h1, _⟩ := hx 0 (by omega)
        obtain ⟨_, hlen, hcell⟩ := World.cells?_some h1
        have hc := hcell 0 (by omega)
        rw [List.getElem?_eq_getElem (by omega)] at hc
        simpa [Addr.add] using World.cell?_spot hc
      subst hspot
      haveI : Inhabited OpD := ⟨⟨0, 0, 0, false, .slice none 0 0, []⟩⟩
      obtain ⟨O, hO⟩ := Deep.choose_lt (α := OpD) (n := len) (p := fun i o => OpOk W o ∧ W.rangeAt b (off + i * 5) (opV o)) (fun i hi => by
        obtain ⟨cs', h1, h2⟩ := hx i (by omega)
        rw [Addr.add_lit] at h1
        refine op_cells h1 h2 (fun n hn => hw n ?_)
        rw [hd1, DataW.weights, Try.underlying39]
        refine List.mem_cons_of_mem _ (List.mem_append.2 (.inl (weights_all (d := D i) ?_ n hn)))
        exact List.mem_map.2 ⟨i, List.mem_range.2 hi, rfl⟩)
      refine ⟨(List.range len).map O, fun o ho => ?_, some ⟨b, off, none⟩, m, by simp, fun _ => ⟨b, off, rfl, fun j hj => ?_⟩⟩
      · obtain ⟨i, hi, rfl⟩ := List.mem_map.1 ho
        exact (hO i (List.mem_range.1 hi)).1
      · have hj' : j < len := by simpa using hj
        simpa using (hO j hj').2
end Go.Proofs.Ytindjkgkdldooaa
