/-
  A slice of points, as it comes in: it may be told on.
-/
import Derived.Test.YtlnjjkgjknheiaaME
import Derived.Test.YtlnjjkgjknheiaaQLaw
import Derived.Deep.Slices
namespace Go.Proofs.Ytlnjjkgjknheiaa
open Go.ChangeShapes Go.WideShapes Go.ChangeAt Go.RowKit

theorem bytesP : Try.prog.bytesOf 24 = 16 := by kernel_rfl
set_option maxRecDepth 100000 in
theorem pt_cells {H : Type} {enc : TypeId × Value → H} {W : World} {n b off i : Nat} {cs : List Value} {x : DataW H × List MemPlace} (h1 : W.cells? 0 ⟨b, off + i * 2, none⟩ 2 = some cs) (hf : DataW.trod enc Try.prog W 0 (fun _ => true) true n 24 cs = some x) :
    ∃ z : Int × Int, W.cell? ⟨b, off + i * 2, none⟩ = some (.int .i64 z.1) ∧ W.cell? ⟨b, off + i * 2 + 1, none⟩ = some (.int .i64 z.2) ∧ P64 z := by
  obtain ⟨_, hlen, hcell⟩ := World.cells?_some h1
  obtain ⟨xs, k, hk, hxy, _, hxl, hfl⟩ := DataW.trod_struct Try.underlying24 hf
  have c3 : Try.prog.cellsOf 2 = 1 := by kernel_rfl
  match xs, hxl, cs, hlen with
  | [y0, y1], _, [v0, v1], _ =>
    have g0 := hfl 0 _ rfl
    have g1 := hfl 1 _ rfl
    simp [c3] at g0 g1
    obtain ⟨z0, e0, _, w0⟩ := DataW.trod_int Try.underlying2 g0
    obtain ⟨z1, e1, _, w1⟩ := DataW.trod_int Try.underlying2 g1
    simp at e0 e1
    subst e0 e1
    have a0 := hcell 0 (by omega)
    have a1 := hcell 1 (by omega)
    rw [Addr.add_lit] at a0 a1
    exact ⟨(z0, z1), a0, a1, bounds_i64 w0, bounds_i64 w1⟩
theorem slice_spot {W : World} {r : Reach} {base len cap : Nat} {a : Addr} (hv : Value.okWide Try.prog W r base 25 (.slice (some a) len cap)) : a.spot = none ∧ len ≤ cap := by
  simp only [Value.okWide, Try.underlying25, Cell.okWide, Cell.ok] at hv
  exact ⟨hv.2.2.2.1, hv.1⟩
set_option maxRecDepth 100000 in
theorem has_src {H : Type} {enc : TypeId × Value → H} {W : World} {v : Value} {d : DataW H} {p : List MemPlace} {base : Nat} (hv : Value.okWide Try.prog W .any base 25 v) (h : DataW.Trod enc Try.prog W 0 (fun _ => true) true 25 v d p)
    (hsz : ∀ es sp, d = .slice es sp → es.length + sp.length ≤ reachBytes) : ∃ rs, Src W v rs ∧ (∀ p ∈ rs, P64 p) ∧ rs.length ≤ 140737488355328 := by
  obtain ⟨a, len, cap, rfl⟩ := okWide_slice Try.underlying25 hv
  obtain ⟨fuel, hf⟩ := h
  rcases Deep.open_slice Try.underlying25 hf with ⟨hcs, _⟩ | ⟨x, l, c, m, n, D, Pl, hcs, _, hl, _, hm, hd, hx⟩
  · simp [Value.cells] at hcs
    obtain ⟨rfl, rfl, rfl⟩ := hcs
    exact ⟨[], .inl ⟨rfl, rfl⟩, fun p hp => (by cases hp), by simp⟩
  · simp [Value.cells] at hcs
    obtain ⟨rfl, rfl, rfl⟩ := hcs
    have hm' : m = cap := by simpa using hm
    subst hm'
    rw [cellsP] at hx
    have hbnd : len ≤ reachBytes := by
      have := hsz _ _ (by injection hd)
      simp at this
      omega
    obtain ⟨hspot, _⟩ := slice_spot hv
    obtain ⟨b, off, spot⟩ := x
    dsimp only at hspot
    subst hspot
    obtain ⟨O, hO⟩ := Deep.choose_lt (α := Int × Int) (n := len) (p := fun i z => W.cell? ⟨b, off + i * 2, none⟩ = some (.int .i64 z.1) ∧ W.cell? ⟨b, off + i * 2 + 1, none⟩ = some (.int .i64 z.2) ∧ P64 z) (fun i hi => by
      obtain ⟨cs', h1, h2⟩ := hx i (by omega)
      rw [Addr.add_lit] at h1
      exact pt_cells h1 h2)
    refine ⟨(List.range len).map O, .inr ⟨b, off, m, by simp, by simp; exact hl, fun j z hj => ?_⟩, fun z hz => ?_, by simp; unfold reachBytes at hbnd; omega⟩
    · have hj' : j < len := by
        have := (List.getElem?_eq_some_iff.1 hj).1
        simpa using this
      have hz : O j = z := by
        have := (List.getElem?_eq_some_iff.1 hj).2
        simpa using this
      rw [← hz]
      exact ⟨(hO j hj').1, (hO j hj').2.1⟩
    · obtain ⟨j, hj, rfl⟩ := List.mem_map.1 hz
      exact (hO j (List.mem_range.1 hj)).2.2
end Go.Proofs.Ytlnjjkgjknheiaa
