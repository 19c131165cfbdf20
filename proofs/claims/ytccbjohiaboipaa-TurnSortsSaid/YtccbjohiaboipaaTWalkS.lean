/-
  A slice of points, as it comes in, with its bounds; the laws of layer 11 as their frames want them.
-/
import Derived.Test.YtccbjohiaboipaaTSorts
import Derived.Test.YtccbjohiaboipaaTTurnC
import Derived.Test.YtccbjohiaboipaaQLaw
import Derived.Deep.Slices
namespace Go.Proofs.Ytccbjohiaboipaa
open Go.ChangeShapes Go.WideShapes Go.ChangeAt Go.RowKit

theorem bytesP : Try.prog.bytesOf 30 = 16 := by kernel_rfl
set_option maxRecDepth 100000 in
theorem pt_cells {H : Type} {enc : TypeId × Value → H} {W : World} {n b off i : Nat} {cs : List Value} {x : DataW H × List MemPlace} (h1 : W.cells? 0 ⟨b, off + i * 2, none⟩ 2 = some cs) (hf : DataW.trod enc Try.prog W 0 (fun _ => true) true n 30 cs = some x) :
    ∃ z : Int × Int, W.cell? ⟨b, off + i * 2, none⟩ = some (.int .i64 z.1) ∧ W.cell? ⟨b, off + i * 2 + 1, none⟩ = some (.int .i64 z.2) ∧ P64 z := by
  obtain ⟨_, hlen, hcell⟩ := World.cells?_some h1
  obtain ⟨xs, k, hk, hxy, _, hxl, hfl⟩ := DataW.trod_struct Try.underlying30 hf
  have c3 : Try.prog.cellsOf 2 = 1 := by kernel_rfl
  match xs, hxl, cs, hlen with
  | [y0, y1], _, [v0, v1], _ =>
    have g0 := hfl 0 _ rfl
    have g1 := hfl 1 _ rfl
    simp [c3] at g0 g1
    obtain ⟨z0, e0, _, w0⟩ := DataW.trod_int Try.underlying2 g0
    obtain ⟨z1, e1, _, w1⟩ := DataW.trod_int Try.underlying2 g1
    simp at e0 e1
    subst e0 e1
    have a0 := hcell 0 (by omega)
    have a1 := hcell 1 (by omega)
    rw [Addr.add_lit] at a0 a1
    exact ⟨(z0, z1), a0, a1, bounds_i64 w0, bounds_i64 w1⟩
set_option maxRecDepth 100000 in
theorem has_pts {H : Type} {enc : TypeId × Value → H} {W : World} {v : Value} {d : DataW H} {p : List MemPlace} {base : Nat} (hv : Value.okWide Try.prog W .any base 34 v) (h : DataW.Trod enc Try.prog W 0 (fun _ => true) true 34 v d p)
    (hsz : ∀ es sp, d = .slice es sp → es.length + sp.length ≤ reachBytes) : ∃ rs, Pts W v rs ∧ (∀ p ∈ rs, P64 p) := by
  obtain ⟨a, len, cap, rfl⟩ := okWide_slice Try.underlying34 hv
  obtain ⟨fuel, hf⟩ := h
  rcases Deep.open_slice Try.underlying34 hf with ⟨hcs, _⟩ | ⟨x, l, c, m, n, D, Pl, hcs, _, hl, _, hm, hd, hx⟩
  · simp [Value.cells] at hcs
    obtain ⟨rfl, rfl, rfl⟩ := hcs
    exact ⟨[], ⟨none, 0, rfl, fun h => by simp at h⟩, fun p hp => by cases hp⟩
  · simp [Value.cells] at hcs
    obtain ⟨rfl, rfl, rfl⟩ := hcs
    have hm' : m = cap := by simpa using hm
    subst hm'
    rw [cellsP] at hx
    have hbnd : len ≤ reachBytes := by
      have := hsz _ _ (by injection hd)
      simp at this
      omega
    by_cases h0 : len = 0
    · subst h0
      exact ⟨[], ⟨some x, m, rfl, fun h => by simp at h⟩, fun p hp => by cases hp⟩
    · obtain ⟨b, off, spot⟩ := x
      have hspot : spot = none := by
        obtain ⟨cs', h1, _⟩ := hx 0 (by omega)
        obtain ⟨_, hlen, hcell⟩ := World.cells?_some h1
        have hc := hcell 0 (by omega)
        rw [List.getElem?_eq_getElem (by omega)] at hc
        simpa [Addr.add] using World.cell?_spot hc
      subst hspot
      obtain ⟨O, hO⟩ := Deep.choose_lt (α := Int × Int) (n := len) (p := fun i z => W.cell? ⟨b, off + i * 2, none⟩ = some (.int .i64 z.1) ∧ W.cell? ⟨b, off + i * 2 + 1, none⟩ = some (.int .i64 z.2) ∧ P64 z) (fun i hi => by
        obtain ⟨cs', h1, h2⟩ := hx i (by omega)
        rw [Addr.add_lit] at h1
        exact pt_cells h1 h2)
      refine ⟨(List.range len).map O, ⟨some ⟨b, off, none⟩, m, by simp, fun _ => ⟨b, off, rfl, fun j z hj => ?_⟩⟩, fun z hz => ?_⟩
      rotate_left
      · obtain ⟨j, hj, rfl⟩ := List.mem_map.1 hz
        exact (hO j (List.mem_range.1 hj)).2.2
      have hj' : j < len := by
        have := (List.getElem?_eq_some_iff.1 hj).1
        simpa using this
      have hz : O j = z := by
        have := (List.getElem?_eq_some_iff.1 hj).2
        simpa using this
      rw [← hz]
      exact ⟨(hO j hj').1, (hO j hj').2.1⟩
theorem turnSorts_walk (w : World) (v : Value) (ps : List Pp) (hp : Pts w v ps) (h64 : ∀ p ∈ ps, P64 p) (x : Int) (h0 : -9223372036854775808 ≤ x) (h1 : x ≤ 9223372036854775807) :
    Calls Try.prog 5 #[v, .int .i64 x] w fun e w' => e = .returned (.bool true) ∧ Below w.heap.size w w' := turnSorts_core turnC w v ps x hp h64 ⟨h0, h1⟩
end Go.Proofs.Ytccbjohiaboipaa
