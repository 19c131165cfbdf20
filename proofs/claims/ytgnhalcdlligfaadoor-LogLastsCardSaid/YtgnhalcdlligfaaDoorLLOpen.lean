/-
  LogLasts: the lengths, as they come in.
-/
import Derived.Test.YtgnhalcdlligfaaDoorLLMany
import Derived.Test.YtgnhalcdlligfaaDoorWLaw
import Derived.Deep.Slices
namespace Go.Proofs.YtgnhalcdlligfaaDoor
open Go.ChangeShapes Go.WideShapes Go.ChangeAt Go.RowKit

theorem bytesInt : Tryd.prog.bytesOf 3 = 8 := by kernel_rfl
set_option maxRecDepth 100000 in
theorem has_ints {H : Type} {enc : TypeId × Value → H} {W : World} {v : Value} {d : DataW H} {p : List MemPlace} {base : Nat} (hv : Value.okWide Tryd.prog W .any base 22 v) (h : DataW.Trod enc Tryd.prog W 0 (fun _ => true) true 22 v d p)
    (hsz : ∀ es sp, d = .slice es sp → es.length + sp.length ≤ reachBytes) : ∃ zs, Ints W v zs ∧ zs.length ≤ reachBytes := by
  obtain ⟨a, len, cap, rfl⟩ := okWide_slice Tryd.underlying22 hv
  obtain ⟨fuel, hf⟩ := h
  rcases open_ints Tryd.underlying22 Tryd.underlying3 (by kernel_rfl) hf with ⟨hcs, _⟩ | ⟨x, l, c, zs, hcs, _, hl, hm, hz, hd, hcell, hwz⟩
  · simp [Value.cells] at hcs
    obtain ⟨rfl, rfl, rfl⟩ := hcs
    exact ⟨[], ⟨fun j hj => by simp at hj, none, 0, rfl, fun h => by simp at h⟩, by simp⟩
  · simp [Value.cells] at hcs
    obtain ⟨rfl, rfl, rfl⟩ := hcs
    have hz' : zs.length = cap := by simpa using hz
    have hbnd : len ≤ reachBytes := by
      have := hsz _ _ (by injection hd)
      simp [lits] at this
      omega
    have hlen : (zs.take len).length = len := by simp; omega
    refine ⟨zs.take len, ⟨fun b hb => bounds_i64 (hwz b (List.mem_of_mem_take hb)), some x, cap, by rw [hlen], fun h1 => ?_⟩, by rw [hlen]; exact hbnd⟩
    rw [hlen] at h1
    obtain ⟨b, off, spot⟩ := x
    have hc := hcell 0 (by omega)
    have hspot : spot = none := by simpa [Addr.add] using World.cell?_spot hc
    subst hspot
    refine ⟨b, off, rfl, fun j hj => ?_⟩
    rw [hlen] at hj
    have := hcell j (by omega)
    rw [Addr.add_lit] at this
    rw [this]
    simp [hj]
end Go.Proofs.YtgnhalcdlligfaaDoor
