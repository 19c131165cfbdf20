/-
  The law's P, awake.
-/
import Derived.Test.YtnfhnoacdmhlfabQOk
import Derived.Test.YtnfhnoacdmhlfabQMort
namespace Go.Proofs.Ytnfhnoacdmhlfab
open Go.RowKit Go.Sort

theorem p_any (x y : Int) (w : World) :
    Calls Try.prog 16 #[.int .i64 x, .int .i64 y] w fun e w' => e = .returned (pv x y) ∧ Below w.heap.size w w' := by
  obtain ⟨wA, hwA⟩ : ∃ wA, w.alloc (.cells #[.int .i64 x, .int .i64 y] 24) = wA := ⟨_, rfl⟩
  obtain ⟨hA, hBL, hszA⟩ := box1 hwA
  have a0 := hA.c0; have a1 := hA.c1
  have HBL := hid hBL
  clear hA hBL
  go_enter Try.func16, Try.ntmps16
  go_wp2
  refine bodyPost_ret (v := pv x y) (by simp [results, Try.results16, go_sem, a0, a1]) rfl ⟨rfl, HBL.out⟩

theorem awake_any (w : World) :
    Calls Try.prog 6 #[] w fun e w' => e = .returned (.bool true) ∧ Below w.heap.size w w' := by
  have HT := hid (fun W => (turn_any 0 0 1 0 1 1 W).mono (R' := fun e w' => e = .returned (.int .i64 1) ∧ Below W.heap.size W w') fun e w' ⟨h1, h2⟩ => ⟨by rw [h1]; rfl, h2⟩)
  have HK := hid (fun W => (ok_any (-1048576) 0 W).mono (R' := fun e w' => e = .returned (.bool true) ∧ Below W.heap.size W w') fun e w' ⟨h1, h2⟩ => ⟨by rw [h1]; rfl, h2⟩)
  have HL := hid (fun W => (ok_any 1048577 0 W).mono (R' := fun e w' => e = .returned (.bool false) ∧ Below W.heap.size W w') fun e w' ⟨h1, h2⟩ => ⟨by rw [h1]; rfl, h2⟩)
  have HO := hid (fun W => (on_any 0 0 2 2 1 1 W).mono (R' := fun e w' => e = .returned (.bool true) ∧ Below W.heap.size W w') fun e w' ⟨h1, h2⟩ => ⟨by rw [h1]; rfl, h2⟩)
  have HM := hid (fun W => (morton_any (-1048576) (-1048576) W).mono (R' := fun e w' => e = .returned (.int .u64 0) ∧ Below W.heap.size W w') fun e w' ⟨h1, h2⟩ => ⟨by rw [h1]; rfl, h2⟩)
  have HB := hid (Below.refl w.heap.size w)
  go_enter Try.func6, Try.ntmps6
  go_wp2_with (first
    | (go_at_call 16; refine (p_any _ _ _).mono ?_; rintro e wn ⟨rfl, hbn⟩; replace HB := hid (HB.out.trans (hbn.mono HB.out.size)); clear hbn)
    | (go_at_call 19; refine (HT.out _).mono ?_; rintro e wn ⟨rfl, hbn⟩; replace HB := hid (HB.out.trans (hbn.mono HB.out.size)); clear hbn HT)
    | (go_at_call 20; refine (HK.out _).mono ?_; rintro e wn ⟨rfl, hbn⟩; replace HB := hid (HB.out.trans (hbn.mono HB.out.size)); clear hbn HK)
    | (go_at_call 20; refine (HL.out _).mono ?_; rintro e wn ⟨rfl, hbn⟩; replace HB := hid (HB.out.trans (hbn.mono HB.out.size)); clear hbn HL)
    | (go_at_call 17; refine (HO.out _).mono ?_; rintro e wn ⟨rfl, hbn⟩; replace HB := hid (HB.out.trans (hbn.mono HB.out.size)); clear hbn HO)
    | (go_at_call 11; refine (HM.out _).mono ?_; rintro e wn ⟨rfl, hbn⟩; replace HB := hid (HB.out.trans (hbn.mono HB.out.size)); clear hbn HM))
  go_ret
  exact ⟨rfl, HB.out⟩
end Go.Proofs.Ytnfhnoacdmhlfab
