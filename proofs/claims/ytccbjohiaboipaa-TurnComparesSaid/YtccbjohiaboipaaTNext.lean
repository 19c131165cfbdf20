/-
  turn's Next, Prev.
-/
import Derived.Test.YtccbjohiaboipaaTNearB
namespace Go.Proofs.Ytccbjohiaboipaa
open Go.RowKit Go.Shelf Go.Sort

set_option maxHeartbeats 1600000 in
theorem turnNext_any (v : Value) (ps : List Pp) (i : Int) (w : World) (hp : Pts w v ps) (hl : ps.length ≤ 60) :
    Calls Try.prog 7 #[v, .int .i64 i] w fun e w' => e = .returned (.int .i64 (stepD ps i 1)) ∧ Below w.heap.size w w' := by
  obtain ⟨a, cap, rfl, hx⟩ := hp
  obtain ⟨n, hn⟩ : ∃ n, ps.length = n := ⟨_, rfl⟩
  obtain ⟨wA, hwA⟩ : ∃ wA, w.alloc (.cells #[.slice a n cap] 22) = wA := ⟨_, rfl⟩
  obtain ⟨wB, hwB⟩ : ∃ wB, wA.alloc (.cells #[.int .i64 i] 3) = wB := ⟨_, rfl⟩
  have hszA : wA.heap.size = w.heap.size + 1 := by rw [← hwA]; simp
  have hb1 : Boxed wB w.heap.size 22 (.slice a n cap) := by rw [← hwB, ← hwA]; exact (Boxed.new w _ _).alloc _
  have hb2 : Boxed wB (w.heap.size + 1) 3 (.int .i64 i) := by rw [← hwB, ← hszA]; exact Boxed.new wA _ _
  have hBL : Below w.heap.size w wB := by rw [← hwB, ← hwA]; exact ((Below.refl _ w).alloc (Nat.le_refl _) _).alloc (by simp) _
  have HBL := hid hBL
  have a0 := hb1.cell
  have a1 := hb2.cell
  have HC := hid (show Calls Try.prog 24 #[.slice a n cap, .int .i64 i, .func (.func 25) #[] #[.pointer (some ⟨w.heap.size, 0, none⟩), .pointer (some ⟨w.heap.size + 1, 0, none⟩)]] wB fun e w' => e = .returned (.int .i64 (stepD ps i 1)) ∧ Below wB.heap.size wB w' by
    by_cases hi : i < 0 ∨ (n : Int) ≤ i
    · have e : stepD ps i 1 = i := by
        unfold stepD
        rw [if_pos (by rw [hn]; omega)]
      rw [e]
      exact near_out a n cap i _ wB hi ⟨_, _, _, rfl⟩
    · obtain ⟨k, rfl⟩ : ∃ k : Nat, i = (k : Int) := ⟨i.toNat, by omega⟩
      have hk : k < n := by omega
      obtain ⟨b, off, rfl, hc⟩ := hx (by omega)
      have hat : Ats w b off n ps := fun j hj => by
        have hjp : j < ps.length := by omega
        have := hc j ps[j] (by simp [hjp])
        rw [List.getD_eq_getElem?_getD, List.getElem?_eq_getElem hjp]
        exact this
      have hbb : b < w.heap.size := lt_of_cell (hat k hk).1
      rw [← nextD_is ps (show k < ps.length by omega), hn]
      exact callsIn_wide.1 (nearN_in _ _ (upB ps k) b off n cap k ps wB hk (hat.below hBL hbb) (by omega) (fun W hW best j hbest hj => nextC_any w.heap.size (w.heap.size + 1) b off n cap k ps _ _ _ _ W ((hW.cell (p := ⟨w.heap.size, 0, none⟩) hb1.lt).trans a0) ((hW.cell (p := ⟨w.heap.size + 1, 0, none⟩) hb2.lt).trans a1) hk ((hat.below hBL hbb).below hW (Nat.lt_of_lt_of_le hbb hBL.size)) (by omega))))
  rw [hn]
  clear hx hb1 hb2 hBL hn
  go_enter Try.func7, Try.ntmps7
  go_wp2_with (go_at_call 24; refine HC.out.mono ?_; rintro e w1 ⟨rfl, hb3⟩; replace HBL := hid (HBL.out.trans (hb3.mono HBL.out.size)); clear hb3 HC)
  go_ret
  exact ⟨rfl, HBL.out⟩

set_option maxHeartbeats 1600000 in
theorem turnPrev_any (v : Value) (ps : List Pp) (i : Int) (w : World) (hp : Pts w v ps) (hl : ps.length ≤ 60) :
    Calls Try.prog 8 #[v, .int .i64 i] w fun e w' => e = .returned (.int .i64 (stepD ps i (-1))) ∧ Below w.heap.size w w' := by
  obtain ⟨a, cap, rfl, hx⟩ := hp
  obtain ⟨n, hn⟩ : ∃ n, ps.length = n := ⟨_, rfl⟩
  obtain ⟨wA, hwA⟩ : ∃ wA, w.alloc (.cells #[.slice a n cap] 22) = wA := ⟨_, rfl⟩
  obtain ⟨wB, hwB⟩ : ∃ wB, wA.alloc (.cells #[.int .i64 i] 3) = wB := ⟨_, rfl⟩
  have hszA : wA.heap.size = w.heap.size + 1 := by rw [← hwA]; simp
  have hb1 : Boxed wB w.heap.size 22 (.slice a n cap) := by rw [← hwB, ← hwA]; exact (Boxed.new w _ _).alloc _
  have hb2 : Boxed wB (w.heap.size + 1) 3 (.int .i64 i) := by rw [← hwB, ← hszA]; exact Boxed.new wA _ _
  have hBL : Below w.heap.size w wB := by rw [← hwB, ← hwA]; exact ((Below.refl _ w).alloc (Nat.le_refl _) _).alloc (by simp) _
  have HBL := hid hBL
  have a0 := hb1.cell
  have a1 := hb2.cell
  have HC := hid (show Calls Try.prog 24 #[.slice a n cap, .int .i64 i, .func (.func 26) #[] #[.pointer (some ⟨w.heap.size, 0, none⟩), .pointer (some ⟨w.heap.size + 1, 0, none⟩)]] wB fun e w' => e = .returned (.int .i64 (stepD ps i (-1))) ∧ Below wB.heap.size wB w' by
    by_cases hi : i < 0 ∨ (n : Int) ≤ i
    · have e : stepD ps i (-1) = i := by
        unfold stepD
        rw [if_pos (by rw [hn]; omega)]
      rw [e]
      exact near_out a n cap i _ wB hi ⟨_, _, _, rfl⟩
    · obtain ⟨k, rfl⟩ : ∃ k : Nat, i = (k : Int) := ⟨i.toNat, by omega⟩
      have hk : k < n := by omega
      obtain ⟨b, off, rfl, hc⟩ := hx (by omega)
      have hat : Ats w b off n ps := fun j hj => by
        have hjp : j < ps.length := by omega
        have := hc j ps[j] (by simp [hjp])
        rw [List.getD_eq_getElem?_getD, List.getElem?_eq_getElem hjp]
        exact this
      have hbb : b < w.heap.size := lt_of_cell (hat k hk).1
      rw [← prevD_is ps (show k < ps.length by omega), hn]
      exact callsIn_wide.1 (nearP_in _ _ (downB ps k) b off n cap k ps wB hk (hat.below hBL hbb) (by omega) (fun W hW best j hbest hj => prevC_any w.heap.size (w.heap.size + 1) b off n cap k ps _ _ _ _ W ((hW.cell (p := ⟨w.heap.size, 0, none⟩) hb1.lt).trans a0) ((hW.cell (p := ⟨w.heap.size + 1, 0, none⟩) hb2.lt).trans a1) hk ((hat.below hBL hbb).below hW (Nat.lt_of_lt_of_le hbb hBL.size)) (by omega))))
  rw [hn]
  clear hx hb1 hb2 hBL hn
  go_enter Try.func8, Try.ntmps8
  go_wp2_with (go_at_call 24; refine HC.out.mono ?_; rintro e w1 ⟨rfl, hb3⟩; replace HBL := hid (HBL.out.trans (hb3.mono HBL.out.size)); clear hb3 HC)
  go_ret
  exact ⟨rfl, HBL.out⟩
end Go.Proofs.Ytccbjohiaboipaa
