/-
  PtOrders: the walk.
-/
import Derived.Test.YtnfhnoacdmhlfaaQAwake
namespace Go.Proofs.Ytnfhnoacdmhlfaa
open Go.RowKit Go.Sort

theorem tmod_in (x : Int) {m : Int} (hm : 0 < m) : -m < x.tmod m ∧ x.tmod m < m := ⟨Int.lt_tmod_of_pos x hm, Int.tmod_lt_of_pos x hm⟩

theorem up_less {a b : Int} (ha : -1048576 ≤ a ∧ a ≤ 1048576) (hb : -1048576 ≤ b ∧ b ≤ 1048576) : ap (up a) 22 < ap (up b) 22 ↔ a < b := by
  rw [ap_less (by have := up_le a; omega) (by have := up_le b; omega)]
  have h1 := up_is a
  have h2 := up_is b
  rw [near_in ha.1 ha.2] at h1
  rw [near_in hb.1 hb.2] at h2
  omega

theorem mort_less {a b c : Int} (ha : -1048576 ≤ a ∧ a ≤ 1048576) (hb : -1048576 ≤ b ∧ b ≤ 1048576) : (mort (up a) (up c) < mort (up b) (up c) ↔ a < b) ∧ (mort (up c) (up a) < mort (up c) (up b) ↔ a < b) := by
  have h := up_less ha hb
  unfold mort
  generalize ap (up a) 22 = x at *
  generalize ap (up b) 22 = y at *
  generalize ap (up c) 22 = z at *
  omega

theorem ptOrders_core (w : World) (x y z A B C : Int) (M1 M2 M3 M4 : Nat) (hA : x.tmod 1048577 = A) (hB : y.tmod 1048577 = B) (hC : z.tmod 1048577 = C)
    (H1 : Hid (∀ W, Calls Try.prog 12 #[pv A C] W fun e w' => e = .returned (.int .u64 (M1 : Int)) ∧ Below W.heap.size W w'))
    (H2 : Hid (∀ W, Calls Try.prog 12 #[pv B C] W fun e w' => e = .returned (.int .u64 (M2 : Int)) ∧ Below W.heap.size W w'))
    (H3 : Hid (∀ W, Calls Try.prog 12 #[pv C A] W fun e w' => e = .returned (.int .u64 (M3 : Int)) ∧ Below W.heap.size W w'))
    (H4 : Hid (∀ W, Calls Try.prog 12 #[pv C B] W fun e w' => e = .returned (.int .u64 (M4 : Int)) ∧ Below W.heap.size W w'))
    (h12 : M1 < M2 ↔ A < B) (h34 : M3 < M4 ↔ A < B) :
    Calls Try.prog 5 #[.int .i64 x, .int .i64 y, .int .i64 z] w fun e w' => e = .returned (.bool true) ∧ Below w.heap.size w w' := by
  have HB := hid (Below.refl w.heap.size w)
  have h1 := h12
  have h2 := h34
  clear h12 h34
  by_cases hlt : A < B
  · have g1 : (M1 : Int) < (M2 : Int) := by have := h1.2 hlt; omega
    have g2 : (M3 : Int) < (M4 : Int) := by have := h2.2 hlt; omega
    clear h1 h2
    go_enter Try.func5, Try.ntmps5
    go_wp2_with (first
    | (go_at_call 9; refine (p_any _ _ _).mono ?_; rintro e wn ⟨rfl, hbn⟩; replace HB := hid (HB.out.trans (hbn.mono HB.out.size)); clear hbn)
    | (go_at_call 12; refine (H1.out _).mono ?_; rintro e wn ⟨rfl, hbn⟩; replace HB := hid (HB.out.trans (hbn.mono HB.out.size)); clear hbn H1)
    | (go_at_call 12; refine (H2.out _).mono ?_; rintro e wn ⟨rfl, hbn⟩; replace HB := hid (HB.out.trans (hbn.mono HB.out.size)); clear hbn H2)
    | (go_at_call 12; refine (H3.out _).mono ?_; rintro e wn ⟨rfl, hbn⟩; replace HB := hid (HB.out.trans (hbn.mono HB.out.size)); clear hbn H3)
    | (go_at_call 12; refine (H4.out _).mono ?_; rintro e wn ⟨rfl, hbn⟩; replace HB := hid (HB.out.trans (hbn.mono HB.out.size)); clear hbn H4)
    | (go_at_call 11; refine (awake_any _).mono ?_; rintro e wn ⟨rfl, hbn⟩; replace HB := hid (HB.out.trans (hbn.mono HB.out.size)); clear hbn))
    go_ret
    exact ⟨rfl, HB.out⟩
  · have g1 : ¬ (M1 : Int) < (M2 : Int) := by have := mt h1.1 hlt; omega
    have g2 : ¬ (M3 : Int) < (M4 : Int) := by have := mt h2.1 hlt; omega
    clear h1 h2
    go_enter Try.func5, Try.ntmps5
    go_wp2_with (first
    | (go_at_call 9; refine (p_any _ _ _).mono ?_; rintro e wn ⟨rfl, hbn⟩; replace HB := hid (HB.out.trans (hbn.mono HB.out.size)); clear hbn)
    | (go_at_call 12; refine (H1.out _).mono ?_; rintro e wn ⟨rfl, hbn⟩; replace HB := hid (HB.out.trans (hbn.mono HB.out.size)); clear hbn H1)
    | (go_at_call 12; refine (H2.out _).mono ?_; rintro e wn ⟨rfl, hbn⟩; replace HB := hid (HB.out.trans (hbn.mono HB.out.size)); clear hbn H2)
    | (go_at_call 12; refine (H3.out _).mono ?_; rintro e wn ⟨rfl, hbn⟩; replace HB := hid (HB.out.trans (hbn.mono HB.out.size)); clear hbn H3)
    | (go_at_call 12; refine (H4.out _).mono ?_; rintro e wn ⟨rfl, hbn⟩; replace HB := hid (HB.out.trans (hbn.mono HB.out.size)); clear hbn H4)
    | (go_at_call 11; refine (awake_any _).mono ?_; rintro e wn ⟨rfl, hbn⟩; replace HB := hid (HB.out.trans (hbn.mono HB.out.size)); clear hbn))
    go_ret
    exact ⟨rfl, HB.out⟩

theorem ptOrders_walk (w : World) (x : Int) (_ : -9223372036854775808 ≤ x) (_ : x ≤ 9223372036854775807) (y : Int) (_ : -9223372036854775808 ≤ y) (_ : y ≤ 9223372036854775807) (z : Int) (_ : -9223372036854775808 ≤ z) (_ : z ≤ 9223372036854775807) :
    Calls Try.prog 5 #[.int .i64 x, .int .i64 y, .int .i64 z] w fun e w' => e = .returned (.bool true) ∧ Below w.heap.size w w' := by
  obtain ⟨A, hA⟩ : ∃ A, x.tmod 1048577 = A := ⟨_, rfl⟩
  obtain ⟨B, hB⟩ : ∃ A, y.tmod 1048577 = A := ⟨_, rfl⟩
  obtain ⟨C, hC⟩ : ∃ A, z.tmod 1048577 = A := ⟨_, rfl⟩
  have bA : -1048576 ≤ A ∧ A ≤ 1048576 := by have := tmod_in x (m := 1048577) (by omega); omega
  have bB : -1048576 ≤ B ∧ B ≤ 1048576 := by have := tmod_in y (m := 1048577) (by omega); omega
  have bC : -1048576 ≤ C ∧ C ≤ 1048576 := by have := tmod_in z (m := 1048577) (by omega); omega
  have h := mort_less (c := C) bA bB
  exact ptOrders_core w x y z A B C _ _ _ _ hA hB hC (hid (fun W => morton_any A C W)) (hid (fun W => morton_any B C W)) (hid (fun W => morton_any C A W)) (hid (fun W => morton_any C B W)) h.1 h.2
end Go.Proofs.Ytnfhnoacdmhlfaa
