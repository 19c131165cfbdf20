/-
  pt.Area2, pt.Turn.
-/
import Derived.Test.YtepnjknblppfcaaQHeld
import Derived.PlainAid
namespace Go.Proofs.Ytepnjknblppfcaa
open Go.RowKit Go.Sort

/-- Twice the signed area. -/
def area (ax ay bx by' cx cy : Int) : Int := (bx - ax) * (cy - ay) - (by' - ay) * (cx - ax)

theorem mul_bound {u v : Int} (hu0 : -2097152 ≤ u) (hu1 : u ≤ 2097152) (hv0 : -2097152 ≤ v) (hv1 : v ≤ 2097152) : -4398046511104 ≤ u * v ∧ u * v ≤ 4398046511104 := by
  have h := Int.natAbs_mul u v
  have h1 : u.natAbs ≤ 2097152 := by omega
  have h2 : v.natAbs ≤ 2097152 := by omega
  have h3 := Nat.mul_le_mul h1 h2
  omega
theorem area_bound {ax ay bx by' cx cy : Int} (h1 : -1048576 ≤ ax) (h2 : ax ≤ 1048576) (h3 : -1048576 ≤ ay) (h4 : ay ≤ 1048576) (h5 : -1048576 ≤ bx) (h6 : bx ≤ 1048576) (h7 : -1048576 ≤ by') (h8 : by' ≤ 1048576) (h9 : -1048576 ≤ cx) (h10 : cx ≤ 1048576) (h11 : -1048576 ≤ cy) (h12 : cy ≤ 1048576) :
    -8796093022208 ≤ area ax ay bx by' cx cy ∧ area ax ay bx by' cx cy ≤ 8796093022208 := by
  have a1 := mul_bound (u := bx - ax) (v := cy - ay) (by omega) (by omega) (by omega) (by omega)
  have a2 := mul_bound (u := by' - ay) (v := cx - ax) (by omega) (by omega) (by omega) (by omega)
  unfold area
  omega

theorem area2_any (ax ay bx by' cx cy : Int) (w : World) :
    Calls Try.prog 22 #[pv ax ay, pv bx by', pv cx cy] w fun e w' => e = .returned (.int .i64 (area (near ax) (near ay) (near bx) (near by') (near cx) (near cy))) ∧ Below w.heap.size w w' := by
  obtain ⟨wA, hwA⟩ : ∃ wA, w.alloc (.cells #[.int .i64 ax, .int .i64 ay] 24) = wA := ⟨_, rfl⟩
  obtain ⟨wB, hwB⟩ : ∃ wB, wA.alloc (.cells #[.int .i64 bx, .int .i64 by'] 24) = wB := ⟨_, rfl⟩
  obtain ⟨wC, hwC⟩ : ∃ wC, wB.alloc (.cells #[.int .i64 cx, .int .i64 cy] 24) = wC := ⟨_, rfl⟩
  have hszA : wA.heap.size = w.heap.size + 1 := by rw [← hwA]; simp
  have hszB : wB.heap.size = w.heap.size + 2 := by rw [← hwB]; simp [hszA]
  have hszC : wC.heap.size = w.heap.size + 3 := by rw [← hwC]; simp [hszB]
  have hA : Pt wC w.heap.size ax ay := by rw [← hwC, ← hwB, ← hwA]; exact ((Pt.new w ax ay).alloc _).alloc _
  have hB : Pt wC (w.heap.size + 1) bx by' := by rw [← hwC, ← hwB, ← hszA]; exact (Pt.new wA bx by').alloc _
  have hC : Pt wC (w.heap.size + 2) cx cy := by rw [← hwC, ← hszB]; exact Pt.new wB cx cy
  have HBL := hid (show Below w.heap.size w wC by rw [← hwC, ← hwB, ← hwA]; exact (((Below.refl _ w).alloc (Nat.le_refl _) _).alloc (by simp) _).alloc (by simp; omega) _)
  have ka0 := cell_regrown hA.c0
  have ka1 := cell_regrown hA.c1
  have kb0 := cell_regrown hB.c0
  have kb1 := cell_regrown hB.c1
  have kc0 := cell_regrown hC.c0
  have kc1 := cell_regrown hC.c1
  have ca := fun d os => held_any ax ay (grow (redrawn wC d) os)
  have cb := fun d os => held_any bx by' (grow (redrawn wC d) os)
  have cc := fun d os => held_any cx cy (grow (redrawn wC d) os)
  have b1 := near_lo ax; have b2 := near_hi ax; have b3 := near_lo ay; have b4 := near_hi ay
  have b5 := near_lo bx; have b6 := near_hi bx; have b7 := near_lo by'; have b8 := near_hi by'
  have b9 := near_lo cx; have b10 := near_hi cx; have b11 := near_lo cy; have b12 := near_hi cy
  generalize near ax = AX at *
  generalize near ay = AY at *
  generalize near bx = BX at *
  generalize near by' = BY at *
  generalize near cx = CX at *
  generalize near cy = CY at *
  have HA := hid hA
  have HB := hid hB
  have HC := hid hC
  clear hA hB hC
  go_enter Try.func22, Try.ntmps22
  go_wp2
  refine wp_region_tail (C := fun w' => ∃ p : Regrown, w' = grow (redrawn wC p.d) p.os) 6 (by kernel_rfl) (by kernel_rfl) ⟨⟨wC.drawn + 1, #[]⟩, by rw [grow_empty]; rfl⟩ ?_
  simp only [List.take, List.drop]
  go_big_quiet_step (fail)
  go_big_quiet_step (exact Calls.regrown_of (ca _ _))
  go_big_quiet_step (fail)
  go_big_quiet_step (exact Calls.regrown_of (cb _ _))
  go_big_quiet_step (fail)
  go_big_quiet_step (exact Calls.regrown_of (cc _ _))
  refine wpQuiet_nil ?_
  intro W hW'
  obtain ⟨⟨dq, osq⟩, hW⟩ := hW'
  have hb : Below wC.heap.size wC W := by rw [hW]; exact below_regrown _ _ _
  clear hW ka0 ka1 kb0 kb1 kc0 kc1 ca cb cc
  have hA := HA.out.below hb (by omega)
  have hB := HB.out.below hb (by omega)
  have hC := HC.out.below hb (by omega)
  have a0 := hA.c0; have a1 := hA.c1; have a2 := hA.f0; have a3 := hA.f1
  have p0 := hB.c0; have p1 := hB.c1; have p2 := hB.f0; have p3 := hB.f1
  have q0 := hC.c0; have q1 := hC.c1; have q2 := hC.f0; have q3 := hC.f1
  have HW := hid (HBL.out.trans (hb.mono HBL.out.size))
  clear hb hA hB hC
  have m1 := mul_bound (u := BX - AX) (v := CY - AY) (by omega) (by omega) (by omega) (by omega)
  have m2 := mul_bound (u := BY - AY) (v := CX - AX) (by omega) (by omega) (by omega) (by omega)
  go_wp2
  go_ret
  refine ⟨rfl, ?_⟩
  exact below_set2 (below_set2 (below_set2 HW.out (Nat.le_refl _)) (Nat.le_add_right _ _)) (Nat.le_add_right _ _)

theorem compare_any (t : Int) (w : World) :
    Calls Try.prog 51 #[.int .i64 t, .int .i64 0] w fun e w' => e = .returned (.int .i64 (sgn t)) ∧ w' = w := by
  rcases (show t < 0 ∨ 0 < t ∨ t = 0 by omega) with h | h | h
  · have hn : sgn t = -1 := by unfold sgn; rw [if_pos h]
    rw [hn]
    clear hn
    go_enter Try.func51, Try.ntmps51
    go_wp2
    go_ret
    exact ⟨rfl, rfl⟩
  · have hn : sgn t = 1 := by unfold sgn; rw [if_neg (by omega), if_pos h]
    rw [hn]
    clear hn
    go_enter Try.func51, Try.ntmps51
    go_wp2
    go_ret
    exact ⟨rfl, rfl⟩
  · subst h
    rw [show sgn 0 = 0 from rfl]
    go_enter Try.func51, Try.ntmps51
    go_wp2
    go_ret
    exact ⟨rfl, rfl⟩

theorem turn_any (ax ay bx by' cx cy : Int) (w : World) :
    Calls Try.prog 44 #[pv ax ay, pv bx by', pv cx cy] w fun e w' => e = .returned (.int .i64 (sgn (area (near ax) (near ay) (near bx) (near by') (near cx) (near cy)))) ∧ Below w.heap.size w w' := by
  obtain ⟨wA, hwA⟩ : ∃ wA, w.alloc (.cells #[.int .i64 ax, .int .i64 ay] 24) = wA := ⟨_, rfl⟩
  obtain ⟨wB, hwB⟩ : ∃ wB, wA.alloc (.cells #[.int .i64 bx, .int .i64 by'] 24) = wB := ⟨_, rfl⟩
  obtain ⟨wC, hwC⟩ : ∃ wC, wB.alloc (.cells #[.int .i64 cx, .int .i64 cy] 24) = wC := ⟨_, rfl⟩
  have hszA : wA.heap.size = w.heap.size + 1 := by rw [← hwA]; simp
  have hszB : wB.heap.size = w.heap.size + 2 := by rw [← hwB]; simp [hszA]
  have hA : Pt wC w.heap.size ax ay := by rw [← hwC, ← hwB, ← hwA]; exact ((Pt.new w ax ay).alloc _).alloc _
  have hB : Pt wC (w.heap.size + 1) bx by' := by rw [← hwC, ← hwB, ← hszA]; exact (Pt.new wA bx by').alloc _
  have hC : Pt wC (w.heap.size + 2) cx cy := by rw [← hwC, ← hszB]; exact Pt.new wB cx cy
  have HBL := hid (show Below w.heap.size w wC by rw [← hwC, ← hwB, ← hwA]; exact (((Below.refl _ w).alloc (Nat.le_refl _) _).alloc (by simp) _).alloc (by simp; omega) _)
  have a0 := hA.c0; have a1 := hA.c1; have p0 := hB.c0; have p1 := hB.c1; have q0 := hC.c0; have q1 := hC.c1
  have HC := hid (area2_any ax ay bx by' cx cy wC)
  generalize area (near ax) (near ay) (near bx) (near by') (near cx) (near cy) = A at *
  clear hA hB hC
  go_enter Try.func44, Try.ntmps44
  go_wp2_with (first | (go_at_call 22; refine HC.out.mono ?_; rintro e w1 ⟨rfl, hb1⟩; have HB1 := hid (HBL.out.trans (hb1.mono HBL.out.size)); clear hb1) | (go_at_call 51; refine (compare_any A w1).mono ?_; rintro e w2 ⟨rfl, hw2⟩; subst hw2))
  go_ret
  exact ⟨rfl, HB1.out⟩
end Go.Proofs.Ytepnjknblppfcaa
