/-
  Layer 14: the stable sort leaves edges whose IDs rise as they are, also those of two blocks.
-/
import Derived.Test.YtkdnkmheidbfdaaGreatM1
namespace Go.Proofs.YtkdnkmheidbfdaaGreat
open Go.RowKit Go.Sort

theorem halfE {i j h : Nat} (e : (i + j) / 2 = h) (hl : i + j ≤ 2000000) : IntKind.i64.wrap (IntKind.u64.wrap ((i : Int) + (j : Int)) / 2) = (h : Int) := by
  rw [IntKind.wrap_i64, IntKind.wrap_u64]
  omega
/-- What the merge is asked of: a row whose IDs rise, in memory that stays. -/
structure SyE (w : World) (b off n : Nat) (xs : List ER) : Prop where
  len : xs.length = n
  few : n ≤ 100000
  cells : EAts w b off xs
  rise : Rise xs
  lt : b < w.heap.size
theorem SyE.two {w : World} {b off n : Nat} {xs : List ER} (h : SyE w b off n xs) {i j : Nat} (hij : i < j) (hj : j < n) : ∃ x y : ER, xs[i]? = some x ∧ xs[j]? = some y ∧ x.id < y.id := by
  have e1 := h.len
  refine ⟨xs[i]'(by omega), xs[j]'(by omega), by rw [List.getElem?_eq_getElem], by rw [List.getElem?_eq_getElem], ?_⟩
  exact h.rise i j _ _ hij (by rw [List.getElem?_eq_getElem]) (by rw [List.getElem?_eq_getElem])

abbrev symCalls (w W : World) (bb off n cap a m b : Nat) : Prop :=
  Calls Tryz.prog 205 #[.slice (some ⟨bb, off, none⟩) n cap, .int .i64 (a : Nat), .int .i64 (m : Nat), .int .i64 (b : Nat), .func (.func 173) #[] #[]] W fun e w' => e = .returned (.tuple #[]) ∧ Below w.heap.size w w'

set_option maxRecDepth 100000 in
set_option maxHeartbeats 3200000 in
theorem symE_one {w W : World} {bb off n cap : Nat} {xs : List ER} (h : SyE w bb off n xs) (hW : Below w.heap.size w W) {a m b : Nat} (_ham : a < m) (hmb : m < b) (hb : b ≤ n) (h1 : m = a + 1) : symCalls w W bb off n cap a m b := by
  have HE := hid h
  have HW := hid hW
  have hn := h.few
  clear h hW
  unfold symCalls
  have e1 : (m : Int) - (a : Int) = 1 := by omega
  have e2 : (m : Int) - 1 = (a : Int) := by omega
  have HM := hid h1
  clear h1
  go_enter Tryz.func205, Tryz.ntmps205
  go_wp2
  go_loopw [10, 11] (fun iv jv wr => ∃ j : Nat, m ≤ j ∧ j ≤ b ∧ iv = .int .i64 m ∧ jv = .int .i64 j ∧ Below w.heap.size w wr) (fun _ jv _ => (intOf jv).toNat)
  case atStart => exact ⟨b, by omega, Nat.le_refl _, rfl, rfl, HW.out⟩
  case round =>
    obtain ⟨j, hj1, hj2, rfl, rfl, hbr⟩ := hrel
    clear e1
    by_cases hlt : m < j
    · have hltI : (m : Int) < (j : Int) := by omega
      have hma := HM.out
      obtain ⟨h, hh⟩ : ∃ h, (m + j) / 2 = h := ⟨_, rfl⟩
      have hhI : ((m : Int) + (j : Int)) / 2 = (h : Int) := by omega
      have hmh : m ≤ h := by omega
      have hhj : h < j := by omega
      have hhn : (h : Int) < (n : Int) := by omega
      have han : (a : Int) < (n : Int) := by omega
      have ham' : a < h := by omega
      clear hh hma
      obtain ⟨x, y, hx, hy, hxy⟩ := HE.out.two (i := a) (j := h) (by omega) (by omega)
      obtain ⟨a0, a1, a2, a3, a4, a5⟩ := (HE.out.cells h y hy).below hbr HE.out.lt
      obtain ⟨b0, b1, b2, b3, b4, b5⟩ := (HE.out.cells a x hx).below hbr HE.out.lt
      have hsg : decide (sgn (y.id - x.id) < 0) = false := by
        have : ¬ (sgn (y.id - x.id) < 0) := by unfold sgn; split <;> (try split) <;> omega
        simpa using this
      have HBR := hid hbr
      clear hbr hx hy hxy
      have cq := fun d os => byID1_any y x (grow (redrawn wr d) os)
      have k0 := cell_regrown a0; have k1 := cell_regrown a1; have k2 := cell_regrown a2; have k3 := cell_regrown a3; have k4 := cell_regrown a4; have k5 := cell_regrown a5
      have l0 := cell_regrown b0; have l1 := cell_regrown b1; have l2 := cell_regrown b2; have l3 := cell_regrown b3; have l4 := cell_regrown b4; have l5 := cell_regrown b5
      generalize sgn (y.id - x.id) = sg at cq hsg
      go_wp2
      refine wp_region_quiet_below (by kernel_rfl) (by kernel_rfl) ?_
      go_big_quiet_step (fail)
      go_big_quiet_step (fail)
      go_big_quiet_step (fail)
      go_big_quiet_step (fail)
      go_big_quiet_step (fail)
      go_big_quiet_step (fail)
      go_big_quiet_step (fail)
      go_big_quiet_step (fail)
      go_big_quiet_step (fail)
      go_big_quiet_step (exact Calls.regrown_of (cq _ _))
      go_big_quiet_step (fail)
      refine wpQuiet_nil ?_
      intro W hW'
      obtain ⟨⟨dq, osq⟩, hW⟩ := hW'
      have HBW := hid (HBR.out.trans ((show Below wr.heap.size wr W by rw [hW]; exact below_regrown _ _ _).mono HBR.out.size))
      clear hW k0 k1 k2 k3 k4 k5 l0 l1 l2 l3 l4 l5 cq a0 a1 a2 a3 a4 a5 b0 b1 b2 b3 b4 b5
      go_wp2
      go_roundw
      case rel => exact ⟨h, hmh, by omega, rfl, by go_num, HBW.out⟩
      case measure => simp [intOf]; omega
    · have hltI : ¬ (m : Int) < (j : Int) := by omega
      have HBR := hid hbr
      clear hbr
      go_wp2
      go_loopw [13] (fun kv wq => kv = .int .i64 a ∧ wq = wr) (fun _ _ => 0)
      case atStart => exact ⟨rfl, rfl⟩
      case round =>
        obtain ⟨rfl, rfl⟩ := hrel
        go_wp2
        refine bodyPost_ret (v := .tuple #[]) (by simp [results, Tryz.results205, go_sem]) rfl ?_
        exact ⟨rfl, HBR.out⟩

set_option maxRecDepth 100000 in
set_option maxHeartbeats 3200000 in
theorem symE_last {w W : World} {bb off n cap : Nat} {xs : List ER} (h : SyE w bb off n xs) (hW : Below w.heap.size w W) {a m b : Nat} (ham : a < m) (hmb : m < b) (hb : b ≤ n) (h1 : ¬ m = a + 1) (h2 : b = m + 1) : symCalls w W bb off n cap a m b := by
  have HE := hid h
  have HW := hid hW
  have hn := h.few
  clear h hW
  unfold symCalls
  have e1 : ((m : Int) - (a : Int) == 1) = false := beq_eq_false_iff_ne.2 (by omega)
  have e2 : (b : Int) - (m : Int) = 1 := by omega
  go_enter Tryz.func205, Tryz.ntmps205
  go_wp2
  go_loopw [14, 15] (fun iv jv wr => ∃ i : Nat, a ≤ i ∧ i ≤ m ∧ iv = .int .i64 i ∧ jv = .int .i64 m ∧ Below w.heap.size w wr) (fun iv _ _ => m - (intOf iv).toNat)
  case atStart => exact ⟨a, Nat.le_refl _, by omega, rfl, rfl, HW.out⟩
  case round =>
    obtain ⟨i, hi1, hi2, rfl, rfl, hbr⟩ := hrel
    clear e1 e2
    by_cases hlt : i < m
    · have hltI : (i : Int) < (m : Int) := by omega
      obtain ⟨h, hh⟩ : ∃ h, (i + m) / 2 = h := ⟨_, rfl⟩
      have hhI : ((i : Int) + (m : Int)) / 2 = (h : Int) := by omega
      have hmh : i ≤ h := by omega
      have hhj : h < m := by omega
      have hhn : (h : Int) < (n : Int) := by omega
      have han : (m : Int) < (n : Int) := by omega
      clear hh
      obtain ⟨x, y, hx, hy, hxy⟩ := HE.out.two (i := h) (j := m) (by omega) (by omega)
      obtain ⟨a0, a1, a2, a3, a4, a5⟩ := (HE.out.cells m y hy).below hbr HE.out.lt
      obtain ⟨b0, b1, b2, b3, b4, b5⟩ := (HE.out.cells h x hx).below hbr HE.out.lt
      have hsg : decide (sgn (y.id - x.id) < 0) = false := by
        have : ¬ (sgn (y.id - x.id) < 0) := by unfold sgn; split <;> (try split) <;> omega
        simpa using this
      have HBR := hid hbr
      clear hbr hx hy hxy
      have cq := fun d os => byID1_any y x (grow (redrawn wr d) os)
      have k0 := cell_regrown a0; have k1 := cell_regrown a1; have k2 := cell_regrown a2; have k3 := cell_regrown a3; have k4 := cell_regrown a4; have k5 := cell_regrown a5
      have l0 := cell_regrown b0; have l1 := cell_regrown b1; have l2 := cell_regrown b2; have l3 := cell_regrown b3; have l4 := cell_regrown b4; have l5 := cell_regrown b5
      generalize sgn (y.id - x.id) = sg at cq hsg
      go_wp2
      refine wp_region_quiet_below (by kernel_rfl) (by kernel_rfl) ?_
      go_big_quiet_step (fail)
      go_big_quiet_step (fail)
      go_big_quiet_step (fail)
      go_big_quiet_step (fail)
      go_big_quiet_step (fail)
      go_big_quiet_step (fail)
      go_big_quiet_step (fail)
      go_big_quiet_step (fail)
      go_big_quiet_step (fail)
      go_big_quiet_step (exact Calls.regrown_of (cq _ _))
      go_big_quiet_step (fail)
      go_big_quiet_step (fail)
      refine wpQuiet_nil ?_
      intro W hW'
      obtain ⟨⟨dq, osq⟩, hW⟩ := hW'
      have HBW := hid (HBR.out.trans ((show Below wr.heap.size wr W by rw [hW]; exact below_regrown _ _ _).mono HBR.out.size))
      clear hW k0 k1 k2 k3 k4 k5 l0 l1 l2 l3 l4 l5 cq a0 a1 a2 a3 a4 a5 b0 b1 b2 b3 b4 b5
      go_wp2
      go_roundw
      case rel => exact ⟨h + 1, by omega, by omega, by go_num, rfl, HBW.out⟩
      case measure => simp [intOf]; omega
    · have hltI : ¬ (i : Int) < (m : Int) := by omega
      obtain rfl : i = m := by omega
      have HBR := hid hbr
      clear hbr
      go_wp2
      go_loopw [17] (fun kv wq => kv = .int .i64 i ∧ wq = wr) (fun _ _ => 0)
      case atStart => exact ⟨rfl, rfl⟩
      case round =>
        obtain ⟨rfl, rfl⟩ := hrel
        go_wp2
        refine bodyPost_ret (v := .tuple #[]) (by simp [results, Tryz.results205, go_sem]) rfl ?_
        exact ⟨rfl, HBR.out⟩

set_option maxRecDepth 100000 in
set_option maxHeartbeats 3200000 in
theorem symE_lo {w W : World} {bb off n cap : Nat} {xs : List ER} (h : SyE w bb off n xs) (hW : Below w.heap.size w W) {a m b : Nat} (ham : a < m) (hmb : m < b) (hb : b ≤ n) (h1 : ¬ m = a + 1) (h2 : ¬ b = m + 1) {d : Nat} (hd : (a + b) / 2 = d) (hmd : m ≤ d)
    (ih : m < d → ∀ W, Below w.heap.size w W → symCalls w W bb off n cap a m d) : symCalls w W bb off n cap a m b := by
  have HE := hid h
  have HW := hid hW
  have hn := h.few
  clear h hW
  unfold symCalls
  have e1 : ((m : Int) - (a : Int) == 1) = false := beq_eq_false_iff_ne.2 (by omega)
  have e2 : ((b : Int) - (m : Int) == 1) = false := beq_eq_false_iff_ne.2 (by omega)
  have hdI : ((a : Int) + (b : Int)) / 2 = (d : Int) := by omega
  obtain ⟨N, hN⟩ : ∃ N, d + m = N := ⟨_, rfl⟩
  have hNI : (d : Int) + (m : Int) = (N : Int) := by omega
  obtain ⟨p, hp⟩ : ∃ p, N - 1 = p := ⟨_, rfl⟩
  have hpI : (N : Int) - 1 = (p : Int) := by omega
  have IH := hid ih
  clear ih
  have hmdI : ¬ (d : Int) < (m : Int) := by omega
  go_enter Tryz.func205, Tryz.ntmps205
  go_wp2
  go_loopw [20, 21] (fun sv rv wr => ∃ s : Nat, a ≤ s ∧ s ≤ m ∧ sv = .int .i64 s ∧ rv = .int .i64 m ∧ Below w.heap.size w wr) (fun sv _ _ => m - (intOf sv).toNat)
  case atStart => exact ⟨a, Nat.le_refl _, by omega, rfl, rfl, HW.out⟩
  case round =>
    obtain ⟨s, hs1, hs2, rfl, rfl, hbr⟩ := hrel
    clear e1 e2
    by_cases hlt : s < m
    · have hltI : (s : Int) < (m : Int) := by omega
      obtain ⟨h, hh⟩ : ∃ h, (s + m) / 2 = h := ⟨_, rfl⟩
      have hhI : ((s : Int) + (m : Int)) / 2 = (h : Int) := by omega
      have hsh : s ≤ h := by omega
      have hhj : h < m := by omega
      obtain ⟨t, ht⟩ : ∃ t, p - h = t := ⟨_, rfl⟩
      have htI : (p : Int) - (h : Int) = (t : Int) := by omega
      have hht : h < t := by omega
      have htb : t < b := by omega
      have hhn : (h : Int) < (n : Int) := by omega
      have htn : (t : Int) < (n : Int) := by omega
      clear hh ht
      obtain ⟨x, y, hx, hy, hxy⟩ := HE.out.two (i := h) (j := t) (by omega) (by omega)
      obtain ⟨a0, a1, a2, a3, a4, a5⟩ := (HE.out.cells t y hy).below hbr HE.out.lt
      obtain ⟨b0, b1, b2, b3, b4, b5⟩ := (HE.out.cells h x hx).below hbr HE.out.lt
      have hsg : decide (sgn (y.id - x.id) < 0) = false := by
        have : ¬ (sgn (y.id - x.id) < 0) := by unfold sgn; split <;> (try split) <;> omega
        simpa using this
      have HBR := hid hbr
      clear hbr hx hy hxy
      have cq := fun d os => byID1_any y x (grow (redrawn wr d) os)
      have k0 := cell_regrown a0; have k1 := cell_regrown a1; have k2 := cell_regrown a2; have k3 := cell_regrown a3; have k4 := cell_regrown a4; have k5 := cell_regrown a5
      have l0 := cell_regrown b0; have l1 := cell_regrown b1; have l2 := cell_regrown b2; have l3 := cell_regrown b3; have l4 := cell_regrown b4; have l5 := cell_regrown b5
      generalize sgn (y.id - x.id) = sg at cq hsg
      go_wp2
      refine wp_region_quiet_below (by kernel_rfl) (by kernel_rfl) ?_
      go_big_quiet_step (fail)
      go_big_quiet_step (fail)
      go_big_quiet_step (fail)
      go_big_quiet_step (fail)
      go_big_quiet_step (fail)
      go_big_quiet_step (fail)
      go_big_quiet_step (fail)
      go_big_quiet_step (fail)
      go_big_quiet_step (fail)
      go_big_quiet_step (fail)
      go_big_quiet_step (fail)
      go_big_quiet_step (exact Calls.regrown_of (cq _ _))
      go_big_quiet_step (fail)
      go_big_quiet_step (fail)
      refine wpQuiet_nil ?_
      intro W hW'
      obtain ⟨⟨dq, osq⟩, hW⟩ := hW'
      have HBW := hid (HBR.out.trans ((show Below wr.heap.size wr W by rw [hW]; exact below_regrown _ _ _).mono HBR.out.size))
      clear hW k0 k1 k2 k3 k4 k5 l0 l1 l2 l3 l4 l5 cq a0 a1 a2 a3 a4 a5 b0 b1 b2 b3 b4 b5
      go_wp2
      go_roundw
      case rel => exact ⟨h + 1, by omega, by omega, by go_num, rfl, HBW.out⟩
      case measure => simp [intOf]; omega
    · obtain rfl : s = m := by omega
      have hend : (N : Int) - (s : Int) = (d : Int) := by omega
      have haI : (a : Int) < (s : Int) := by omega
      have HBR := hid hbr
      clear hbr hpI hNI hp
      by_cases hm2 : s < d
      · have hm2I : (s : Int) < (d : Int) := by omega
        have HC := hid (IH.out hm2)
        clear IH
        go_wp2_with (go_at_call 205; refine (HC.out _ HBR.out).mono ?_; rintro e w1 ⟨rfl, hb1⟩; have HB1 := hid hb1; clear hb1 HC)
        go_end0
        exact ⟨rfl, HB1.out⟩
      · have hm2I : ¬ (s : Int) < (d : Int) := by omega
        clear IH
        go_wp2
        go_end0
        exact ⟨rfl, HBR.out⟩

set_option maxRecDepth 100000 in
set_option maxHeartbeats 3200000 in
theorem symE_hi {w W : World} {bb off n cap : Nat} {xs : List ER} (h : SyE w bb off n xs) (hW : Below w.heap.size w W) {a m b : Nat} (ham : a < m) (hmb : m < b) (hb : b ≤ n) (_h1 : ¬ m = a + 1) (h2 : ¬ b = m + 1) {d : Nat} (hd : (a + b) / 2 = d) (hmd : d < m)
    (ih : ∀ W, Below w.heap.size w W → symCalls w W bb off n cap d m b) : symCalls w W bb off n cap a m b := by
  have HE := hid h
  have HW := hid hW
  have hn := h.few
  clear h hW
  unfold symCalls
  have e1 : ((m : Int) - (a : Int) == 1) = false := beq_eq_false_iff_ne.2 (by omega)
  have e2 : ((b : Int) - (m : Int) == 1) = false := beq_eq_false_iff_ne.2 (by omega)
  have hdI : ((a : Int) + (b : Int)) / 2 = (d : Int) := by omega
  obtain ⟨N, hN⟩ : ∃ N, d + m = N := ⟨_, rfl⟩
  have hNI : (d : Int) + (m : Int) = (N : Int) := by omega
  obtain ⟨p, hp⟩ : ∃ p, N - 1 = p := ⟨_, rfl⟩
  have hpI : (N : Int) - 1 = (p : Int) := by omega
  have IH := hid ih
  clear ih
  have hmdI : (d : Int) < (m : Int) := by omega
  obtain ⟨s0, hs0⟩ : ∃ s0, N - b = s0 := ⟨_, rfl⟩
  have hs0I : (N : Int) - (b : Int) = (s0 : Int) := by omega
  go_enter Tryz.func205, Tryz.ntmps205
  go_wp2
  go_loopw [20, 21] (fun sv rv wr => ∃ s : Nat, s0 ≤ s ∧ s ≤ d ∧ sv = .int .i64 s ∧ rv = .int .i64 d ∧ Below w.heap.size w wr) (fun sv _ _ => d - (intOf sv).toNat)
  case atStart => exact ⟨s0, Nat.le_refl _, by omega, rfl, rfl, HW.out⟩
  case round =>
    obtain ⟨s, hs1, hs2, rfl, rfl, hbr⟩ := hrel
    clear e1 e2 hs0I
    by_cases hlt : s < d
    · have hltI : (s : Int) < (d : Int) := by omega
      obtain ⟨h, hh⟩ : ∃ h, (s + d) / 2 = h := ⟨_, rfl⟩
      have hhI : ((s : Int) + (d : Int)) / 2 = (h : Int) := by omega
      have hsh : s ≤ h := by omega
      have hhj : h < d := by omega
      obtain ⟨t, ht⟩ : ∃ t, p - h = t := ⟨_, rfl⟩
      have htI : (p : Int) - (h : Int) = (t : Int) := by omega
      have hht : h < t := by omega
      have htb : t < b := by omega
      have hhn : (h : Int) < (n : Int) := by omega
      have htn : (t : Int) < (n : Int) := by omega
      clear hh ht
      obtain ⟨x, y, hx, hy, hxy⟩ := HE.out.two (i := h) (j := t) (by omega) (by omega)
      obtain ⟨a0, a1, a2, a3, a4, a5⟩ := (HE.out.cells t y hy).below hbr HE.out.lt
      obtain ⟨b0, b1, b2, b3, b4, b5⟩ := (HE.out.cells h x hx).below hbr HE.out.lt
      have hsg : decide (sgn (y.id - x.id) < 0) = false := by
        have : ¬ (sgn (y.id - x.id) < 0) := by unfold sgn; split <;> (try split) <;> omega
        simpa using this
      have HBR := hid hbr
      clear hbr hx hy hxy
      have cq := fun d os => byID1_any y x (grow (redrawn wr d) os)
      have k0 := cell_regrown a0; have k1 := cell_regrown a1; have k2 := cell_regrown a2; have k3 := cell_regrown a3; have k4 := cell_regrown a4; have k5 := cell_regrown a5
      have l0 := cell_regrown b0; have l1 := cell_regrown b1; have l2 := cell_regrown b2; have l3 := cell_regrown b3; have l4 := cell_regrown b4; have l5 := cell_regrown b5
      generalize sgn (y.id - x.id) = sg at cq hsg
      go_wp2
      refine wp_region_quiet_below (by kernel_rfl) (by kernel_rfl) ?_
      go_big_quiet_step (fail)
      go_big_quiet_step (fail)
      go_big_quiet_step (fail)
      go_big_quiet_step (fail)
      go_big_quiet_step (fail)
      go_big_quiet_step (fail)
      go_big_quiet_step (fail)
      go_big_quiet_step (fail)
      go_big_quiet_step (fail)
      go_big_quiet_step (fail)
      go_big_quiet_step (fail)
      go_big_quiet_step (exact Calls.regrown_of (cq _ _))
      go_big_quiet_step (fail)
      go_big_quiet_step (fail)
      refine wpQuiet_nil ?_
      intro W hW'
      obtain ⟨⟨dq, osq⟩, hW⟩ := hW'
      have HBW := hid (HBR.out.trans ((show Below wr.heap.size wr W by rw [hW]; exact below_regrown _ _ _).mono HBR.out.size))
      clear hW k0 k1 k2 k3 k4 k5 l0 l1 l2 l3 l4 l5 cq a0 a1 a2 a3 a4 a5 b0 b1 b2 b3 b4 b5
      go_wp2
      go_roundw
      case rel => exact ⟨h + 1, by omega, by omega, by go_num, rfl, HBW.out⟩
      case measure => simp [intOf]; omega
    · obtain rfl : s = d := by omega
      have hend : (N : Int) - (s : Int) = (m : Int) := by omega
      have hbI : (m : Int) < (b : Int) := by omega
      have HBR := hid hbr
      clear hbr hpI hNI hp
      go_wp2_with (go_at_call 205; refine (IH.out _ HBR.out).mono ?_; rintro e w1 ⟨rfl, hb1⟩; have HB1 := hid hb1; clear hb1 IH)
      go_end0
      exact ⟨rfl, HB1.out⟩

theorem symE_all {w : World} {bb off n cap : Nat} {xs : List ER} (h : SyE w bb off n xs) : ∀ (z a m b : Nat), b - a ≤ z → a < m → m < b → b ≤ n → ∀ W, Below w.heap.size w W → symCalls w W bb off n cap a m b
  | 0, a, m, b, hz, ham, hmb, hb, W, hW => by omega
  | z + 1, a, m, b, hz, ham, hmb, hb, W, hW => by
    by_cases h1 : m = a + 1
    · exact symE_one h hW ham hmb hb h1
    by_cases h2 : b = m + 1
    · exact symE_last h hW ham hmb hb h1 h2
    by_cases h3 : m ≤ (a + b) / 2
    · exact symE_lo h hW ham hmb hb h1 h2 rfl h3 fun h4 W' hW' => symE_all h z a m ((a + b) / 2) (by omega) ham h4 (by omega) W' hW'
    · exact symE_hi h hW ham hmb hb h1 h2 rfl (by omega) fun W' hW' => symE_all h z ((a + b) / 2) m b (by omega) (by omega) hmb hb W' hW'
end Go.Proofs.YtkdnkmheidbfdaaGreat
