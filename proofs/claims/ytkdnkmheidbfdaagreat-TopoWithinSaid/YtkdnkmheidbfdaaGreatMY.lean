/-
  Layer 15: nodes whose IDs rise are left as they are by the stable sort.
-/
import Derived.Test.YtkdnkmheidbfdaaGreatMS
import Derived.Test.YtkdnkmheidbfdaaGreatM1
import Derived.Deep.RegionHeld3
namespace Go.Proofs.YtkdnkmheidbfdaaGreat
open Go.RowKit Go.Sort

/-- IDs that rise. -/
def RiseN (xs : List NR) : Prop := ∀ (i j : Nat) (x y : NR), i < j → xs[i]? = some x → xs[j]? = some y → x.id < y.id
theorem RiseN.near {xs : List NR} (h : RiseN xs) {i : Nat} {x y : NR} (hx : xs[i]? = some x) (hy : xs[i + 1]? = some y) : x.id < y.id := h i (i + 1) x y (Nat.lt_succ_self _) hx hy
def NAts (w : World) (b off : Nat) (xs : List NR) : Prop := ∀ (k : Nat) (x : NR), xs[k]? = some x → NAt w b (off + k * 4) x
theorem NAts.below {w w' : World} {b off B : Nat} {xs : List NR} (h : NAts w b off xs) (hb : Below B w w') (hB : b < B) : NAts w' b off xs := fun k x hx => (h k x hx).below hb hB
theorem NAt.lt {w : World} {b o : Nat} {x : NR} (h : NAt w b o x) : b < w.heap.size := lt_of_cell h.1

set_option maxRecDepth 100000 in
set_option maxHeartbeats 1600000 in
theorem alone2_any (x y : NR) (w : World) :
    Calls Tryz.prog 101 #[nrV x, nrV y] w fun e w' => e = .returned (.int .i64 (sgn (x.id - y.id))) ∧ Below w.heap.size w w' := by
  obtain ⟨wA, hwA⟩ : ∃ wA, w.alloc (nrO x) = wA := ⟨_, rfl⟩
  obtain ⟨wB, hwB⟩ : ∃ wB, wA.alloc (nrO y) = wB := ⟨_, rfl⟩
  have hbA : Below w.heap.size w wA := by rw [← hwA]; exact (Below.refl _ w).alloc (Nat.le_refl _) _
  have hhA : wA.heap[w.heap.size]? = some (nrO x) := by rw [← hwA]; exact World.alloc_heap_new w _
  have hbB : Below wA.heap.size wA wB := by rw [← hwB]; exact (Below.refl _ wA).alloc (Nat.le_refl _) _
  have hhB : wB.heap[wA.heap.size]? = some (nrO y) := by rw [← hwB]; exact World.alloc_heap_new wA _
  obtain ⟨a0, a1, a2, a3⟩ := nr_cells ((hbB.block _ (lt_of_heap hhA)).trans hhA)
  obtain ⟨b0, b1, b2, b3⟩ := nr_cells hhB
  have HC := hid (compareI_any x.id y.id wB)
  have HB := hid (hbA.trans (hbB.mono hbA.size))
  clear hbA hbB hhA hhB
  go_enter Tryz.func101, Tryz.ntmps101
  go_wp2_with (first
    | (go_at_call 102; refine HC.out.mono ?_; rintro e w1 ⟨rfl, hb1⟩; replace HB := hid (HB.out.trans (hb1.mono HB.out.size)); clear HC hb1))
  go_ret
  exact ⟨rfl, HB.out⟩

set_option maxRecDepth 100000 in
set_option maxHeartbeats 3200000 in
theorem insertionN_any {w : World} {b off n cap : Nat} {xs : List NR} (hn : xs.length = n) (hl : n ≤ 100000) (h : NAts w b off xs) (hr : RiseN xs) (hb : 1 ≤ n → b < w.heap.size) {ao : Option Addr} (hao : 1 ≤ n → ao = some ⟨b, off, none⟩) {p e : Nat} (hpe : p ≤ e) (hen : e ≤ n) :
    Calls Tryz.prog 156 #[.slice ao n cap, .int .i64 (p : Nat), .int .i64 (e : Nat), .func (.func 101) #[] #[]] w fun e w' => e = .returned (.tuple #[]) ∧ Below w.heap.size w w' := by
  have HN := hid hn
  have HX := hid h
  have HR := hid hr
  have HB := hid hb
  have HAO := hid hao
  clear hn h hr hb hao
  go_enter Tryz.func156, Tryz.ntmps156
  go_wp2
  go_loopw [8, 9] (fun iv _ wr => ∃ i : Nat, p + 1 ≤ i ∧ i ≤ e + 1 ∧ iv = .int .i64 (i : Int) ∧ Below w.heap.size w wr) (fun iv _ _ => e + 1 - (intOf iv).toNat)
  case atStart => exact ⟨p + 1, by omega, by omega, by go_num, Below.refl _ _⟩
  case round =>
    obtain ⟨i, hi1, hi2, rfl, hbr⟩ := hrel
    by_cases hlt : i < e
    · have hltI : (i : Int) < (e : Int) := by omega
      have hinI : (i : Int) < (n : Int) := by omega
      obtain ⟨j, hj⟩ : ∃ j, i = j + 1 := ⟨i - 1, by omega⟩
      obtain ⟨x, hx⟩ : ∃ x, xs[j]? = some x := ⟨xs[j]'(by have := HN.out; omega), by rw [List.getElem?_eq_getElem]⟩
      obtain ⟨y, hy⟩ : ∃ y, xs[i]? = some y := ⟨xs[i]'(by have := HN.out; omega), by rw [List.getElem?_eq_getElem]⟩
      have hxy : x.id < y.id := HR.out.near hx (by rw [← hj]; exact hy)
      have hbb := HB.out (by omega)
      obtain rfl := HAO.out (by omega)
      obtain ⟨a0, a1, a2, a3⟩ := (HX.out i y hy).below hbr hbb
      obtain ⟨b0, b1, b2, b3⟩ := (HX.out j x hx).below hbr hbb
      have hjw : IntKind.i64.wrap ((i : Int) - 1) = (j : Int) := by rw [IntKind.wrap_i64]; omega
      have hi0 : (p : Int) < (i : Int) := by omega
      have hi0N : p < i := by omega
      have hi0d : decide ((p : Int) < (i : Int)) = true := by simpa using hi0N
      have hjn : (j : Int) < (n : Int) := by omega
      have hsg : decide (sgn (y.id - x.id) < 0) = false := by
        have : ¬ (sgn (y.id - x.id) < 0) := by unfold sgn; split <;> (try split) <;> omega
        simpa using this
      have HBR := hid hbr
      have HJ := hid hj
      clear hbr hx hy hj hxy HX HR HB HN HAO
      go_wp2
      go_loopw [9] (fun jv wq => jv = .int .i64 (i : Int) ∧ wq = wr) (fun _ _ => 0)
      case atStart => exact ⟨rfl, rfl⟩
      case round =>
        obtain ⟨rfl, rfl⟩ := hrel
        have cq := fun d os => alone2_any y x (grow (redrawn wr d) os)
        have k0 := cell_regrown a0; have k1 := cell_regrown a1; have k2 := cell_regrown a2; have k3 := cell_regrown a3
        have l0 := cell_regrown b0; have l1 := cell_regrown b1; have l2 := cell_regrown b2; have l3 := cell_regrown b3
        generalize sgn (y.id - x.id) = sg at cq hsg
        go_wp2
        refine wp_region_quiet_below (by kernel_rfl) (by kernel_rfl) ?_
        go_big_quiet_step (fail)
        go_big_quiet_step (fail)
        go_big_quiet_step (fail)
        go_big_quiet_step (fail)
        go_big_quiet_step (fail)
        go_big_quiet_step (fail)
        go_big_quiet_step (fail)
        go_big_quiet_step (fail)
        go_big_quiet_step (fail)
        go_big_quiet_step (fail)
        go_big_quiet_step (fail)
        go_big_quiet_step (fail)
        go_big_quiet_step (fail)
        go_big_quiet_step (fail)
        go_big_quiet_step (exact Calls.regrown_of (cq _ _))
        go_big_quiet_step (fail)
        go_big_quiet_step (fail)
        refine wpQuiet_nil ?_
        intro W hW'
        obtain ⟨⟨dq, osq⟩, hW⟩ := hW'
        have HBW := hid (HBR.out.trans ((show Below wr.heap.size wr W by rw [hW]; exact below_regrown _ _ _).mono HBR.out.size))
        clear hW k0 k1 k2 k3 l0 l1 l2 l3 cq a0 a1 a2 a3 b0 b1 b2 b3
        go_wp2
        go_roundw
        case rel => exact ⟨i + 1, by omega, by omega, by go_num, HBW.out⟩
        case measure => simp [intOf]; omega
    · have hltI : ¬ (i : Int) < (e : Int) := by omega
      have HBR := hid hbr
      clear hbr
      go_wp2
      go_end0
      exact ⟨rfl, HBR.out⟩

end Go.Proofs.YtkdnkmheidbfdaaGreat

namespace Go.Proofs.YtkdnkmheidbfdaaGreat
open Go.RowKit Go.Sort

theorem halfN {i j h : Nat} (e : (i + j) / 2 = h) (hl : i + j ≤ 2000000) : IntKind.i64.wrap (IntKind.u64.wrap ((i : Int) + (j : Int)) / 2) = (h : Int) := by
  rw [IntKind.wrap_i64, IntKind.wrap_u64]
  omega
/-- What the merge is asked of: a row whose IDs rise, in memory that stays. -/
structure SyN (w : World) (b off n : Nat) (xs : List NR) : Prop where
  len : xs.length = n
  few : n ≤ 100000
  cells : NAts w b off xs
  rise : RiseN xs
  lt : b < w.heap.size
theorem SyN.two {w : World} {b off n : Nat} {xs : List NR} (h : SyN w b off n xs) {i j : Nat} (hij : i < j) (hj : j < n) : ∃ x y : NR, xs[i]? = some x ∧ xs[j]? = some y ∧ x.id < y.id := by
  have e1 := h.len
  refine ⟨xs[i]'(by omega), xs[j]'(by omega), by rw [List.getElem?_eq_getElem], by rw [List.getElem?_eq_getElem], ?_⟩
  exact h.rise i j _ _ hij (by rw [List.getElem?_eq_getElem]) (by rw [List.getElem?_eq_getElem])

abbrev symCallsN (w W : World) (bb off n cap a m b : Nat) : Prop :=
  Calls Tryz.prog 157 #[.slice (some ⟨bb, off, none⟩) n cap, .int .i64 (a : Nat), .int .i64 (m : Nat), .int .i64 (b : Nat), .func (.func 101) #[] #[]] W fun e w' => e = .returned (.tuple #[]) ∧ Below w.heap.size w w'

set_option maxRecDepth 100000 in
set_option maxHeartbeats 3200000 in
theorem symN_one {w W : World} {bb off n cap : Nat} {xs : List NR} (h : SyN w bb off n xs) (hW : Below w.heap.size w W) {a m b : Nat} (_ham : a < m) (hmb : m < b) (hb : b ≤ n) (h1 : m = a + 1) : symCallsN w W bb off n cap a m b := by
  have HE := hid h
  have HW := hid hW
  have hn := h.few
  clear h hW
  unfold symCallsN
  have e1 : (m : Int) - (a : Int) = 1 := by omega
  have e2 : (m : Int) - 1 = (a : Int) := by omega
  have HM := hid h1
  clear h1
  go_enter Tryz.func157, Tryz.ntmps157
  go_wp2
  go_loopw [10, 11] (fun iv jv wr => ∃ j : Nat, m ≤ j ∧ j ≤ b ∧ iv = .int .i64 m ∧ jv = .int .i64 j ∧ Below w.heap.size w wr) (fun _ jv _ => (intOf jv).toNat)
  case atStart => exact ⟨b, by omega, Nat.le_refl _, rfl, rfl, HW.out⟩
  case round =>
    obtain ⟨j, hj1, hj2, rfl, rfl, hbr⟩ := hrel
    clear e1
    by_cases hlt : m < j
    · have hltI : (m : Int) < (j : Int) := by omega
      have hma := HM.out
      obtain ⟨h, hh⟩ : ∃ h, (m + j) / 2 = h := ⟨_, rfl⟩
      have hhI : ((m : Int) + (j : Int)) / 2 = (h : Int) := by omega
      have hmh : m ≤ h := by omega
      have hhj : h < j := by omega
      have hhn : (h : Int) < (n : Int) := by omega
      have han : (a : Int) < (n : Int) := by omega
      have ham' : a < h := by omega
      clear hh hma
      obtain ⟨x, y, hx, hy, hxy⟩ := HE.out.two (i := a) (j := h) (by omega) (by omega)
      obtain ⟨a0, a1, a2, a3⟩ := (HE.out.cells h y hy).below hbr HE.out.lt
      obtain ⟨b0, b1, b2, b3⟩ := (HE.out.cells a x hx).below hbr HE.out.lt
      have hsg : decide (sgn (y.id - x.id) < 0) = false := by
        have : ¬ (sgn (y.id - x.id) < 0) := by unfold sgn; split <;> (try split) <;> omega
        simpa using this
      have HBR := hid hbr
      clear hbr hx hy hxy
      have cq := fun d os => alone2_any y x (grow (redrawn wr d) os)
      have k0 := cell_regrown a0; have k1 := cell_regrown a1; have k2 := cell_regrown a2; have k3 := cell_regrown a3
      have l0 := cell_regrown b0; have l1 := cell_regrown b1; have l2 := cell_regrown b2; have l3 := cell_regrown b3
      generalize sgn (y.id - x.id) = sg at cq hsg
      go_wp2
      refine wp_region_quiet_below (by kernel_rfl) (by kernel_rfl) ?_
      go_big_quiet_step (fail)
      go_big_quiet_step (fail)
      go_big_quiet_step (fail)
      go_big_quiet_step (fail)
      go_big_quiet_step (fail)
      go_big_quiet_step (fail)
      go_big_quiet_step (fail)
      go_big_quiet_step (fail)
      go_big_quiet_step (fail)
      go_big_quiet_step (exact Calls.regrown_of (cq _ _))
      go_big_quiet_step (fail)
      refine wpQuiet_nil ?_
      intro W hW'
      obtain ⟨⟨dq, osq⟩, hW⟩ := hW'
      have HBW := hid (HBR.out.trans ((show Below wr.heap.size wr W by rw [hW]; exact below_regrown _ _ _).mono HBR.out.size))
      clear hW k0 k1 k2 k3 l0 l1 l2 l3 cq a0 a1 a2 a3 b0 b1 b2 b3
      go_wp2
      go_roundw
      case rel => exact ⟨h, hmh, by omega, rfl, by go_num, HBW.out⟩
      case measure => simp [intOf]; omega
    · have hltI : ¬ (m : Int) < (j : Int) := by omega
      have HBR := hid hbr
      clear hbr
      go_wp2
      go_loopw [13] (fun kv wq => kv = .int .i64 a ∧ wq = wr) (fun _ _ => 0)
      case atStart => exact ⟨rfl, rfl⟩
      case round =>
        obtain ⟨rfl, rfl⟩ := hrel
        go_wp2
        refine bodyPost_ret (v := .tuple #[]) (by simp [results, Tryz.results157, go_sem]) rfl ?_
        exact ⟨rfl, HBR.out⟩

set_option maxRecDepth 100000 in
set_option maxHeartbeats 3200000 in
theorem symN_last {w W : World} {bb off n cap : Nat} {xs : List NR} (h : SyN w bb off n xs) (hW : Below w.heap.size w W) {a m b : Nat} (ham : a < m) (hmb : m < b) (hb : b ≤ n) (h1 : ¬ m = a + 1) (h2 : b = m + 1) : symCallsN w W bb off n cap a m b := by
  have HE := hid h
  have HW := hid hW
  have hn := h.few
  clear h hW
  unfold symCallsN
  have e1 : ((m : Int) - (a : Int) == 1) = false := beq_eq_false_iff_ne.2 (by omega)
  have e2 : (b : Int) - (m : Int) = 1 := by omega
  go_enter Tryz.func157, Tryz.ntmps157
  go_wp2
  go_loopw [14, 15] (fun iv jv wr => ∃ i : Nat, a ≤ i ∧ i ≤ m ∧ iv = .int .i64 i ∧ jv = .int .i64 m ∧ Below w.heap.size w wr) (fun iv _ _ => m - (intOf iv).toNat)
  case atStart => exact ⟨a, Nat.le_refl _, by omega, rfl, rfl, HW.out⟩
  case round =>
    obtain ⟨i, hi1, hi2, rfl, rfl, hbr⟩ := hrel
    clear e1 e2
    by_cases hlt : i < m
    · have hltI : (i : Int) < (m : Int) := by omega
      obtain ⟨h, hh⟩ : ∃ h, (i + m) / 2 = h := ⟨_, rfl⟩
      have hhI : ((i : Int) + (m : Int)) / 2 = (h : Int) := by omega
      have hmh : i ≤ h := by omega
      have hhj : h < m := by omega
      have hhn : (h : Int) < (n : Int) := by omega
      have han : (m : Int) < (n : Int) := by omega
      clear hh
      obtain ⟨x, y, hx, hy, hxy⟩ := HE.out.two (i := h) (j := m) (by omega) (by omega)
      obtain ⟨a0, a1, a2, a3⟩ := (HE.out.cells m y hy).below hbr HE.out.lt
      obtain ⟨b0, b1, b2, b3⟩ := (HE.out.cells h x hx).below hbr HE.out.lt
      have hsg : decide (sgn (y.id - x.id) < 0) = false := by
        have : ¬ (sgn (y.id - x.id) < 0) := by unfold sgn; split <;> (try split) <;> omega
        simpa using this
      have HBR := hid hbr
      clear hbr hx hy hxy
      have cq := fun d os => alone2_any y x (grow (redrawn wr d) os)
      have k0 := cell_regrown a0; have k1 := cell_regrown a1; have k2 := cell_regrown a2; have k3 := cell_regrown a3
      have l0 := cell_regrown b0; have l1 := cell_regrown b1; have l2 := cell_regrown b2; have l3 := cell_regrown b3
      generalize sgn (y.id - x.id) = sg at cq hsg
      go_wp2
      refine wp_region_quiet_below (by kernel_rfl) (by kernel_rfl) ?_
      go_big_quiet_step (fail)
      go_big_quiet_step (fail)
      go_big_quiet_step (fail)
      go_big_quiet_step (fail)
      go_big_quiet_step (fail)
      go_big_quiet_step (fail)
      go_big_quiet_step (fail)
      go_big_quiet_step (fail)
      go_big_quiet_step (fail)
      go_big_quiet_step (exact Calls.regrown_of (cq _ _))
      go_big_quiet_step (fail)
      go_big_quiet_step (fail)
      refine wpQuiet_nil ?_
      intro W hW'
      obtain ⟨⟨dq, osq⟩, hW⟩ := hW'
      have HBW := hid (HBR.out.trans ((show Below wr.heap.size wr W by rw [hW]; exact below_regrown _ _ _).mono HBR.out.size))
      clear hW k0 k1 k2 k3 l0 l1 l2 l3 cq a0 a1 a2 a3 b0 b1 b2 b3
      go_wp2
      go_roundw
      case rel => exact ⟨h + 1, by omega, by omega, by go_num, rfl, HBW.out⟩
      case measure => simp [intOf]; omega
    · have hltI : ¬ (i : Int) < (m : Int) := by omega
      obtain rfl : i = m := by omega
      have HBR := hid hbr
      clear hbr
      go_wp2
      go_loopw [17] (fun kv wq => kv = .int .i64 i ∧ wq = wr) (fun _ _ => 0)
      case atStart => exact ⟨rfl, rfl⟩
      case round =>
        obtain ⟨rfl, rfl⟩ := hrel
        go_wp2
        refine bodyPost_ret (v := .tuple #[]) (by simp [results, Tryz.results157, go_sem]) rfl ?_
        exact ⟨rfl, HBR.out⟩

set_option maxRecDepth 100000 in
set_option maxHeartbeats 3200000 in
theorem symN_lo {w W : World} {bb off n cap : Nat} {xs : List NR} (h : SyN w bb off n xs) (hW : Below w.heap.size w W) {a m b : Nat} (ham : a < m) (hmb : m < b) (hb : b ≤ n) (h1 : ¬ m = a + 1) (h2 : ¬ b = m + 1) {d : Nat} (hd : (a + b) / 2 = d) (hmd : m ≤ d)
    (ih : m < d → ∀ W, Below w.heap.size w W → symCallsN w W bb off n cap a m d) : symCallsN w W bb off n cap a m b := by
  have HE := hid h
  have HW := hid hW
  have hn := h.few
  clear h hW
  unfold symCallsN
  have e1 : ((m : Int) - (a : Int) == 1) = false := beq_eq_false_iff_ne.2 (by omega)
  have e2 : ((b : Int) - (m : Int) == 1) = false := beq_eq_false_iff_ne.2 (by omega)
  have hdI : ((a : Int) + (b : Int)) / 2 = (d : Int) := by omega
  obtain ⟨N, hN⟩ : ∃ N, d + m = N := ⟨_, rfl⟩
  have hNI : (d : Int) + (m : Int) = (N : Int) := by omega
  obtain ⟨p, hp⟩ : ∃ p, N - 1 = p := ⟨_, rfl⟩
  have hpI : (N : Int) - 1 = (p : Int) := by omega
  have IH := hid ih
  clear ih
  have hmdI : ¬ (d : Int) < (m : Int) := by omega
  go_enter Tryz.func157, Tryz.ntmps157
  go_wp2
  go_loopw [20, 21] (fun sv rv wr => ∃ s : Nat, a ≤ s ∧ s ≤ m ∧ sv = .int .i64 s ∧ rv = .int .i64 m ∧ Below w.heap.size w wr) (fun sv _ _ => m - (intOf sv).toNat)
  case atStart => exact ⟨a, Nat.le_refl _, by omega, rfl, rfl, HW.out⟩
  case round =>
    obtain ⟨s, hs1, hs2, rfl, rfl, hbr⟩ := hrel
    clear e1 e2
    by_cases hlt : s < m
    · have hltI : (s : Int) < (m : Int) := by omega
      obtain ⟨h, hh⟩ : ∃ h, (s + m) / 2 = h := ⟨_, rfl⟩
      have hhI : ((s : Int) + (m : Int)) / 2 = (h : Int) := by omega
      have hsh : s ≤ h := by omega
      have hhj : h < m := by omega
      obtain ⟨t, ht⟩ : ∃ t, p - h = t := ⟨_, rfl⟩
      have htI : (p : Int) - (h : Int) = (t : Int) := by omega
      have hht : h < t := by omega
      have htb : t < b := by omega
      have hhn : (h : Int) < (n : Int) := by omega
      have htn : (t : Int) < (n : Int) := by omega
      clear hh ht
      obtain ⟨x, y, hx, hy, hxy⟩ := HE.out.two (i := h) (j := t) (by omega) (by omega)
      obtain ⟨a0, a1, a2, a3⟩ := (HE.out.cells t y hy).below hbr HE.out.lt
      obtain ⟨b0, b1, b2, b3⟩ := (HE.out.cells h x hx).below hbr HE.out.lt
      have hsg : decide (sgn (y.id - x.id) < 0) = false := by
        have : ¬ (sgn (y.id - x.id) < 0) := by unfold sgn; split <;> (try split) <;> omega
        simpa using this
      have HBR := hid hbr
      clear hbr hx hy hxy
      have cq := fun d os => alone2_any y x (grow (redrawn wr d) os)
      have k0 := cell_regrown a0; have k1 := cell_regrown a1; have k2 := cell_regrown a2; have k3 := cell_regrown a3
      have l0 := cell_regrown b0; have l1 := cell_regrown b1; have l2 := cell_regrown b2; have l3 := cell_regrown b3
      generalize sgn (y.id - x.id) = sg at cq hsg
      go_wp2
      refine wp_region_quiet_below (by kernel_rfl) (by kernel_rfl) ?_
      go_big_quiet_step (fail)
      go_big_quiet_step (fail)
      go_big_quiet_step (fail)
      go_big_quiet_step (fail)
      go_big_quiet_step (fail)
      go_big_quiet_step (fail)
      go_big_quiet_step (fail)
      go_big_quiet_step (fail)
      go_big_quiet_step (fail)
      go_big_quiet_step (fail)
      go_big_quiet_step (fail)
      go_big_quiet_step (exact Calls.regrown_of (cq _ _))
      go_big_quiet_step (fail)
      go_big_quiet_step (fail)
      refine wpQuiet_nil ?_
      intro W hW'
      obtain ⟨⟨dq, osq⟩, hW⟩ := hW'
      have HBW := hid (HBR.out.trans ((show Below wr.heap.size wr W by rw [hW]; exact below_regrown _ _ _).mono HBR.out.size))
      clear hW k0 k1 k2 k3 l0 l1 l2 l3 cq a0 a1 a2 a3 b0 b1 b2 b3
      go_wp2
      go_roundw
      case rel => exact ⟨h + 1, by omega, by omega, by go_num, rfl, HBW.out⟩
      case measure => simp [intOf]; omega
    · obtain rfl : s = m := by omega
      have hend : (N : Int) - (s : Int) = (d : Int) := by omega
      have haI : (a : Int) < (s : Int) := by omega
      have HBR := hid hbr
      clear hbr hpI hNI hp
      by_cases hm2 : s < d
      · have hm2I : (s : Int) < (d : Int) := by omega
        have HC := hid (IH.out hm2)
        clear IH
        go_wp2_with (go_at_call 157; refine (HC.out _ HBR.out).mono ?_; rintro e w1 ⟨rfl, hb1⟩; have HB1 := hid hb1; clear hb1 HC)
        go_end0
        exact ⟨rfl, HB1.out⟩
      · have hm2I : ¬ (s : Int) < (d : Int) := by omega
        clear IH
        go_wp2
        go_end0
        exact ⟨rfl, HBR.out⟩

set_option maxRecDepth 100000 in
set_option maxHeartbeats 3200000 in
theorem symN_hi {w W : World} {bb off n cap : Nat} {xs : List NR} (h : SyN w bb off n xs) (hW : Below w.heap.size w W) {a m b : Nat} (ham : a < m) (hmb : m < b) (hb : b ≤ n) (_h1 : ¬ m = a + 1) (h2 : ¬ b = m + 1) {d : Nat} (hd : (a + b) / 2 = d) (hmd : d < m)
    (ih : ∀ W, Below w.heap.size w W → symCallsN w W bb off n cap d m b) : symCallsN w W bb off n cap a m b := by
  have HE := hid h
  have HW := hid hW
  have hn := h.few
  clear h hW
  unfold symCallsN
  have e1 : ((m : Int) - (a : Int) == 1) = false := beq_eq_false_iff_ne.2 (by omega)
  have e2 : ((b : Int) - (m : Int) == 1) = false := beq_eq_false_iff_ne.2 (by omega)
  have hdI : ((a : Int) + (b : Int)) / 2 = (d : Int) := by omega
  obtain ⟨N, hN⟩ : ∃ N, d + m = N := ⟨_, rfl⟩
  have hNI : (d : Int) + (m : Int) = (N : Int) := by omega
  obtain ⟨p, hp⟩ : ∃ p, N - 1 = p := ⟨_, rfl⟩
  have hpI : (N : Int) - 1 = (p : Int) := by omega
  have IH := hid ih
  clear ih
  have hmdI : (d : Int) < (m : Int) := by omega
  obtain ⟨s0, hs0⟩ : ∃ s0, N - b = s0 := ⟨_, rfl⟩
  have hs0I : (N : Int) - (b : Int) = (s0 : Int) := by omega
  go_enter Tryz.func157, Tryz.ntmps157
  go_wp2
  go_loopw [20, 21] (fun sv rv wr => ∃ s : Nat, s0 ≤ s ∧ s ≤ d ∧ sv = .int .i64 s ∧ rv = .int .i64 d ∧ Below w.heap.size w wr) (fun sv _ _ => d - (intOf sv).toNat)
  case atStart => exact ⟨s0, Nat.le_refl _, by omega, rfl, rfl, HW.out⟩
  case round =>
    obtain ⟨s, hs1, hs2, rfl, rfl, hbr⟩ := hrel
    clear e1 e2 hs0I
    by_cases hlt : s < d
    · have hltI : (s : Int) < (d : Int) := by omega
      obtain ⟨h, hh⟩ : ∃ h, (s + d) / 2 = h := ⟨_, rfl⟩
      have hhI : ((s : Int) + (d : Int)) / 2 = (h : Int) := by omega
      have hsh : s ≤ h := by omega
      have hhj : h < d := by omega
      obtain ⟨t, ht⟩ : ∃ t, p - h = t := ⟨_, rfl⟩
      have htI : (p : Int) - (h : Int) = (t : Int) := by omega
      have hht : h < t := by omega
      have htb : t < b := by omega
      have hhn : (h : Int) < (n : Int) := by omega
      have htn : (t : Int) < (n : Int) := by omega
      clear hh ht
      obtain ⟨x, y, hx, hy, hxy⟩ := HE.out.two (i := h) (j := t) (by omega) (by omega)
      obtain ⟨a0, a1, a2, a3⟩ := (HE.out.cells t y hy).below hbr HE.out.lt
      obtain ⟨b0, b1, b2, b3⟩ := (HE.out.cells h x hx).below hbr HE.out.lt
      have hsg : decide (sgn (y.id - x.id) < 0) = false := by
        have : ¬ (sgn (y.id - x.id) < 0) := by unfold sgn; split <;> (try split) <;> omega
        simpa using this
      have HBR := hid hbr
      clear hbr hx hy hxy
      have cq := fun d os => alone2_any y x (grow (redrawn wr d) os)
      have k0 := cell_regrown a0; have k1 := cell_regrown a1; have k2 := cell_regrown a2; have k3 := cell_regrown a3
      have l0 := cell_regrown b0; have l1 := cell_regrown b1; have l2 := cell_regrown b2; have l3 := cell_regrown b3
      generalize sgn (y.id - x.id) = sg at cq hsg
      go_wp2
      refine wp_region_quiet_below (by kernel_rfl) (by kernel_rfl) ?_
      go_big_quiet_step (fail)
      go_big_quiet_step (fail)
      go_big_quiet_step (fail)
      go_big_quiet_step (fail)
      go_big_quiet_step (fail)
      go_big_quiet_step (fail)
      go_big_quiet_step (fail)
      go_big_quiet_step (fail)
      go_big_quiet_step (fail)
      go_big_quiet_step (fail)
      go_big_quiet_step (fail)
      go_big_quiet_step (exact Calls.regrown_of (cq _ _))
      go_big_quiet_step (fail)
      go_big_quiet_step (fail)
      refine wpQuiet_nil ?_
      intro W hW'
      obtain ⟨⟨dq, osq⟩, hW⟩ := hW'
      have HBW := hid (HBR.out.trans ((show Below wr.heap.size wr W by rw [hW]; exact below_regrown _ _ _).mono HBR.out.size))
      clear hW k0 k1 k2 k3 l0 l1 l2 l3 cq a0 a1 a2 a3 b0 b1 b2 b3
      go_wp2
      go_roundw
      case rel => exact ⟨h + 1, by omega, by omega, by go_num, rfl, HBW.out⟩
      case measure => simp [intOf]; omega
    · obtain rfl : s = d := by omega
      have hend : (N : Int) - (s : Int) = (m : Int) := by omega
      have hbI : (m : Int) < (b : Int) := by omega
      have HBR := hid hbr
      clear hbr hpI hNI hp
      go_wp2_with (go_at_call 157; refine (IH.out _ HBR.out).mono ?_; rintro e w1 ⟨rfl, hb1⟩; have HB1 := hid hb1; clear hb1 IH)
      go_end0
      exact ⟨rfl, HB1.out⟩

theorem symN_all {w : World} {bb off n cap : Nat} {xs : List NR} (h : SyN w bb off n xs) : ∀ (z a m b : Nat), b - a ≤ z → a < m → m < b → b ≤ n → ∀ W, Below w.heap.size w W → symCallsN w W bb off n cap a m b
  | 0, a, m, b, hz, ham, hmb, hb, W, hW => by omega
  | z + 1, a, m, b, hz, ham, hmb, hb, W, hW => by
    by_cases h1 : m = a + 1
    · exact symN_one h hW ham hmb hb h1
    by_cases h2 : b = m + 1
    · exact symN_last h hW ham hmb hb h1 h2
    by_cases h3 : m ≤ (a + b) / 2
    · exact symN_lo h hW ham hmb hb h1 h2 rfl h3 fun h4 W' hW' => symN_all h z a m ((a + b) / 2) (by omega) ham h4 (by omega) W' hW'
    · exact symN_hi h hW ham hmb hb h1 h2 rfl (by omega) fun W' hW' => symN_all h z ((a + b) / 2) m b (by omega) (by omega) hmb hb W' hW'
end Go.Proofs.YtkdnkmheidbfdaaGreat

namespace Go.Proofs.YtkdnkmheidbfdaaGreat
open Go.RowKit Go.Sort

set_option maxRecDepth 100000 in
set_option maxHeartbeats 3200000 in
theorem stableN_any {w : World} {b off n cap : Nat} {xs : List NR} (hn : xs.length = n) (hl : n ≤ 100000) (h : NAts w b off xs) (hr : RiseN xs) (hb : 1 ≤ n → b < w.heap.size) {ao : Option Addr} (hao : 1 ≤ n → ao = some ⟨b, off, none⟩) :
    Calls Tryz.prog 100 #[.slice ao n cap, .func (.func 101) #[] #[]] w fun e w' => e = .returned (.tuple #[]) ∧ Below w.heap.size w w' := by
  have HI := hid (fun (W : World) (hW : Below w.heap.size w W) (p e : Nat) (hpe : p ≤ e) (hen : e ≤ n) => insertionN_any (w := W) (cap := cap) hn hl (fun k x hx => (h k x hx).below hW (h k x hx).lt) hr (fun h1 => Nat.lt_of_lt_of_le (hb h1) hW.size) hao hpe hen)
  have HM := hid (show ∀ (W : World), Below w.heap.size w W → ∀ a m b : Nat, a < m → m < b → b ≤ n → Calls Tryz.prog 157 #[.slice ao n cap, .int .i64 (a : Nat), .int .i64 (m : Nat), .int .i64 (b : Nat), .func (.func 101) #[] #[]] W fun e w' => e = .returned (.tuple #[]) ∧ Below w.heap.size w w' from fun W hW a m b' ham hmb hbn => by
    obtain rfl := hao (by omega)
    exact symN_all ⟨hn, hl, h, hr, hb (by omega)⟩ b' a m b' (Nat.sub_le _ _) ham hmb hbn W hW)
  have HS := hid (show Calls Tryz.prog 125 #[.slice ao n cap, .int .i64 n, .func (.func 101) #[] #[]] w fun e w' => e = .returned (.tuple #[]) ∧ Below w.heap.size w w' by
    clear h hr hb hao hn
    go_enter Tryz.func125, Tryz.ntmps125
    go_wp2
    go_loopw [7, 8] (fun av bv wr => ∃ a : Nat, a ≤ n ∧ av = .int .i64 (a : Nat) ∧ bv = .int .i64 ((a : Int) + 20) ∧ Below w.heap.size w wr) (fun av _ _ => n - (intOf av).toNat)
    case atStart => exact ⟨0, Nat.zero_le _, rfl, rfl, Below.refl _ _⟩
    case round =>
      obtain ⟨a, ha, rfl, rfl, hbr⟩ := hrel
      have HB := hid hbr
      clear hbr
      by_cases hlt : a + 20 ≤ n
      · have hltI : (a : Int) + 20 ≤ (n : Int) := by omega
        have HC := hid (show Calls Tryz.prog 156 #[.slice ao n cap, .int .i64 (a : Nat), .int .i64 ((a : Int) + 20), .func (.func 101) #[] #[]] wr fun e w' => e = .returned (.tuple #[]) ∧ Below wr.heap.size wr w' from HI.out wr HB.out a (a + 20) (Nat.le_add_right _ _) hlt)
        go_wp2_with (go_at_call 156; refine HC.out.mono ?_; rintro e w1 ⟨rfl, hb1⟩; have HB1 := hid (HB.out.trans (hb1.mono HB.out.size)); clear hb1 HC)
        go_roundw
        case rel => exact ⟨a + 20, hlt, by go_num, by go_num, HB1.out⟩
        case measure => simp [intOf]; omega
      · have hltI : ¬ ((a : Int) + 20 ≤ (n : Int)) := by omega
        have HC := hid (HI.out wr HB.out a n ha (Nat.le_refl _))
        go_wp2_with (go_at_call 156; refine HC.out.mono ?_; rintro e w1 ⟨rfl, hb1⟩; have HB1 := hid (HB.out.trans (hb1.mono HB.out.size)); clear hb1 HC)
        clear hltI hlt ha HB HI
        go_loopw [6, 7, 8, 9] (fun sv _ _ _ wq => ∃ s : Nat, 1 ≤ s ∧ s ≤ 1000000 ∧ sv = .int .i64 (s : Nat) ∧ Below w.heap.size w wq) (fun sv _ _ _ _ => 1000000 - (intOf sv).toNat)
        case atStart => exact ⟨20, by omega, by omega, rfl, HB1.out⟩
        case round =>
          obtain ⟨s, hs1, hs2, rfl, hbq⟩ := hrel
          have HQ := hid hbq
          clear hbq HB1
          by_cases hsn : s < n
          · have hsnI : (s : Int) < (n : Int) := by omega
            go_wp2
            go_loopw [7, 8] (fun av bv wz => ∃ a : Nat, a ≤ n ∧ av = .int .i64 (a : Nat) ∧ bv = .int .i64 ((a : Int) + 2 * (s : Int)) ∧ Below w.heap.size w wz) (fun av _ _ => n - (intOf av).toNat)
            case atStart => exact ⟨0, Nat.zero_le _, rfl, by go_num, HQ.out⟩
            case round =>
              obtain ⟨a, ha, rfl, rfl, hbz⟩ := hrel
              have HZ := hid hbz
              clear hbz
              by_cases hlt : a + 2 * s ≤ n
              · have hltI : (a : Int) + 2 * (s : Int) ≤ (n : Int) := by omega
                have HC := hid (show Calls Tryz.prog 157 #[.slice ao n cap, .int .i64 (a : Nat), .int .i64 ((a : Int) + (s : Int)), .int .i64 ((a : Int) + 2 * (s : Int)), .func (.func 101) #[] #[]] wr fun e w' => e = .returned (.tuple #[]) ∧ Below w.heap.size w w' by
                  have := HM.out wr HZ.out a (a + s) (a + 2 * s) (by omega) (by omega) hlt
                  rw [Int.natCast_add, Int.natCast_add, Int.natCast_mul] at this
                  exact this)
                go_wp2_with (go_at_call 157; refine HC.out.mono ?_; rintro e w1 ⟨rfl, hb1⟩; have HB1 := hid hb1; clear hb1 HC)
                go_roundw
                case rel => exact ⟨a + 2 * s, hlt, by go_num, by go_num, HB1.out⟩
                case measure => simp [intOf]; omega
              · have hltI : ¬ ((a : Int) + 2 * (s : Int) ≤ (n : Int)) := by omega
                by_cases hm : a + s < n
                · have hmI : (a : Int) + (s : Int) < (n : Int) := by omega
                  have HC := hid (show Calls Tryz.prog 157 #[.slice ao n cap, .int .i64 (a : Nat), .int .i64 ((a : Int) + (s : Int)), .int .i64 (n : Nat), .func (.func 101) #[] #[]] wr fun e w' => e = .returned (.tuple #[]) ∧ Below w.heap.size w w' by
                    have := HM.out wr HZ.out a (a + s) n (by omega) hm (Nat.le_refl _)
                    rw [Int.natCast_add] at this
                    exact this)
                  go_wp2_with (go_at_call 157; refine HC.out.mono ?_; rintro e w1 ⟨rfl, hb1⟩; have HB1 := hid hb1; clear hb1 HC)
                  go_roundw
                  case rel => exact ⟨s * 2, by omega, by omega, by go_num, HB1.out⟩
                  case measure => simp [intOf]; omega
                · have hmI : ¬ (a : Int) + (s : Int) < (n : Int) := by omega
                  go_wp2
                  go_roundw
                  case rel => exact ⟨s * 2, by omega, by omega, by go_num, HZ.out⟩
                  case measure => simp [intOf]; omega
          · have hsnI : ¬ (s : Int) < (n : Int) := by omega
            go_wp2
            go_end0
            exact ⟨rfl, HQ.out⟩)
  clear HI HM h hr hb hao hn
  go_enter Tryz.func100, Tryz.ntmps100
  go_wp2_with (go_at_call 125; refine HS.out.mono ?_; rintro e w1 ⟨rfl, hb1⟩; have HB1 := hid hb1; clear hb1 HS)
  go_end0
  exact ⟨rfl, HB1.out⟩
end Go.Proofs.YtkdnkmheidbfdaaGreat
