/-
  Layer 14: edges whose IDs rise are left as they are by the stable sort and by Compact.
-/
import Derived.Test.YtjfnbgjnmjdeeaaPLMem
import Derived.Deep.RegionHeld3
namespace Go.Proofs.Ytjfnbgjnmjdeeaa
open Go.RowKit Go.Sort

/-- IDs that rise. -/
def Rise (xs : List ER) : Prop := ∀ (i j : Nat) (x y : ER), i < j → xs[i]? = some x → xs[j]? = some y → x.id < y.id
theorem Rise.near {xs : List ER} (h : Rise xs) {i : Nat} {x y : ER} (hx : xs[i]? = some x) (hy : xs[i + 1]? = some y) : x.id < y.id := h i (i + 1) x y (Nat.lt_succ_self _) hx hy

set_option maxRecDepth 100000 in
set_option maxHeartbeats 3200000 in
theorem insertionE_any {w : World} {b off n cap : Nat} {xs : List ER} (hn : xs.length = n) (hl : n ≤ 100000) (h : EAts w b off xs) (hr : Rise xs) (hb : 1 ≤ n → b < w.heap.size) {ao : Option Addr} (hao : 1 ≤ n → ao = some ⟨b, off, none⟩) :
    Calls Try.prog 75 #[.slice ao n cap, .int .i64 0, .int .i64 n, .func (.func 40) #[] #[]] w fun e w' => e = .returned (.tuple #[]) ∧ Below w.heap.size w w' := by
  have HN := hid hn
  have HX := hid h
  have HR := hid hr
  have HB := hid hb
  have HAO := hid hao
  clear hn h hr hb hao
  go_enter Try.func75, Try.ntmps75
  go_wp2
  go_loopw [8, 9] (fun iv _ wr => ∃ i : Nat, 1 ≤ i ∧ i ≤ n + 1 ∧ iv = .int .i64 (i : Int) ∧ Below w.heap.size w wr) (fun iv _ _ => n + 1 - (intOf iv).toNat)
  case atStart => exact ⟨1, by omega, by omega, rfl, Below.refl _ _⟩
  case round =>
    obtain ⟨i, hi1, hi2, rfl, hbr⟩ := hrel
    by_cases hlt : i < n
    · have hltI : (i : Int) < (n : Int) := by omega
      obtain ⟨j, hj⟩ : ∃ j, i = j + 1 := ⟨i - 1, by omega⟩
      obtain ⟨x, hx⟩ : ∃ x, xs[j]? = some x := ⟨xs[j]'(by have := HN.out; omega), by rw [List.getElem?_eq_getElem]⟩
      obtain ⟨y, hy⟩ : ∃ y, xs[i]? = some y := ⟨xs[i]'(by have := HN.out; omega), by rw [List.getElem?_eq_getElem]⟩
      have hxy : x.id < y.id := HR.out.near hx (by rw [← hj]; exact hy)
      have hbb := HB.out (by omega)
      obtain rfl := HAO.out (by omega)
      obtain ⟨a0, a1, a2, a3, a4, a5⟩ := (HX.out i y hy).below hbr hbb
      obtain ⟨b0, b1, b2, b3, b4, b5⟩ := (HX.out j x hx).below hbr hbb
      have hjw : IntKind.i64.wrap ((i : Int) - 1) = (j : Int) := by rw [IntKind.wrap_i64]; omega
      have hi0 : (0 : Int) < (i : Int) := by omega
      have hi0N : 0 < i := by omega
      have hi0d : decide ((0 : Int) < (i : Int)) = true := by simpa using hi0N
      have hjn : (j : Int) < (n : Int) := by omega
      have hsg : decide (sgn (y.id - x.id) < 0) = false := by
        have : ¬ (sgn (y.id - x.id) < 0) := by unfold sgn; split <;> (try split) <;> omega
        simpa using this
      have HBR := hid hbr
      have HJ := hid hj
      clear hbr hx hy hj hxy HX HR HB HN HAO
      go_wp2
      go_loopw [9] (fun jv wq => jv = .int .i64 (i : Int) ∧ wq = wr) (fun _ _ => 0)
      case atStart => exact ⟨rfl, rfl⟩
      case round =>
        obtain ⟨rfl, rfl⟩ := hrel
        have cq := fun d os => byID1_any y x (grow (redrawn wr d) os)
        have k0 := cell_regrown a0; have k1 := cell_regrown a1; have k2 := cell_regrown a2; have k3 := cell_regrown a3; have k4 := cell_regrown a4; have k5 := cell_regrown a5
        have l0 := cell_regrown b0; have l1 := cell_regrown b1; have l2 := cell_regrown b2; have l3 := cell_regrown b3; have l4 := cell_regrown b4; have l5 := cell_regrown b5
        generalize sgn (y.id - x.id) = sg at cq hsg
        go_wp2
        refine wp_region_quiet_below (by kernel_rfl) (by kernel_rfl) ?_
        go_big_quiet_step (fail)
        go_big_quiet_step (fail)
        go_big_quiet_step (fail)
        go_big_quiet_step (fail)
        go_big_quiet_step (fail)
        go_big_quiet_step (fail)
        go_big_quiet_step (fail)
        go_big_quiet_step (fail)
        go_big_quiet_step (fail)
        go_big_quiet_step (fail)
        go_big_quiet_step (fail)
        go_big_quiet_step (fail)
        go_big_quiet_step (fail)
        go_big_quiet_step (fail)
        go_big_quiet_step (exact Calls.regrown_of (cq _ _))
        go_big_quiet_step (fail)
        go_big_quiet_step (fail)
        refine wpQuiet_nil ?_
        intro W hW'
        obtain ⟨⟨dq, osq⟩, hW⟩ := hW'
        have HBW := hid (HBR.out.trans ((show Below wr.heap.size wr W by rw [hW]; exact below_regrown _ _ _).mono HBR.out.size))
        clear hW k0 k1 k2 k3 k4 k5 l0 l1 l2 l3 l4 l5 cq a0 a1 a2 a3 a4 a5 b0 b1 b2 b3 b4 b5
        go_wp2
        go_roundw
        case rel => exact ⟨i + 1, by omega, by omega, by go_num, HBW.out⟩
        case measure => simp [intOf]; omega
    · have hltI : ¬ (i : Int) < (n : Int) := by omega
      have HBR := hid hbr
      clear hbr
      go_wp2
      go_end0
      exact ⟨rfl, HBR.out⟩

set_option maxRecDepth 100000 in
set_option maxHeartbeats 3200000 in
theorem stableE_any {w : World} {b off n cap : Nat} {xs : List ER} (hn : xs.length = n) (hl : n ≤ 19) (h : EAts w b off xs) (hr : Rise xs) (hb : 1 ≤ n → b < w.heap.size) {ao : Option Addr} (hao : 1 ≤ n → ao = some ⟨b, off, none⟩) :
    Calls Try.prog 39 #[.slice ao n cap, .func (.func 40) #[] #[]] w fun e w' => e = .returned (.tuple #[]) ∧ Below w.heap.size w w' := by
  have HI := hid (insertionE_any (cap := cap) hn (by omega) h hr hb hao)
  have HS := hid (show Calls Try.prog 55 #[.slice ao n cap, .int .i64 n, .func (.func 40) #[] #[]] w fun e w' => e = .returned (.tuple #[]) ∧ Below w.heap.size w w' by
    have h20 : ¬ ((20 : Int) ≤ (n : Int)) := by omega
    have h20' : ¬ ((20 : Int) < (n : Int)) := by omega
    clear h hr hb hao hn
    go_enter Try.func55, Try.ntmps55
    go_wp2
    go_loopw [7, 8] (fun av bv wr => av = .int .i64 0 ∧ bv = .int .i64 20 ∧ wr = w) (fun _ _ _ => 0)
    case atStart => exact ⟨rfl, rfl, rfl⟩
    case round =>
      obtain ⟨rfl, rfl, rfl⟩ := hrel
      go_wp2_with (go_at_call 75; refine HI.out.mono ?_; rintro e w1 ⟨rfl, hb1⟩; have HB1 := hid hb1; clear hb1 HI)
      go_loopw [6, 7, 8, 9] (fun sv _ _ _ wq => sv = .int .i64 20 ∧ wq = w1) (fun _ _ _ _ _ => 0)
      case atStart => exact ⟨rfl, rfl⟩
      case round =>
        obtain ⟨rfl, rfl⟩ := hrel
        go_wp2
        go_end0
        exact ⟨rfl, HB1.out⟩)
  clear HI h hr hb hao hn
  go_enter Try.func39, Try.ntmps39
  go_wp2_with (go_at_call 55; refine HS.out.mono ?_; rintro e w1 ⟨rfl, hb1⟩; have HB1 := hid hb1; clear hb1 HS)
  go_end0
  exact ⟨rfl, HB1.out⟩

set_option maxRecDepth 100000 in
set_option maxHeartbeats 3200000 in
theorem compactE_any {w : World} {b off n cap : Nat} {xs : List ER} (hn : xs.length = n) (hl : n ≤ 100000) (h : EAts w b off xs) (hr : Rise xs) (hb : 1 ≤ n → b < w.heap.size) {ao : Option Addr} (hao : 1 ≤ n → ao = some ⟨b, off, none⟩) :
    Calls Try.prog 41 #[.slice ao n cap, .func (.func 42) #[] #[]] w fun e w' => e = .returned (.slice ao n cap) ∧ Below w.heap.size w w' := by
  have HN := hid hn
  have HX := hid h
  have HR := hid hr
  have HB := hid hb
  have HAO := hid hao
  clear hn h hr hb hao
  by_cases h2 : n < 2
  · have h2I : (n : Int) < 2 := by omega
    go_enter Try.func41, Try.ntmps41
    go_wp2
    go_ret
    exact ⟨rfl, Below.refl _ _⟩
  · have h2I : ¬ (n : Int) < 2 := by omega
    go_enter Try.func41, Try.ntmps41
    go_wp2
    go_loopw [5] (fun iv wr => ∃ i : Nat, 1 ≤ i ∧ i ≤ n ∧ iv = .int .i64 (i : Int) ∧ Below w.heap.size w wr) (fun iv _ => n - (intOf iv).toNat)
    case atStart => exact ⟨1, by omega, by omega, rfl, Below.refl _ _⟩
    case round =>
      obtain ⟨i, hi1, hi2, rfl, hbr⟩ := hrel
      by_cases hlt : i < n
      · have hltI : (i : Int) < (n : Int) := by omega
        obtain ⟨j, hj⟩ : ∃ j, i = j + 1 := ⟨i - 1, by omega⟩
        obtain ⟨x, hx⟩ : ∃ x, xs[j]? = some x := ⟨xs[j]'(by have := HN.out; omega), by rw [List.getElem?_eq_getElem]⟩
        obtain ⟨y, hy⟩ : ∃ y, xs[i]? = some y := ⟨xs[i]'(by have := HN.out; omega), by rw [List.getElem?_eq_getElem]⟩
        have hxy : x.id < y.id := HR.out.near hx (by rw [← hj]; exact hy)
        have hbb := HB.out (by omega)
        obtain rfl := HAO.out (by omega)
        obtain ⟨a0, a1, a2, a3, a4, a5⟩ := (HX.out i y hy).below hbr hbb
        obtain ⟨b0, b1, b2, b3, b4, b5⟩ := (HX.out j x hx).below hbr hbb
        have hjw : IntKind.i64.wrap ((i : Int) - 1) = (j : Int) := by rw [IntKind.wrap_i64]; omega
        have hjn : (j : Int) < (n : Int) := by omega
        have hne : (y.id == x.id) = false := by simp; omega
        have HBR := hid hbr
        clear hbr hx hy hj hxy
        have cq := fun d os => byID2_any y x (grow (redrawn wr d) os)
        have k0 := cell_regrown a0; have k1 := cell_regrown a1; have k2 := cell_regrown a2; have k3 := cell_regrown a3; have k4 := cell_regrown a4; have k5 := cell_regrown a5
        have l0 := cell_regrown b0; have l1 := cell_regrown b1; have l2 := cell_regrown b2; have l3 := cell_regrown b3; have l4 := cell_regrown b4; have l5 := cell_regrown b5
        rw [hne] at cq
        go_wp2
        refine wp_region_quiet_below (by kernel_rfl) (by kernel_rfl) ?_
        go_big_quiet_step (fail)
        go_big_quiet_step (fail)
        go_big_quiet_step (fail)
        go_big_quiet_step (fail)
        go_big_quiet_step (fail)
        go_big_quiet_step (fail)
        go_big_quiet_step (fail)
        go_big_quiet_step (fail)
        go_big_quiet_step (fail)
        go_big_quiet_step (fail)
        go_big_quiet_step (exact Calls.regrown_of (cq _ _))
        refine wpQuiet_nil ?_
        intro W hW'
        obtain ⟨⟨dq, osq⟩, hW⟩ := hW'
        have HBW := hid (HBR.out.trans ((show Below wr.heap.size wr W by rw [hW]; exact below_regrown _ _ _).mono HBR.out.size))
        clear hW k0 k1 k2 k3 k4 k5 l0 l1 l2 l3 l4 l5 cq a0 a1 a2 a3 a4 a5 b0 b1 b2 b3 b4 b5
        go_wp2
        go_roundw
        case rel => exact ⟨i + 1, by omega, by omega, by go_num, HBW.out⟩
        case measure => simp [intOf]; omega
      · have hltI : ¬ (i : Int) < (n : Int) := by omega
        have HBR := hid hbr
        clear hbr
        go_wp2
        go_ret
        exact ⟨rfl, HBR.out⟩
end Go.Proofs.Ytjfnbgjnmjdeeaa
