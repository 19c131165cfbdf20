/-
  Layer 14 in memory: edges, a row of them; how they are compared.
-/
import Derived.Test.YtkdnkmheidbfdaaGreatTFn
import Derived.Deep.RegionHeld3
namespace Go.Proofs.YtkdnkmheidbfdaaGreat
open Go.RowKit Go.Sort

/-- An edge as it lies in memory, its Line a slice. -/
structure ER where
  id : Int
  st : Int
  en : Int
  lo : Option Addr
  ll : Nat
  lc : Nat
  lf : Int
  rt : Int
abbrev erV (x : ER) : Value := .agg #[.int .i64 x.id, .int .i64 x.st, .int .i64 x.en, .slice x.lo x.ll x.lc, .int .i64 x.lf, .int .i64 x.rt]
/-- Its cells, from one on. -/
def EAt (w : World) (b o : Nat) (x : ER) : Prop :=
  w.cell? ⟨b, o, none⟩ = some (.int .i64 x.id) ∧ w.cell? ⟨b, o + 1, none⟩ = some (.int .i64 x.st) ∧ w.cell? ⟨b, o + 2, none⟩ = some (.int .i64 x.en) ∧ w.cell? ⟨b, o + 3, none⟩ = some (.slice x.lo x.ll x.lc) ∧ w.cell? ⟨b, o + 4, none⟩ = some (.int .i64 x.lf) ∧ w.cell? ⟨b, o + 5, none⟩ = some (.int .i64 x.rt)
theorem EAt.below {w w' : World} {b o B : Nat} {x : ER} (h : EAt w b o x) (hb : Below B w w') (hB : b < B) : EAt w' b o x :=
  ⟨cell_below h.1 hb hB, cell_below h.2.1 hb hB, cell_below h.2.2.1 hb hB, cell_below h.2.2.2.1 hb hB, cell_below h.2.2.2.2.1 hb hB, cell_below h.2.2.2.2.2 hb hB⟩
/-- A row of edges. -/
def EAts (w : World) (b off : Nat) (xs : List ER) : Prop := ∀ (k : Nat) (x : ER), xs[k]? = some x → EAt w b (off + k * 6) x
theorem EAts.below {w w' : World} {b off B : Nat} {xs : List ER} (h : EAts w b off xs) (hb : Below B w w') (hB : b < B) : EAts w' b off xs := fun k x hx => (h k x hx).below hb hB
theorem EAt.lt {w : World} {b o : Nat} {x : ER} (h : EAt w b o x) : b < w.heap.size := lt_of_cell h.1

/-- A boxed edge. -/
theorem ebox (w : World) (x : ER) (t : TypeId) : EAt (w.alloc (.cells #[.int .i64 x.id, .int .i64 x.st, .int .i64 x.en, .slice x.lo x.ll x.lc, .int .i64 x.lf, .int .i64 x.rt] t)) w.heap.size 0 x := by
  have h : (w.alloc (.cells #[.int .i64 x.id, .int .i64 x.st, .int .i64 x.en, .slice x.lo x.ll x.lc, .int .i64 x.lf, .int .i64 x.rt] t)).heap[w.heap.size]? = some (.cells #[.int .i64 x.id, .int .i64 x.st, .int .i64 x.en, .slice x.lo x.ll x.lc, .int .i64 x.lf, .int .i64 x.rt] t) := by unfold World.alloc; simp
  generalize w.alloc (.cells #[.int .i64 x.id, .int .i64 x.st, .int .i64 x.en, .slice x.lo x.ll x.lc, .int .i64 x.lf, .int .i64 x.rt] t) = W at h ⊢
  refine ⟨?_, ?_, ?_, ?_, ?_, ?_⟩ <;> simp [World.cell?, h]

set_option maxRecDepth 100000 in
set_option maxHeartbeats 1600000 in
theorem cmpID_any (x : ER) (id : Int) (w : World) :
    Calls Tryz.prog 147 #[erV x, .int .i64 id] w fun e w' => e = .returned (.int .i64 (sgn (x.id - id))) ∧ Below w.heap.size w w' := by
  obtain ⟨wA, hwA⟩ : ∃ wA, w.alloc (.cells #[.int .i64 x.id, .int .i64 x.st, .int .i64 x.en, .slice x.lo x.ll x.lc, .int .i64 x.lf, .int .i64 x.rt] 29) = wA := ⟨_, rfl⟩
  have hbA : Below w.heap.size w wA := by rw [← hwA]; exact (Below.refl _ w).alloc (Nat.le_refl _) _
  obtain ⟨c0, c1, c2, c3, c4, c5⟩ : EAt wA w.heap.size 0 x := by rw [← hwA]; exact ebox w x _
  have HC := hid (compareI_any x.id id wA)
  have HB := hid hbA
  clear hbA
  go_enter Tryz.func147, Tryz.ntmps147
  go_wp2_with (first
    | (go_at_call 102; refine HC.out.mono ?_; rintro e w1 ⟨rfl, hb1⟩; replace HB := hid (HB.out.trans (hb1.mono HB.out.size)); clear HC hb1))
  go_ret
  exact ⟨rfl, HB.out⟩

set_option maxRecDepth 100000 in
set_option maxHeartbeats 1600000 in
theorem byID1_any (x y : ER) (w : World) :
    Calls Tryz.prog 173 #[erV x, erV y] w fun e w' => e = .returned (.int .i64 (sgn (x.id - y.id))) ∧ Below w.heap.size w w' := by
  obtain ⟨wA, hwA⟩ : ∃ wA, w.alloc (.cells #[.int .i64 x.id, .int .i64 x.st, .int .i64 x.en, .slice x.lo x.ll x.lc, .int .i64 x.lf, .int .i64 x.rt] 29) = wA := ⟨_, rfl⟩
  obtain ⟨wB, hwB⟩ : ∃ wB, wA.alloc (.cells #[.int .i64 y.id, .int .i64 y.st, .int .i64 y.en, .slice y.lo y.ll y.lc, .int .i64 y.lf, .int .i64 y.rt] 29) = wB := ⟨_, rfl⟩
  have hbA : Below w.heap.size w wA := by rw [← hwA]; exact (Below.refl _ w).alloc (Nat.le_refl _) _
  have hsA : wA.heap.size = w.heap.size + 1 := by rw [← hwA]; simp
  have hbB : Below wA.heap.size wA wB := by rw [← hwB]; exact (Below.refl _ wA).alloc (Nat.le_refl _) _
  have hA : EAt wB w.heap.size 0 x := (show EAt wA w.heap.size 0 x by rw [← hwA]; exact ebox w x _).below hbB (by omega)
  have hB : EAt wB (w.heap.size + 1) 0 y := by rw [← hwB, ← hsA]; exact ebox wA y _
  obtain ⟨a0, a1, a2, a3, a4, a5⟩ := hA
  obtain ⟨b0, _⟩ := hB
  have HC := hid (cmpID_any x y.id wB)
  have HB := hid (hbA.trans (hbB.mono (by omega)))
  clear hbA hbB
  go_enter Tryz.func173, Tryz.ntmps173
  go_wp2_with (first
    | (go_at_call 147; refine HC.out.mono ?_; rintro e w1 ⟨rfl, hb1⟩; replace HB := hid (HB.out.trans (hb1.mono HB.out.size)); clear HC hb1))
  go_ret
  exact ⟨rfl, HB.out⟩

set_option maxRecDepth 100000 in
set_option maxHeartbeats 1600000 in
theorem byID2_any (x y : ER) (w : World) :
    Calls Tryz.prog 175 #[erV x, erV y] w fun e w' => e = .returned (.bool (x.id == y.id)) ∧ Below w.heap.size w w' := by
  obtain ⟨wA, hwA⟩ : ∃ wA, w.alloc (.cells #[.int .i64 x.id, .int .i64 x.st, .int .i64 x.en, .slice x.lo x.ll x.lc, .int .i64 x.lf, .int .i64 x.rt] 29) = wA := ⟨_, rfl⟩
  obtain ⟨wB, hwB⟩ : ∃ wB, wA.alloc (.cells #[.int .i64 y.id, .int .i64 y.st, .int .i64 y.en, .slice y.lo y.ll y.lc, .int .i64 y.lf, .int .i64 y.rt] 29) = wB := ⟨_, rfl⟩
  have hbA : Below w.heap.size w wA := by rw [← hwA]; exact (Below.refl _ w).alloc (Nat.le_refl _) _
  have hsA : wA.heap.size = w.heap.size + 1 := by rw [← hwA]; simp
  have hbB : Below wA.heap.size wA wB := by rw [← hwB]; exact (Below.refl _ wA).alloc (Nat.le_refl _) _
  have hA : EAt wB w.heap.size 0 x := (show EAt wA w.heap.size 0 x by rw [← hwA]; exact ebox w x _).below hbB (by omega)
  have hB : EAt wB (w.heap.size + 1) 0 y := by rw [← hwB, ← hsA]; exact ebox wA y _
  obtain ⟨a0, _⟩ := hA
  obtain ⟨b0, _⟩ := hB
  have HB := hid (hbA.trans (hbB.mono (by omega)))
  clear hbA hbB
  go_enter Tryz.func175, Tryz.ntmps175
  go_wp2
  go_ret
  exact ⟨rfl, HB.out⟩
end Go.Proofs.YtkdnkmheidbfdaaGreat

namespace Go.Proofs.YtkdnkmheidbfdaaGreat
open Go.RowKit Go.Sort

/-- IDs that rise. -/
def Rise (xs : List ER) : Prop := ∀ (i j : Nat) (x y : ER), i < j → xs[i]? = some x → xs[j]? = some y → x.id < y.id
theorem Rise.near {xs : List ER} (h : Rise xs) {i : Nat} {x y : ER} (hx : xs[i]? = some x) (hy : xs[i + 1]? = some y) : x.id < y.id := h i (i + 1) x y (Nat.lt_succ_self _) hx hy

set_option maxRecDepth 100000 in
set_option maxHeartbeats 3200000 in
theorem insertionE_any {w : World} {b off n cap : Nat} {xs : List ER} (hn : xs.length = n) (hl : n ≤ 100000) (h : EAts w b off xs) (hr : Rise xs) (hb : 1 ≤ n → b < w.heap.size) {ao : Option Addr} (hao : 1 ≤ n → ao = some ⟨b, off, none⟩) {p e : Nat} (hpe : p ≤ e) (hen : e ≤ n) :
    Calls Tryz.prog 204 #[.slice ao n cap, .int .i64 (p : Nat), .int .i64 (e : Nat), .func (.func 173) #[] #[]] w fun e w' => e = .returned (.tuple #[]) ∧ Below w.heap.size w w' := by
  have HN := hid hn
  have HX := hid h
  have HR := hid hr
  have HB := hid hb
  have HAO := hid hao
  clear hn h hr hb hao
  go_enter Tryz.func204, Tryz.ntmps204
  go_wp2
  go_loopw [8, 9] (fun iv _ wr => ∃ i : Nat, p + 1 ≤ i ∧ i ≤ e + 1 ∧ iv = .int .i64 (i : Int) ∧ Below w.heap.size w wr) (fun iv _ _ => e + 1 - (intOf iv).toNat)
  case atStart => exact ⟨p + 1, by omega, by omega, by go_num, Below.refl _ _⟩
  case round =>
    obtain ⟨i, hi1, hi2, rfl, hbr⟩ := hrel
    by_cases hlt : i < e
    · have hltI : (i : Int) < (e : Int) := by omega
      have hinI : (i : Int) < (n : Int) := by omega
      obtain ⟨j, hj⟩ : ∃ j, i = j + 1 := ⟨i - 1, by omega⟩
      obtain ⟨x, hx⟩ : ∃ x, xs[j]? = some x := ⟨xs[j]'(by have := HN.out; omega), by rw [List.getElem?_eq_getElem]⟩
      obtain ⟨y, hy⟩ : ∃ y, xs[i]? = some y := ⟨xs[i]'(by have := HN.out; omega), by rw [List.getElem?_eq_getElem]⟩
      have hxy : x.id < y.id := HR.out.near hx (by rw [← hj]; exact hy)
      have hbb := HB.out (by omega)
      obtain rfl := HAO.out (by omega)
      obtain ⟨a0, a1, a2, a3, a4, a5⟩ := (HX.out i y hy).below hbr hbb
      obtain ⟨b0, b1, b2, b3, b4, b5⟩ := (HX.out j x hx).below hbr hbb
      have hjw : IntKind.i64.wrap ((i : Int) - 1) = (j : Int) := by rw [IntKind.wrap_i64]; omega
      have hi0 : (p : Int) < (i : Int) := by omega
      have hi0N : p < i := by omega
      have hi0d : decide ((p : Int) < (i : Int)) = true := by simpa using hi0N
      have hjn : (j : Int) < (n : Int) := by omega
      have hsg : decide (sgn (y.id - x.id) < 0) = false := by
        have : ¬ (sgn (y.id - x.id) < 0) := by unfold sgn; split <;> (try split) <;> omega
        simpa using this
      have HBR := hid hbr
      have HJ := hid hj
      clear hbr hx hy hj hxy HX HR HB HN HAO
      go_wp2
      go_loopw [9] (fun jv wq => jv = .int .i64 (i : Int) ∧ wq = wr) (fun _ _ => 0)
      case atStart => exact ⟨rfl, rfl⟩
      case round =>
        obtain ⟨rfl, rfl⟩ := hrel
        have cq := fun d os => byID1_any y x (grow (redrawn wr d) os)
        have k0 := cell_regrown a0; have k1 := cell_regrown a1; have k2 := cell_regrown a2; have k3 := cell_regrown a3; have k4 := cell_regrown a4; have k5 := cell_regrown a5
        have l0 := cell_regrown b0; have l1 := cell_regrown b1; have l2 := cell_regrown b2; have l3 := cell_regrown b3; have l4 := cell_regrown b4; have l5 := cell_regrown b5
        generalize sgn (y.id - x.id) = sg at cq hsg
        go_wp2
        refine wp_region_quiet_below (by kernel_rfl) (by kernel_rfl) ?_
        go_big_quiet_step (fail)
        go_big_quiet_step (fail)
        go_big_quiet_step (fail)
        go_big_quiet_step (fail)
        go_big_quiet_step (fail)
        go_big_quiet_step (fail)
        go_big_quiet_step (fail)
        go_big_quiet_step (fail)
        go_big_quiet_step (fail)
        go_big_quiet_step (fail)
        go_big_quiet_step (fail)
        go_big_quiet_step (fail)
        go_big_quiet_step (fail)
        go_big_quiet_step (fail)
        go_big_quiet_step (exact Calls.regrown_of (cq _ _))
        go_big_quiet_step (fail)
        go_big_quiet_step (fail)
        refine wpQuiet_nil ?_
        intro W hW'
        obtain ⟨⟨dq, osq⟩, hW⟩ := hW'
        have HBW := hid (HBR.out.trans ((show Below wr.heap.size wr W by rw [hW]; exact below_regrown _ _ _).mono HBR.out.size))
        clear hW k0 k1 k2 k3 k4 k5 l0 l1 l2 l3 l4 l5 cq a0 a1 a2 a3 a4 a5 b0 b1 b2 b3 b4 b5
        go_wp2
        go_roundw
        case rel => exact ⟨i + 1, by omega, by omega, by go_num, HBW.out⟩
        case measure => simp [intOf]; omega
    · have hltI : ¬ (i : Int) < (e : Int) := by omega
      have HBR := hid hbr
      clear hbr
      go_wp2
      go_end0
      exact ⟨rfl, HBR.out⟩

set_option maxRecDepth 100000 in
set_option maxHeartbeats 3200000 in
theorem compactE_any {w : World} {b off n cap : Nat} {xs : List ER} (hn : xs.length = n) (hl : n ≤ 100000) (h : EAts w b off xs) (hr : Rise xs) (hb : 1 ≤ n → b < w.heap.size) {ao : Option Addr} (hao : 1 ≤ n → ao = some ⟨b, off, none⟩) :
    Calls Tryz.prog 174 #[.slice ao n cap, .func (.func 175) #[] #[]] w fun e w' => e = .returned (.slice ao n cap) ∧ Below w.heap.size w w' := by
  have HN := hid hn
  have HX := hid h
  have HR := hid hr
  have HB := hid hb
  have HAO := hid hao
  clear hn h hr hb hao
  by_cases h2 : n < 2
  · have h2I : (n : Int) < 2 := by omega
    go_enter Tryz.func174, Tryz.ntmps174
    go_wp2
    go_ret
    exact ⟨rfl, Below.refl _ _⟩
  · have h2I : ¬ (n : Int) < 2 := by omega
    go_enter Tryz.func174, Tryz.ntmps174
    go_wp2
    go_loopw [5] (fun iv wr => ∃ i : Nat, 1 ≤ i ∧ i ≤ n ∧ iv = .int .i64 (i : Int) ∧ Below w.heap.size w wr) (fun iv _ => n - (intOf iv).toNat)
    case atStart => exact ⟨1, by omega, by omega, rfl, Below.refl _ _⟩
    case round =>
      obtain ⟨i, hi1, hi2, rfl, hbr⟩ := hrel
      by_cases hlt : i < n
      · have hltI : (i : Int) < (n : Int) := by omega
        obtain ⟨j, hj⟩ : ∃ j, i = j + 1 := ⟨i - 1, by omega⟩
        obtain ⟨x, hx⟩ : ∃ x, xs[j]? = some x := ⟨xs[j]'(by have := HN.out; omega), by rw [List.getElem?_eq_getElem]⟩
        obtain ⟨y, hy⟩ : ∃ y, xs[i]? = some y := ⟨xs[i]'(by have := HN.out; omega), by rw [List.getElem?_eq_getElem]⟩
        have hxy : x.id < y.id := HR.out.near hx (by rw [← hj]; exact hy)
        have hbb := HB.out (by omega)
        obtain rfl := HAO.out (by omega)
        obtain ⟨a0, a1, a2, a3, a4, a5⟩ := (HX.out i y hy).below hbr hbb
        obtain ⟨b0, b1, b2, b3, b4, b5⟩ := (HX.out j x hx).below hbr hbb
        have hjw : IntKind.i64.wrap ((i : Int) - 1) = (j : Int) := by rw [IntKind.wrap_i64]; omega
        have hjn : (j : Int) < (n : Int) := by omega
        have hne : (y.id == x.id) = false := by simp; omega
        have HBR := hid hbr
        clear hbr hx hy hj hxy
        have cq := fun d os => byID2_any y x (grow (redrawn wr d) os)
        have k0 := cell_regrown a0; have k1 := cell_regrown a1; have k2 := cell_regrown a2; have k3 := cell_regrown a3; have k4 := cell_regrown a4; have k5 := cell_regrown a5
        have l0 := cell_regrown b0; have l1 := cell_regrown b1; have l2 := cell_regrown b2; have l3 := cell_regrown b3; have l4 := cell_regrown b4; have l5 := cell_regrown b5
        rw [hne] at cq
        go_wp2
        refine wp_region_quiet_below (by kernel_rfl) (by kernel_rfl) ?_
        go_big_quiet_step (fail)
        go_big_quiet_step (fail)
        go_big_quiet_step (fail)
        go_big_quiet_step (fail)
        go_big_quiet_step (fail)
        go_big_quiet_step (fail)
        go_big_quiet_step (fail)
        go_big_quiet_step (fail)
        go_big_quiet_step (fail)
        go_big_quiet_step (fail)
        go_big_quiet_step (exact Calls.regrown_of (cq _ _))
        refine wpQuiet_nil ?_
        intro W hW'
        obtain ⟨⟨dq, osq⟩, hW⟩ := hW'
        have HBW := hid (HBR.out.trans ((show Below wr.heap.size wr W by rw [hW]; exact below_regrown _ _ _).mono HBR.out.size))
        clear hW k0 k1 k2 k3 k4 k5 l0 l1 l2 l3 l4 l5 cq a0 a1 a2 a3 a4 a5 b0 b1 b2 b3 b4 b5
        go_wp2
        go_roundw
        case rel => exact ⟨i + 1, by omega, by omega, by go_num, HBW.out⟩
        case measure => simp [intOf]; omega
      · have hltI : ¬ (i : Int) < (n : Int) := by omega
        have HBR := hid hbr
        clear hbr
        go_wp2
        go_ret
        exact ⟨rfl, HBR.out⟩
end Go.Proofs.YtkdnkmheidbfdaaGreat
