/-
  A row of places that the call itself made, as a map; two of its cells exchanged; the library's swapRangeCmpFunc, rotateCmpFunc.
-/
import Derived.Test.YtccbjohiaboipaaTSort
import Derived.Test.YtccbjohiaboipaaTMerge
import Derived.BigRegion
namespace Go.Proofs.Ytccbjohiaboipaa
open Go.RowKit Go.Sort

def rowF (f : Nat → Nat) (n : Nat) : List Int := (List.range n).map fun k => ((f k : Nat) : Int)
theorem rowF_len (f : Nat → Nat) (n : Nat) : (rowF f n).length = n := by unfold rowF; simp
theorem rowF_at (f : Nat → Nat) {n k : Nat} (h : k < n) : (rowF f n)[k]? = some (f k : Int) := by
  unfold rowF
  rw [List.getElem?_map, List.getElem?_range h]
  rfl
theorem rowF_set (f : Nat → Nat) (n j x : Nat) : (rowF f n).set j (x : Int) = rowF (upd f j x) n := by
  refine List.ext_getElem? fun k => ?_
  by_cases hk : k < n
  · rw [rowF_at _ hk]
    unfold upd
    by_cases h : k = j
    · subst h
      rw [List.getElem?_set_self (by rw [rowF_len]; exact hk), if_pos rfl]
    · rw [List.getElem?_set_ne (by omega), rowF_at _ hk, if_neg h]
  · rw [List.getElem?_eq_none (by rw [List.length_set, rowF_len]; omega), List.getElem?_eq_none (by rw [rowF_len]; omega)]
theorem upd_sw {f : Nat → Nat} {i j : Nat} (h : i ≠ j) : upd (upd f i (f j)) j (f i) = sw2 f i j := by
  funext k
  unfold upd sw2
  by_cases h1 : k = j
  · subst h1
    rw [if_pos rfl, if_neg (by omega), if_pos rfl]
  · rw [if_neg h1, if_neg h1]
/-- A row of places that the call itself made. -/
def PRow (w : World) (base g n cap : Nat) (f : Nat → Nat) : Prop := NRow w base (.slice (some ⟨g, 0, none⟩) n cap) (rowF f n)
theorem PRow.cell {w : World} {base g n cap : Nat} {f : Nat → Nat} (h : PRow w base g n cap f) {k : Nat} (hk : k < n) : w.cell? ⟨g, k, none⟩ = some (.int .i64 (f k : Int)) := NRow.cell h (rowF_len _ _) (rowF_at f hk)
theorem PRow.frz {w : World} {base g n cap : Nat} {f : Nat → Nat} (h : PRow w base g n cap f) (k : Nat) : w.frozen? ⟨g, k, none⟩ = false := NRow.frz h (rowF_len _ _) k
theorem PRow.below {w w' : World} {base g n cap : Nat} {f : Nat → Nat} (h : PRow w base g n cap f) (hb : Below w.heap.size w w') : PRow w' base g n cap f := NRow.below h hb
theorem PRow.drew {w : World} {base g n cap : Nat} {f : Nat → Nat} (h : PRow w base g n cap f) : PRow w.drew base g n cap f := h.below (Below.refl _ w).drew
theorem PRow.own {w : World} {base g n cap : Nat} {f : Nat → Nat} (h : PRow w base g n cap f) : base ≤ g ∧ g < w.heap.size := by
  have := NRow.lt h (k := g) rfl
  omega
theorem PRow.size {w : World} {base g n cap : Nat} {f : Nat → Nat} (h : PRow w base g n cap f) : base ≤ w.heap.size := by
  have := h.own
  omega
theorem PRow.sw {w : World} {base g n cap : Nat} {f : Nat → Nat} (h : PRow w base g n cap f) {i j : Nat} (hij : i ≠ j) : PRow ((w.setCell ⟨g, i, none⟩ (.int .i64 (f j : Int))).setCell ⟨g, j, none⟩ (.int .i64 (f i : Int))) base g n cap (sw2 f i j) := by
  have h1 := NRow.put h (rowF_len _ _) i (f j : Int)
  rw [rowF_set] at h1
  have h2 := NRow.put h1 (rowF_len _ _) j (f i : Int)
  rw [rowF_set, upd_sw hij] at h2
  exact h2
theorem PRow.sw_below {w : World} {base g n cap : Nat} {f : Nat → Nat} (h : PRow w base g n cap f) (i j : Nat) (u v : Value) : Below base w ((w.setCell ⟨g, i, none⟩ u).setCell ⟨g, j, none⟩ v) :=
  ((Below.refl base w).setCell (p := ⟨g, i, none⟩) h.own.1 _).setCell (p := ⟨g, j, none⟩) h.own.1 _

set_option maxHeartbeats 1600000 in
theorem swapRange_any (fv : Value) (base g n cap p q m : Nat) (f : Nat → Nat) (w : World) (hr : PRow w base g n cap f) (hpq : p + m ≤ q) (hq : q + m ≤ n) (hn : n ≤ 1000000) :
    Calls Try.prog 54 #[.slice (some ⟨g, 0, none⟩) n cap, .int .i64 p, .int .i64 q, .int .i64 m, fv] w fun e w' => e = .returned (.tuple #[]) ∧ PRow w' base g n cap (swB f p q m) ∧ Below base w w' := by
  have HR := hid hr
  clear hr
  go_enter Try.func54, Try.ntmps54
  go_wp2
  go_loopw [10] (fun iv wr => ∃ k : Nat, k ≤ m ∧ iv = .int .i64 k ∧ PRow wr base g n cap (swB f p q k) ∧ Below base w wr) (fun iv _ => m - (intOf iv).toNat)
  case atStart => exact ⟨0, by omega, rfl, by rw [swB_zero]; exact HR.out, Below.refl _ _⟩
  case round =>
    obtain ⟨k, hk, rfl, hrow, hb⟩ := hrel
    have HB := hid hb
    have HROW := hid hrow
    clear hb
    by_cases hlt : k < m
    · have hkI : (k : Int) < (m : Int) := by omega
      obtain ⟨i, hi⟩ : ∃ i, p + k = i := ⟨_, rfl⟩
      obtain ⟨j, hj⟩ : ∃ j, q + k = j := ⟨_, rfl⟩
      have hi' : (p : Int) + (k : Int) = (i : Int) := by omega
      have hj' : (q : Int) + (k : Int) = (j : Int) := by omega
      have hiI : (i : Int) < (n : Int) := by omega
      have hjI : (j : Int) < (n : Int) := by omega
      have hij : i ≠ j := by omega
      have c1 := hrow.cell (k := i) (by omega)
      have c2 := hrow.cell (k := j) (by omega)
      have f1 := hrow.frz i
      have f2 := hrow.frz j
      have HS := hid (swB_succ (f := f) (p := p) (q := q) (n := k) (by omega))
      rw [hi, hj] at HS
      clear hrow hi hj
      generalize swB f p q k = F at *
      go_wp2
      go_big_region
      all_goals go_wp2
      go_roundw
      case rel => exact ⟨k + 1, by omega, by go_num, by rw [← HS.out]; exact (HROW.out.sw hij).drew, (HB.out.trans (HROW.out.sw_below _ _ _ _)).drew⟩
      case measure => simp [intOf]; omega
    · have hkI : ¬ (k : Int) < (m : Int) := by omega
      have hkm : k = m := by omega
      subst hkm
      clear hrow
      go_wp2
      go_end0
      exact ⟨rfl, HROW.out, HB.out⟩

set_option maxHeartbeats 1600000 in
theorem rotate_any (fv : Value) (base g n cap a m b : Nat) (f : Nat → Nat) (w : World) (hr : PRow w base g n cap f) (ham : a < m) (hmb : m < b) (hb : b ≤ n) (hn : n ≤ 1000000) :
    Calls Try.prog 53 #[.slice (some ⟨g, 0, none⟩) n cap, .int .i64 a, .int .i64 m, .int .i64 b, fv] w fun e w' => e = .returned (.tuple #[]) ∧ PRow w' base g n cap (rot f a m b) ∧ Below base w w' := by
  have HR := hid hr
  clear hr
  have e1 : (m : Int) - (a : Int) = ((m - a : Nat) : Int) := by omega
  have e2 : (b : Int) - (m : Int) = ((b - m : Nat) : Int) := by omega
  go_enter Try.func53, Try.ntmps53
  go_wp2
  go_loopw [10, 11] (fun iv jv wr => ∃ (i j : Nat) (F : Nat → Nat), 0 < i ∧ 0 < j ∧ i ≤ m ∧ m + j ≤ n ∧ iv = .int .i64 i ∧ jv = .int .i64 j ∧ PRow wr base g n cap F ∧ rot F (m - i) m (m + j) = rot f a m b ∧ Below base w wr) (fun iv jv _ => (intOf iv).toNat + (intOf jv).toNat)
  case atStart =>
    refine ⟨m - a, b - m, f, by omega, by omega, by omega, by omega, by go_num, by go_num, HR.out, ?_, Below.refl _ _⟩
    rw [show m - (m - a) = a by omega, show m + (b - m) = b by omega]
  case round =>
    obtain ⟨i, j, F, hi, hj, him, hjn, rfl, rfl, hrow, hrot, hbr⟩ := hrel
    have HB := hid hbr
    have HROT := hid hrot
    clear hbr hrot e1 e2
    have e3 : (m : Int) - (i : Int) = ((m - i : Nat) : Int) := by omega
    by_cases hij : i = j
    · subst hij
      have HC := hid (swapRange_any fv base g n cap (m - i) m i F wr hrow (by omega) (by omega) hn)
      clear hrow
      go_wp2_with (go_at_call 54; refine HC.out.mono ?_; rintro e w1 ⟨rfl, hr1, hb1⟩; have HR1 := hid hr1; have HB1 := hid hb1; clear hr1 hb1 HC)
      go_end0
      exact ⟨rfl, by rw [← HROT.out, ← rot_same him]; exact HR1.out, HB.out.trans HB1.out⟩
    · have hijI : ¬ (i : Int) = (j : Int) := by omega
      by_cases hlt : j < i
      · have hltI : (j : Int) < (i : Int) := by omega
        have HC := hid (swapRange_any fv base g n cap (m - i) m j F wr hrow (by omega) (by omega) hn)
        have HRL := hid (rot_left (f := F) (m := m) (i := i) (j := j) hj hlt him)
        clear hrow
        go_wp2_with (go_at_call 54; refine HC.out.mono ?_; rintro e w1 ⟨rfl, hr1, hb1⟩; have HR1 := hid hr1; have HB1 := hid hb1; clear hr1 hb1 HC)
        go_roundw
        case rel => exact ⟨i - j, j, _, by omega, hj, by omega, hjn, by go_num, rfl, HR1.out, by rw [HRL.out, HROT.out], HB.out.trans HB1.out⟩
        case measure => simp [intOf]; omega
      · have hltI : ¬ (j : Int) < (i : Int) := by omega
        have e4 : (m : Int) + (j : Int) - (i : Int) = ((m + j - i : Nat) : Int) := by omega
        have HC := hid (swapRange_any fv base g n cap (m - i) (m + j - i) i F wr hrow (by omega) (by omega) hn)
        have HRL := hid (rot_right (f := F) (m := m) (i := i) (j := j) hi (by omega) him)
        clear hrow
        go_wp2_with (go_at_call 54; refine HC.out.mono ?_; rintro e w1 ⟨rfl, hr1, hb1⟩; have HR1 := hid hr1; have HB1 := hid hb1; clear hr1 hb1 HC)
        go_roundw
        case rel => exact ⟨i, j - i, _, hi, by omega, him, by omega, rfl, by go_num, HR1.out, by rw [HRL.out, HROT.out], HB.out.trans HB1.out⟩
        case measure => simp [intOf]; omega
theorem nrow_snocB {w : World} {base : Nat} {v : Value} {zs : List Int} (h : NRow w base v zs) (hb : base ≤ w.heap.size) (hl : zs.length ≤ 1000000) (z : Int) :
    ∃ ao cap w', (Builtin.append_ #[46, 46] 46 #[v, .slice (some ⟨w.heap.size, 0, none⟩) 1 1]).run Try.prog (w.alloc (.cells #[.int .i64 z] 3)) = .ok (.slice ao (zs.length + 1) cap) w' ∧
      w'.ownsRow base 3 1 (.slice ao (zs.length + 1) cap) (zs.length + 1) ((zs ++ [z]).map (Value.int .i64)) ∧ (w.alloc (.cells #[.int .i64 z] 3)).grownBy w' v.ownBlock := by
  obtain ⟨i0, hi, hz0, hz1, hz2⟩ := info_parts infoInt
  obtain ⟨wA, hwA⟩ : ∃ wA, wA = w.alloc (.cells #[.int .i64 z] 3) := ⟨_, rfl⟩
  have hbA : Below w.heap.size w wA := by rw [hwA]; exact (Below.refl _ _).alloc (Nat.le_refl _) _
  have hP : wA.cell? ⟨w.heap.size, 0, none⟩ = some (.int .i64 z) := by
    have hh : wA.heap[w.heap.size]? = some (.cells #[.int .i64 z] 3) := by
      rw [hwA]
      unfold World.alloc
      simp
    simp [World.cell?, hh]
  have h2 := h.below hbA
  obtain ⟨v', w', hrun, r1, r2, _, r4⟩ := run_append_own_at (P := Try.prog) wA base 46 46 3 i0 _ 1 8 Try.underlying46 hi hz0 hz1 hz2 rfl (by decide) v zs.length _ h2 ⟨w.heap.size, 0, none⟩ 1 1 [.int .i64 z] rfl
    (fun j u hj => by
      match j, hj with
      | 0, hj => simp at hj; subst hj; exact hP
      | j + 1, hj => simp at hj) (by intro u hu'; simp at hu'; subst hu'; rfl) (by unfold maxLen; omega) (by omega) (by rw [hwA]; simp; omega)
  obtain ⟨ao, cap, rfl⟩ : ∃ ao cap, v' = .slice ao (zs.length + 1) cap := by
    rcases r1.2 with ⟨rfl, h0⟩ | ⟨g, cap, cur, rfl, _, _, hc, _⟩
    · omega
    · exact ⟨_, cap, rfl⟩
  rw [← hwA]
  refine ⟨ao, cap, w', hrun, ?_, r2⟩
  rw [List.map_append]
  exact r1
end Go.Proofs.Ytccbjohiaboipaa
