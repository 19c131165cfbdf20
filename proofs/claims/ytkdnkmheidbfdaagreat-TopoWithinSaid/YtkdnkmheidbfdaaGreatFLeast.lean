/-
  Layer 15: the least region that holds a point, of those that are asked for.
-/
import Derived.Test.YtkdnkmheidbfdaaGreatMQ
import Derived.WalkMore
namespace Go.Proofs.YtkdnkmheidbfdaaGreat
open Go.RowKit Go.Sort

/-- A row of borders, each with its points. -/
structure BrE (w : World) (b off n : Nat) (ao : Option Addr) (os : List (Bd × List Pp)) : Prop where
  len : os.length = n
  few : n ≤ 1000
  cells : ∀ (k : Nat) (x : Bd) (ps : List Pp), os[k]? = some (x, ps) → BAt w b (off + k * 9) x ∧ Src w (.slice x.po x.pl x.pc) ps ∧ ps.length ≤ 4096
  at' : 1 ≤ n → ao = some ⟨b, off, none⟩
theorem BrE.lt {w : World} {b off n : Nat} {ao : Option Addr} {os : List (Bd × List Pp)} (h : BrE w b off n ao os) (h1 : 1 ≤ n) : b < w.heap.size := by
  have := h.len
  obtain ⟨⟨x, ps⟩, hx⟩ : ∃ y, os[0]? = some y := ⟨os[0]'(by omega), by rw [List.getElem?_eq_getElem]⟩
  exact lt_of_cell (h.cells 0 x ps hx).1.1
theorem BrE.below {w w' : World} {b off n : Nat} {ao : Option Addr} {os : List (Bd × List Pp)} (h : BrE w b off n ao os) (hb : Below w.heap.size w w') : BrE w' b off n ao os :=
  ⟨h.len, h.few, fun k x ps hx => ⟨(h.cells k x ps hx).1.below hb (lt_of_cell (h.cells k x ps hx).1.1), (h.cells k x ps hx).2.1.below hb, (h.cells k x ps hx).2.2⟩, h.at'⟩
/-- The number of the first border among those asked for that holds q; 0, if there is none. -/
def leastF (am : Bd → Bool) (q : Pp) : List (Bd × List Pp) → Int
  | [] => 0
  | (x, ps) :: l => if am x && holdsB x ps q then x.nr else leastF am q l
theorem leastF_at {am : Bd → Bool} {q : Pp} : ∀ {l : List (Bd × List Pp)} {i : Nat} {x : Bd} {ps : List Pp}, l[i]? = some (x, ps) → leastF am q (l.drop i) = if am x && holdsB x ps q then x.nr else leastF am q (l.drop (i + 1))
  | y :: l, 0, x, ps, h => by
    simp only [List.getElem?_cons_zero, Option.some.injEq] at h
    subst h
    rfl
  | y :: l, i + 1, x, ps, h => by
    rw [List.getElem?_cons_succ] at h
    rw [List.drop_succ_cons, List.drop_succ_cons]
    exact leastF_at h
  | [], i, x, ps, h => by simp at h

set_option maxRecDepth 100000 in
set_option maxHeartbeats 1600000 in
theorem at1_any (x : Bd) (w : World) : Calls Tryz.prog 96 #[bdV x] w fun e w' => e = .returned (.bool true) ∧ Below w.heap.size w w' := by
  obtain ⟨wA, hwA⟩ : ∃ wA, w.alloc (bdO x) = wA := ⟨_, rfl⟩
  have hbA : Below w.heap.size w wA := by rw [← hwA]; exact (Below.refl _ w).alloc (Nat.le_refl _) _
  have HB := hid hbA
  clear hbA
  go_enter Tryz.func96, Tryz.ntmps96
  go_wp2
  go_ret
  exact ⟨rfl, HB.out⟩
set_option maxRecDepth 100000 in
set_option maxHeartbeats 1600000 in
theorem region1_any (x y : Bd) {g : Nat} {w : World} (hg : w.heap[g]? = some (bdO y)) : Calls Tryz.prog 97 #[bdV x, .pointer (some ⟨g, 0, none⟩)] w fun e w' => e = .returned (.bool !(x.pt == y.pt)) ∧ Below w.heap.size w w' := by
  obtain ⟨wA, hwA⟩ : ∃ wA, w.alloc (bdO x) = wA := ⟨_, rfl⟩
  have hbA : Below w.heap.size w wA := by rw [← hwA]; exact (Below.refl _ w).alloc (Nat.le_refl _) _
  obtain ⟨_, _, _, _, _, _, _, a7, _⟩ := bd_cells (show wA.heap[w.heap.size]? = some (bdO x) by rw [← hwA]; exact bd_new w x)
  obtain ⟨_, _, _, _, _, _, _, b7, _⟩ := bd_cells ((hbA.block _ (lt_of_heap hg)).trans hg)
  have HB := hid hbA
  clear hbA hg
  go_enter Tryz.func97, Tryz.ntmps97
  go_wp2
  go_ret
  exact ⟨rfl, HB.out⟩

set_option maxRecDepth 100000 in
set_option maxHeartbeats 3200000 in
theorem least_at {w : World} {b off n cap : Nat} {ao : Option Addr} {os : List (Bd × List Pp)} (h : BrE w b off n ao os) (bv : Value) (qx qy : Int) :
    Calls Tryz.prog 95 #[.agg #[bv, .slice ao n cap], pv qx qy, .func (.func 96) #[] #[]] w fun e w' => e = .returned (.int .i64 (leastF (fun _ => true) (qx, qy) os)) ∧ Below w.heap.size w w' := by
  obtain ⟨wA, hwA⟩ : ∃ wA, w.alloc (.cells #[bv, .slice ao n cap] 101) = wA := ⟨_, rfl⟩
  have hbA : Below w.heap.size w wA := by rw [← hwA]; exact (Below.refl _ w).alloc (Nat.le_refl _) _
  have hhA : wA.heap[w.heap.size]? = some (.cells #[bv, .slice ao n cap] 101 (0, 0)) := by rw [← hwA]; exact World.alloc_heap_new w _
  obtain ⟨wB, hwB⟩ : ∃ wB, wA.alloc (.cells #[.int .i64 qx, .int .i64 qy] 23) = wB := ⟨_, rfl⟩
  have hbB : Below wA.heap.size wA wB := by rw [← hwB]; exact (Below.refl _ wA).alloc (Nat.le_refl _) _
  have hhB : wB.heap[wA.heap.size]? = some (.cells #[.int .i64 qx, .int .i64 qy] 23 (0, 0)) := by rw [← hwB]; exact World.alloc_heap_new wA _
  have hh2 := (hbB.block _ (lt_of_heap hhA)).trans hhA
  have hb : Below w.heap.size w wB := hbA.trans (hbB.mono hbA.size)
  have s1 : wB.cell? ⟨w.heap.size, 1, none⟩ = some (.slice ao n cap) := by simp [World.cell?, hh2]
  have HE := hid (h.below hb)
  have HB := hid (And.intro hb hhB)
  have hfew := h.few
  clear h hbA hhA hbB hhB hh2 hb
  go_enter Tryz.func95, Tryz.ntmps95
  go_wp2
  go_step3
  go_wp2
  go_step3
  go_wp2
  go_loopw [7, 9, 13] (fun nv _ iv wr => ∃ i : Nat, i ≤ n ∧ nv = .int .i64 0 ∧ iv = .int .i64 (i : Int) ∧ leastF (fun _ => true) (qx, qy) os = leastF (fun _ => true) (qx, qy) (os.drop i) ∧ Below wB.heap.size wB wr) (fun _ _ iv _ => n - (intOf iv).toNat)
  case atStart => exact ⟨0, Nat.zero_le _, rfl, rfl, rfl, Below.refl _ _⟩
  case round =>
    obtain ⟨i, hi, rfl, rfl, hsame, hbr⟩ := hrel
    by_cases hlt : i < n
    · have hltI : (i : Int) < (n : Int) := by omega
      obtain ⟨⟨x, ps⟩, hx⟩ : ∃ y, os[i]? = some y := ⟨os[i]'(by have := HE.out.len; omega), by rw [List.getElem?_eq_getElem]⟩
      obtain rfl := HE.out.at' (by omega)
      obtain ⟨hc, hsr, hpl⟩ := HE.out.cells i x ps hx
      obtain ⟨a0, a1, a2, a3, a4, a5, a6, a7, a8⟩ := hc.below hbr (lt_of_cell hc.1)
      rw [leastF_at hx] at hsame
      obtain ⟨Wb, hWb⟩ : ∃ Wb, wr.alloc (bdO x) = Wb := ⟨_, rfl⟩
      have hbW : Below wr.heap.size wr Wb := by rw [← hWb]; exact (Below.refl _ wr).alloc (Nat.le_refl _) _
      have hhW : Wb.heap[wr.heap.size]? = some (bdO x) := by rw [← hWb]; exact bd_new wr x
      have hBW : Below wB.heap.size wB Wb := hbr.trans (hbW.mono hbr.size)
      obtain ⟨y0, y1, y2, y3, y4, y5, y6, y7, y8⟩ := bd_cells hhW
      have HC1 := hid (at1_any x Wb)
      have HX := hid (And.intro hBW (And.intro hhW (And.intro hsr hpl)))
      clear hc hsr hpl hbW hhW hBW hbr hx
      obtain ⟨am, ham⟩ : ∃ am : Bool, am = true := ⟨_, rfl⟩
      cases am with
      | false => cases ham
      | true =>
        rw [Bool.true_and] at hsame
        obtain ⟨hd, hhd⟩ : ∃ hd, holdsB x ps (qx, qy) = hd := ⟨_, rfl⟩
        have HH := hid (show ∀ W : World, Below wB.heap.size wB W → Calls Tryz.prog 124 #[bdV x, pv qx qy] W fun e w' => e = .returned (.bool hd) ∧ Below W.heap.size W w' from fun W hW => by rw [← hhd]; exact holds_any x (HX.out.2.2.1.below hW) HX.out.2.2.2 qx qy)
        rw [hhd] at hsame
        clear hhd
        cases hd with
        | false =>
          rw [if_neg Bool.false_ne_true] at hsame
          have HS := hid hsame
          clear hsame
          go_wp2_with (first
            | (go_at_call 96; refine HC1.out.mono ?_; rintro e w1 ⟨rfl, hb1⟩; have hh1 := (hb1.block _ (lt_of_heap HX.out.2.1)).trans HX.out.2.1; have H1 := hid (HX.out.1.trans (hb1.mono HX.out.1.size)); clear y0 y1 y2 y3 y4 y5 y6 y7 y8; obtain ⟨y0, y1, y2, y3, y4, y5, y6, y7, y8⟩ := bd_cells hh1; have hq1 := (H1.out.block _ (lt_of_heap HB.out.2)).trans HB.out.2; have p0 : w1.cell? ⟨wA.heap.size, 0, none⟩ = some (.int .i64 qx) := (by simp [World.cell?, hq1]); have p1 : w1.cell? ⟨wA.heap.size, 1, none⟩ = some (.int .i64 qy) := (by simp [World.cell?, hq1]); clear hb1 HC1 hh1 hq1)
            | (go_at_call 124; refine (HH.out _ H1.out).mono ?_; rintro e w2 ⟨rfl, hb2⟩; have H2 := hid (H1.out.trans (hb2.mono H1.out.size)); clear hb2 HH))
          go_roundw
          case rel => exact ⟨i + 1, by omega, rfl, by go_num, HS.out, H2.out⟩
          case measure => simp [intOf]; omega
        | true =>
          rw [if_pos rfl] at hsame
          have HS := hid hsame
          clear hsame
          go_wp2_with (first
            | (go_at_call 96; refine HC1.out.mono ?_; rintro e w1 ⟨rfl, hb1⟩; have hh1 := (hb1.block _ (lt_of_heap HX.out.2.1)).trans HX.out.2.1; have H1 := hid (HX.out.1.trans (hb1.mono HX.out.1.size)); clear y0 y1 y2 y3 y4 y5 y6 y7 y8; obtain ⟨y0, y1, y2, y3, y4, y5, y6, y7, y8⟩ := bd_cells hh1; have hq1 := (H1.out.block _ (lt_of_heap HB.out.2)).trans HB.out.2; have p0 : w1.cell? ⟨wA.heap.size, 0, none⟩ = some (.int .i64 qx) := (by simp [World.cell?, hq1]); have p1 : w1.cell? ⟨wA.heap.size, 1, none⟩ = some (.int .i64 qy) := (by simp [World.cell?, hq1]); have HZ := hid hh1; clear hb1 HC1 hh1 hq1)
            | (go_at_call 124; refine (HH.out _ H1.out).mono ?_; rintro e w2 ⟨rfl, hb2⟩; have H2 := hid (H1.out.trans (hb2.mono H1.out.size)); have hh2 := (hb2.block _ (lt_of_heap HZ.out)).trans HZ.out; clear y0 y1 y2 y3 y4 y5 y6 y7 y8; obtain ⟨y0, y1, y2, y3, y4, y5, y6, y7, y8⟩ := bd_cells hh2; clear hb2 HH hh2))
          try rw [Exit.noGoto_ret]
          go_ret
          rw [HS.out]
          exact ⟨rfl, HB.out.1.trans (H2.out.mono HB.out.1.size)⟩
    · have hltI : ¬ (i : Int) < (n : Int) := by omega
      have HS := hid hsame
      have H1 := hid hbr
      clear hsame hbr
      go_wp2
      try rw [Exit.noGoto_ret]
      go_ret
      rw [HS.out, List.drop_of_length_le (by have := HE.out.len; omega)]
      exact ⟨rfl, HB.out.1.trans (H1.out.mono HB.out.1.size)⟩

set_option maxRecDepth 100000 in
set_option maxHeartbeats 3200000 in
theorem least_rg {w : World} {b off n cap : Nat} {ao : Option Addr} {os : List (Bd × List Pp)} (h : BrE w b off n ao os) (bv : Value) {y : Bd} {g : Nat} (hg : w.heap[g]? = some (bdO y)) (qx qy : Int) :
    Calls Tryz.prog 95 #[.agg #[bv, .slice ao n cap], pv qx qy, .func (.func 97) #[] #[.pointer (some ⟨g, 0, none⟩)]] w fun e w' => e = .returned (.int .i64 (leastF (fun z => !(z.pt == y.pt)) (qx, qy) os)) ∧ Below w.heap.size w w' := by
  obtain ⟨wA, hwA⟩ : ∃ wA, w.alloc (.cells #[bv, .slice ao n cap] 101) = wA := ⟨_, rfl⟩
  have hbA : Below w.heap.size w wA := by rw [← hwA]; exact (Below.refl _ w).alloc (Nat.le_refl _) _
  have hhA : wA.heap[w.heap.size]? = some (.cells #[bv, .slice ao n cap] 101 (0, 0)) := by rw [← hwA]; exact World.alloc_heap_new w _
  obtain ⟨wB, hwB⟩ : ∃ wB, wA.alloc (.cells #[.int .i64 qx, .int .i64 qy] 23) = wB := ⟨_, rfl⟩
  have hbB : Below wA.heap.size wA wB := by rw [← hwB]; exact (Below.refl _ wA).alloc (Nat.le_refl _) _
  have hhB : wB.heap[wA.heap.size]? = some (.cells #[.int .i64 qx, .int .i64 qy] 23 (0, 0)) := by rw [← hwB]; exact World.alloc_heap_new wA _
  have hh2 := (hbB.block _ (lt_of_heap hhA)).trans hhA
  have hb : Below w.heap.size w wB := hbA.trans (hbB.mono hbA.size)
  have s1 : wB.cell? ⟨w.heap.size, 1, none⟩ = some (.slice ao n cap) := by simp [World.cell?, hh2]
  have HE := hid (h.below hb)
  have HB := hid (And.intro hb hhB)
  have hfew := h.few
  have HG := hid ((hb.block _ (lt_of_heap hg)).trans hg)
  clear hg
  clear h hbA hhA hbB hhB hh2 hb
  go_enter Tryz.func95, Tryz.ntmps95
  go_wp2
  go_step3
  go_wp2
  go_step3
  go_wp2
  go_loopw [7, 9, 13] (fun nv _ iv wr => ∃ i : Nat, i ≤ n ∧ nv = .int .i64 0 ∧ iv = .int .i64 (i : Int) ∧ leastF (fun z => !(z.pt == y.pt)) (qx, qy) os = leastF (fun z => !(z.pt == y.pt)) (qx, qy) (os.drop i) ∧ Below wB.heap.size wB wr) (fun _ _ iv _ => n - (intOf iv).toNat)
  case atStart => exact ⟨0, Nat.zero_le _, rfl, rfl, rfl, Below.refl _ _⟩
  case round =>
    obtain ⟨i, hi, rfl, rfl, hsame, hbr⟩ := hrel
    by_cases hlt : i < n
    · have hltI : (i : Int) < (n : Int) := by omega
      obtain ⟨⟨x, ps⟩, hx⟩ : ∃ y, os[i]? = some y := ⟨os[i]'(by have := HE.out.len; omega), by rw [List.getElem?_eq_getElem]⟩
      obtain rfl := HE.out.at' (by omega)
      obtain ⟨hc, hsr, hpl⟩ := HE.out.cells i x ps hx
      obtain ⟨a0, a1, a2, a3, a4, a5, a6, a7, a8⟩ := hc.below hbr (lt_of_cell hc.1)
      rw [leastF_at hx] at hsame
      obtain ⟨Wb, hWb⟩ : ∃ Wb, wr.alloc (bdO x) = Wb := ⟨_, rfl⟩
      have hbW : Below wr.heap.size wr Wb := by rw [← hWb]; exact (Below.refl _ wr).alloc (Nat.le_refl _) _
      have hhW : Wb.heap[wr.heap.size]? = some (bdO x) := by rw [← hWb]; exact bd_new wr x
      have hBW : Below wB.heap.size wB Wb := hbr.trans (hbW.mono hbr.size)
      obtain ⟨y0, y1, y2, y3, y4, y5, y6, y7, y8⟩ := bd_cells hhW
      have HC1 := hid (region1_any x y ((hBW.block _ (lt_of_heap HG.out)).trans HG.out))
      have HX := hid (And.intro hBW (And.intro hhW (And.intro hsr hpl)))
      obtain ⟨am, ham⟩ : ∃ am, (!(x.pt == y.pt)) = am := ⟨_, rfl⟩
      rw [ham] at hsame HC1
      clear hc hsr hpl hbW hhW hBW hbr hx ham
      cases am with
      | false =>
        rw [Bool.false_and, if_neg Bool.false_ne_true] at hsame
        have HS := hid hsame
        clear hsame
        go_wp2_with (first
          | (go_at_call 97; refine HC1.out.mono ?_; rintro e w1 ⟨rfl, hb1⟩; have H1 := hid (HX.out.1.trans (hb1.mono HX.out.1.size)); clear hb1 HC1))
        go_roundw
        case rel => exact ⟨i + 1, by omega, rfl, by go_num, HS.out, H1.out⟩
        case measure => simp [intOf]; omega
      | true =>
        rw [Bool.true_and] at hsame
        obtain ⟨hd, hhd⟩ : ∃ hd, holdsB x ps (qx, qy) = hd := ⟨_, rfl⟩
        have HH := hid (show ∀ W : World, Below wB.heap.size wB W → Calls Tryz.prog 124 #[bdV x, pv qx qy] W fun e w' => e = .returned (.bool hd) ∧ Below W.heap.size W w' from fun W hW => by rw [← hhd]; exact holds_any x (HX.out.2.2.1.below hW) HX.out.2.2.2 qx qy)
        rw [hhd] at hsame
        clear hhd
        cases hd with
        | false =>
          rw [if_neg Bool.false_ne_true] at hsame
          have HS := hid hsame
          clear hsame
          go_wp2_with (first
            | (go_at_call 97; refine HC1.out.mono ?_; rintro e w1 ⟨rfl, hb1⟩; have hh1 := (hb1.block _ (lt_of_heap HX.out.2.1)).trans HX.out.2.1; have H1 := hid (HX.out.1.trans (hb1.mono HX.out.1.size)); clear y0 y1 y2 y3 y4 y5 y6 y7 y8; obtain ⟨y0, y1, y2, y3, y4, y5, y6, y7, y8⟩ := bd_cells hh1; have hq1 := (H1.out.block _ (lt_of_heap HB.out.2)).trans HB.out.2; have p0 : w1.cell? ⟨wA.heap.size, 0, none⟩ = some (.int .i64 qx) := (by simp [World.cell?, hq1]); have p1 : w1.cell? ⟨wA.heap.size, 1, none⟩ = some (.int .i64 qy) := (by simp [World.cell?, hq1]); clear hb1 HC1 hh1 hq1)
            | (go_at_call 124; refine (HH.out _ H1.out).mono ?_; rintro e w2 ⟨rfl, hb2⟩; have H2 := hid (H1.out.trans (hb2.mono H1.out.size)); clear hb2 HH))
          go_roundw
          case rel => exact ⟨i + 1, by omega, rfl, by go_num, HS.out, H2.out⟩
          case measure => simp [intOf]; omega
        | true =>
          rw [if_pos rfl] at hsame
          have HS := hid hsame
          clear hsame
          go_wp2_with (first
            | (go_at_call 97; refine HC1.out.mono ?_; rintro e w1 ⟨rfl, hb1⟩; have hh1 := (hb1.block _ (lt_of_heap HX.out.2.1)).trans HX.out.2.1; have H1 := hid (HX.out.1.trans (hb1.mono HX.out.1.size)); clear y0 y1 y2 y3 y4 y5 y6 y7 y8; obtain ⟨y0, y1, y2, y3, y4, y5, y6, y7, y8⟩ := bd_cells hh1; have hq1 := (H1.out.block _ (lt_of_heap HB.out.2)).trans HB.out.2; have p0 : w1.cell? ⟨wA.heap.size, 0, none⟩ = some (.int .i64 qx) := (by simp [World.cell?, hq1]); have p1 : w1.cell? ⟨wA.heap.size, 1, none⟩ = some (.int .i64 qy) := (by simp [World.cell?, hq1]); have HZ := hid hh1; clear hb1 HC1 hh1 hq1)
            | (go_at_call 124; refine (HH.out _ H1.out).mono ?_; rintro e w2 ⟨rfl, hb2⟩; have H2 := hid (H1.out.trans (hb2.mono H1.out.size)); have hh2 := (hb2.block _ (lt_of_heap HZ.out)).trans HZ.out; clear y0 y1 y2 y3 y4 y5 y6 y7 y8; obtain ⟨y0, y1, y2, y3, y4, y5, y6, y7, y8⟩ := bd_cells hh2; clear hb2 HH hh2))
          try rw [Exit.noGoto_ret]
          go_ret
          rw [HS.out]
          exact ⟨rfl, HB.out.1.trans (H2.out.mono HB.out.1.size)⟩
    · have hltI : ¬ (i : Int) < (n : Int) := by omega
      have HS := hid hsame
      have H1 := hid hbr
      clear hsame hbr
      go_wp2
      try rw [Exit.noGoto_ret]
      go_ret
      rw [HS.out, List.drop_of_length_le (by have := HE.out.len; omega)]
      exact ⟨rfl, HB.out.1.trans (H1.out.mono HB.out.1.size)⟩
end Go.Proofs.YtkdnkmheidbfdaaGreat
