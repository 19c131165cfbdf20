/-
  Layer 14: plan's Degree.
-/
import Derived.Test.YtkdnkmheidbfdaaGreatPLNodeW
namespace Go.Proofs.YtkdnkmheidbfdaaGreat
open Go.RowKit Go.Shelf Go.Sort

theorem PlE.below {w w' : World} {b off n : Nat} {ao : Option Addr} {xs : List ER} {ls : List (List Pp)} (h : PlE w b off n ao xs ls) (hb : Below w.heap.size w w') : PlE w' b off n ao xs ls :=
  ⟨h.len, h.few, h.deg, fun k x hx => (h.cells k x hx).below hb (h.cells k x hx).lt, h.rise, h.at', h.nil, h.ids, h.nodes, h.short, fun k x hx => by
    obtain ⟨l1, l2⟩ := h.lines k x hx
    refine ⟨l1.below hb, fun a ha => ?_⟩
    obtain ⟨c, f, hc⟩ := l2 a ha
    exact ⟨c, f, (hb.block _ (lt_of_heap hc)).trans hc⟩⟩
/-- All leads of a plan. -/
def allLd (xs : List ER) (ls : List (List Pp)) : List LdT := (List.range (2 * xs.length)).map (ldT xs ls)


set_option maxRecDepth 100000 in
set_option maxHeartbeats 1600000 in
theorem degree_any {w : World} {b off n cap : Nat} {ao : Option Addr} {xs : List ER} {ls : List (List Pp)} (h : PlE w b off n ao xs ls) (no : Option Addr) (nl nc : Nat) (node : Int) (h0 : -9223372036854775808 ≤ node) (h1 : node ≤ 9223372036854775807) :
    Calls Tryz.prog 73 #[plV (.slice no nl nc) (.slice ao n cap), .int .i64 node] w fun e w' => e = .returned (.int .i64 ((grp (allLd xs ls) node).length : Nat)) ∧ Below w.heap.size w w' := by
  obtain ⟨wA, hwA⟩ : ∃ wA, w.alloc (.cells #[.slice no nl nc, .slice ao n cap] 32) = wA := ⟨_, rfl⟩
  have hbA : Below w.heap.size w wA := by rw [← hwA]; exact (Below.refl _ w).alloc (Nat.le_refl _) _
  have hhA : wA.heap[w.heap.size]? = some (.cells #[.slice no nl nc, .slice ao n cap] 32) := by rw [← hwA]; unfold World.alloc; simp
  have c0 : wA.cell? ⟨w.heap.size, 0, none⟩ = some (.slice no nl nc) := by simp [World.cell?, hhA]
  have c1 : wA.cell? ⟨w.heap.size, 1, none⟩ = some (.slice ao n cap) := by simp [World.cell?, hhA]
  have hA : PlE wA b off n ao xs ls := ⟨h.len, h.few, h.deg, fun k x hx => (h.cells k x hx).below hbA (h.cells k x hx).lt, h.rise, h.at', h.nil, h.ids, h.nodes, h.short, fun k x hx => by
    obtain ⟨l1, l2⟩ := h.lines k x hx
    refine ⟨l1.below hbA, fun a ha => ?_⟩
    obtain ⟨c, f, hc⟩ := l2 a ha
    exact ⟨c, f, (hbA.block _ (lt_of_heap hc)).trans hc⟩⟩
  have HBN := hid (byNode_any (cap := cap) hA no nl nc)
  have HLEN := hid h.len
  have HBA := hid hbA
  clear hA h hbA hhA
  go_enter Tryz.func73, Tryz.ntmps73
  go_wp2_with (first
    | (go_at_call 108; refine HBN.out.mono ?_; rintro e w1 ⟨B, f, rfl, hm, hr, _, _, hb1⟩; have hlk := hm.look Tryz.underlying142 (zeroL w1) h0 h1; obtain ⟨ao1, cap1, hf1⟩ := (hr node).form; rw [hf1] at hlk; have HB1 := hid (HBA.out.trans (hb1.mono HBA.out.size)); clear HBN hm hr hb1 hf1))
  go_ret
  unfold allLd
  rw [HLEN.out]
  exact ⟨rfl, HB1.out⟩

end Go.Proofs.YtkdnkmheidbfdaaGreat

namespace Go.Proofs.YtkdnkmheidbfdaaGreat
open Go.RowKit Go.Shelf Go.Sort

set_option maxRecDepth 100000 in
set_option maxHeartbeats 1600000 in
theorem first1_any (x : ER) (id : Int) (Bi : Nat) (w : World) (hi : w.cell? ⟨Bi, 0, none⟩ = some (.int .i64 id)) :
    Calls Tryz.prog 72 #[erV x, .pointer (some ⟨Bi, 0, none⟩)] w fun e w' => e = .returned (.bool (x.id == id)) ∧ Below w.heap.size w w' := by
  obtain ⟨wA, hwA⟩ : ∃ wA, w.alloc (.cells #[.int .i64 x.id, .int .i64 x.st, .int .i64 x.en, .slice x.lo x.ll x.lc, .int .i64 x.lf, .int .i64 x.rt] 29) = wA := ⟨_, rfl⟩
  have hbA : Below w.heap.size w wA := by rw [← hwA]; exact (Below.refl _ w).alloc (Nat.le_refl _) _
  obtain ⟨c0, _⟩ : EAt wA w.heap.size 0 x := by rw [← hwA]; exact ebox w x _
  have ci := cell_below hi hbA (lt_of_cell hi)
  have HB := hid hbA
  clear hbA hi
  go_enter Tryz.func72, Tryz.ntmps72
  go_wp2
  go_ret
  exact ⟨rfl, HB.out⟩
/-- Where the first edge of an ID stands; below nought: there is none. -/
def idxF (id : Int) : List ER → Nat → Int
  | [], _ => -1
  | x :: xs, k => if x.id = id then (k : Int) else idxF id xs (k + 1)
theorem idxF_at (id : Int) {xs : List ER} {k : Nat} {x : ER} (hx : xs[k]? = some x) : idxF id (xs.drop k) k = if x.id = id then (k : Int) else idxF id (xs.drop (k + 1)) (k + 1) := by
  have hk := (List.getElem?_eq_some_iff.1 hx).1
  have e : xs.drop k = x :: xs.drop (k + 1) := by
    rw [List.drop_eq_getElem_cons hk]
    congr 1
    exact (List.getElem?_eq_some_iff.1 hx).2
  rw [e, idxF]

set_option maxRecDepth 100000 in
set_option maxHeartbeats 1600000 in
theorem indexE_any {w : World} {b off n cap : Nat} {xs : List ER} (hn : xs.length = n) (hl : n ≤ 100000) (h : EAts w b off xs) {ao : Option Addr} (hao : 1 ≤ n → ao = some ⟨b, off, none⟩) (id : Int) (Bi : Nat) (hi : w.cell? ⟨Bi, 0, none⟩ = some (.int .i64 id)) :
    Calls Tryz.prog 71 #[.slice ao n cap, .func (.func 72) #[] #[.pointer (some ⟨Bi, 0, none⟩)]] w fun e w' => e = .returned (.int .i64 (idxF id xs 0)) ∧ Below w.heap.size w w' := by
  have HN := hid hn
  have HX := hid h
  have HAO := hid hao
  have HI := hid hi
  clear hn h hao hi
  go_enter Tryz.func71, Tryz.ntmps71
  go_wp2
  go_loopw [5, 8] (fun _ iv wr => ∃ k : Nat, k ≤ n ∧ iv = .int .i64 (k : Int) ∧ idxF id xs 0 = idxF id (xs.drop k) k ∧ Below w.heap.size w wr) (fun _ iv _ => n - (intOf iv).toNat)
  case atStart => exact ⟨0, Nat.zero_le _, rfl, by rw [List.drop_zero], Below.refl _ _⟩
  case round =>
    obtain ⟨k, hk, rfl, hix, hbr⟩ := hrel
    have HBR := hid hbr
    have HIX := hid hix
    clear hbr hix
    by_cases hlt : k < n
    · have hltI : (k : Int) < (n : Int) := by omega
      obtain ⟨x, hx⟩ : ∃ x, xs[k]? = some x := ⟨xs[k]'(by have := HN.out; omega), by rw [List.getElem?_eq_getElem]⟩
      obtain rfl := HAO.out (by omega)
      have hx0 := HX.out k x hx
      obtain ⟨a0, a1, a2, a3, a4, a5⟩ := hx0.below HBR.out hx0.lt
      have hci := cell_below HI.out HBR.out (lt_of_cell HI.out)
      have HC := hid (first1_any x id Bi wr hci)
      have HA := hid (idxF_at id hx)
      clear hx hx0 hci
      by_cases he : x.id = id
      · have heb : (x.id == id) = true := by simp [he]
        rw [heb] at HC
        have HE := hid (show idxF id xs 0 = (k : Int) by rw [HIX.out, HA.out, if_pos he])
        clear he heb
        go_wp2_with (first
          | (go_at_call 72; refine HC.out.mono ?_; rintro e w1 ⟨rfl, hb1⟩; have HB1 := hid (HBR.out.trans (hb1.mono HBR.out.size)); clear hb1 HC))
        go_ret
        rw [HE.out]; exact ⟨rfl, HB1.out⟩
      · have heb : (x.id == id) = false := by simp [he]
        rw [heb] at HC
        have HE := hid (show idxF id xs 0 = idxF id (xs.drop (k + 1)) (k + 1) by rw [HIX.out, HA.out, if_neg he])
        clear he heb
        go_wp2_with (first
          | (go_at_call 72; refine HC.out.mono ?_; rintro e w1 ⟨rfl, hb1⟩; have HB1 := hid (HBR.out.trans (hb1.mono HBR.out.size)); clear hb1 HC))
        go_roundw
        case rel => exact ⟨k + 1, by omega, by go_num, HE.out, HB1.out⟩
        case measure => simp [intOf]; omega
    · have hltI : ¬ (k : Int) < (n : Int) := by omega
      have HE := hid (show idxF id xs 0 = -1 by rw [HIX.out, List.drop_of_length_le (by have := HN.out; omega)]; rfl)
      go_wp2
      go_ret
      rw [HE.out]; exact ⟨rfl, HBR.out⟩
end Go.Proofs.YtkdnkmheidbfdaaGreat

namespace Go.Proofs.YtkdnkmheidbfdaaGreat
open Go.RowKit Go.Shelf Go.Sort

/-- The first edge of an ID. -/
def fstE (id : Int) (xs : List ER) : Option ER := xs.find? (fun x => x.id == id)
theorem idxF_find (id : Int) : ∀ (xs : List ER) (k : Nat), (fstE id xs = none ∧ idxF id xs k = -1) ∨ ∃ (j : Nat) (x : ER), xs[j]? = some x ∧ fstE id xs = some x ∧ idxF id xs k = ((k + j : Nat) : Int)
  | [], _ => Or.inl ⟨rfl, rfl⟩
  | x :: xs, k => by
    by_cases he : x.id = id
    · exact Or.inr ⟨0, x, rfl, by simp [fstE, he], by simp [idxF, he]⟩
    · have hf : fstE id (x :: xs) = fstE id xs := by simp [fstE, he]
      have hi : idxF id (x :: xs) k = idxF id xs (k + 1) := by simp [idxF, he]
      rw [hf, hi]
      rcases idxF_find id xs (k + 1) with h | ⟨j, y, h1, h2, h3⟩
      · exact Or.inl h
      · exact Or.inr ⟨j + 1, y, by simpa using h1, h2, by rw [h3]; congr 1; omega⟩
/-- The edge of noughts. -/
def noE : ER := ⟨0, 0, 0, none, 0, 0, 0, 0⟩

theorem EAts.belowAll {w w' : World} {b off : Nat} {xs : List ER} (h : EAts w b off xs) (hb : Below w.heap.size w w') : EAts w' b off xs := fun k x hx => (h k x hx).below hb (h k x hx).lt

theorem heap_put {W : World} {b : Nat} {c : Array Value} {t : TypeId} (hh : W.heap[b]? = some (.cells c t)) (k : Nat) (v : Value) : (W.setCell ⟨b, k, none⟩ v).heap[b]? = some (.cells (c.setIfInBounds k v) t) := by
  simp [World.setCell, Array.getElem?_modify, hh]
/-- An edge set in a box. -/
theorem eset {w W V : World} {n b : Nat} {c0 c1 c2 c3 c4 c5 : Value} {t : TypeId} (x : ER) (hh : W.heap[b]? = some (.cells #[c0, c1, c2, c3, c4, c5] t)) (h : Below n w W) (hb : n ≤ b)
    (hV : (((((W.setCell ⟨b, 0, none⟩ (.int .i64 x.id)).setCell ⟨b, 1, none⟩ (.int .i64 x.st)).setCell ⟨b, 2, none⟩ (.int .i64 x.en)).setCell ⟨b, 3, none⟩ (.slice x.lo x.ll x.lc)).setCell ⟨b, 4, none⟩ (.int .i64 x.lf)).setCell ⟨b, 5, none⟩ (.int .i64 x.rt) = V) :
    EAt V b 0 x ∧ Below n w V ∧ V.heap[b]? = some (.cells #[.int .i64 x.id, .int .i64 x.st, .int .i64 x.en, .slice x.lo x.ll x.lc, .int .i64 x.lf, .int .i64 x.rt] t) := by
  subst hV
  refine ⟨?_, (((((h.setCell (p := ⟨b, 0, none⟩) hb _).setCell (p := ⟨b, 1, none⟩) hb _).setCell (p := ⟨b, 2, none⟩) hb _).setCell (p := ⟨b, 3, none⟩) hb _).setCell (p := ⟨b, 4, none⟩) hb _).setCell (p := ⟨b, 5, none⟩) hb _, heap_put (heap_put (heap_put (heap_put (heap_put (heap_put hh 0 _) 1 _) 2 _) 3 _) 4 _) 5 _⟩
  have h6 := heap_put (heap_put (heap_put (heap_put (heap_put (heap_put hh 0 (.int .i64 x.id)) 1 (.int .i64 x.st)) 2 (.int .i64 x.en)) 3 (.slice x.lo x.ll x.lc)) 4 (.int .i64 x.lf)) 5 (.int .i64 x.rt)
  generalize World.setCell _ _ _ = V at h6 ⊢
  refine ⟨?_, ?_, ?_, ?_, ?_, ?_⟩ <;> simp [World.cell?, h6]

set_option maxRecDepth 100000 in
set_option maxHeartbeats 1600000 in
theorem first_any {w : World} {b off n cap : Nat} {xs : List ER} (hn : xs.length = n) (hl : n ≤ 100000) (h : EAts w b off xs) {ao : Option Addr} (hao : 1 ≤ n → ao = some ⟨b, off, none⟩) (no : Option Addr) (nl nc : Nat) (id : Int) :
    Calls Tryz.prog 45 #[plV (.slice no nl nc) (.slice ao n cap), .int .i64 id] w fun e w' => e = .returned (.tuple #[erV ((fstE id xs).getD noE), .bool (fstE id xs).isSome]) ∧ Below w.heap.size w w' := by
  obtain ⟨wA, hwA⟩ : ∃ wA, w.alloc (.cells #[.slice no nl nc, .slice ao n cap] 32) = wA := ⟨_, rfl⟩
  have hbA : Below w.heap.size w wA := by rw [← hwA]; exact (Below.refl _ w).alloc (Nat.le_refl _) _
  have hsA : wA.heap.size = w.heap.size + 1 := by rw [← hwA]; exact Array.size_push _
  have hhA : wA.heap[w.heap.size]? = some (.cells #[.slice no nl nc, .slice ao n cap] 32) := by rw [← hwA]; unfold World.alloc; simp
  have c0 : wA.cell? ⟨w.heap.size, 0, none⟩ = some (.slice no nl nc) := by simp [World.cell?, hhA]
  have c1 : wA.cell? ⟨w.heap.size, 1, none⟩ = some (.slice ao n cap) := by simp [World.cell?, hhA]
  obtain ⟨wB, hwB⟩ : ∃ wB, wA.alloc (.cells #[.int .i64 id] 3) = wB := ⟨_, rfl⟩
  have hbB : Below wA.heap.size wA wB := by rw [← hwB]; exact (Below.refl _ wA).alloc (Nat.le_refl _) _
  have hsB : wB.heap.size = w.heap.size + 1 + 1 := by rw [← hwB, ← hsA]; exact Array.size_push _
  have hhB : wB.heap[w.heap.size + 1]? = some (.cells #[.int .i64 id] 3) := by rw [← hwB, ← hsA]; unfold World.alloc; simp
  have i0 : wB.cell? ⟨w.heap.size + 1, 0, none⟩ = some (.int .i64 id) := by simp [World.cell?, hhB]
  obtain ⟨wC, hwC⟩ : ∃ wC, wB.alloc (.cells #[.int .i64 0, .int .i64 0, .int .i64 0, .slice none 0 0, .int .i64 0, .int .i64 0] 29) = wC := ⟨_, rfl⟩
  have hbC : Below wB.heap.size wB wC := by rw [← hwC]; exact (Below.refl _ wB).alloc (Nat.le_refl _) _
  have hsC : wC.heap.size = w.heap.size + 1 + 1 + 1 := by rw [← hwC, ← hsB]; exact Array.size_push _
  have hhC : wC.heap[w.heap.size + 1 + 1]? = some (.cells #[.int .i64 0, .int .i64 0, .int .i64 0, .slice none 0 0, .int .i64 0, .int .i64 0] 29) := by rw [← hwC, ← hsB]; unfold World.alloc; simp
  have hBC : Below w.heap.size w wC := (hbA.trans (hbB.mono (by omega))).trans (hbC.mono (by omega))
  have hAC : Below wA.heap.size wA wC := hbB.trans (hbC.mono (by omega))
  have c1C := cell_below c1 hAC (by omega)
  have iC := cell_below i0 hbC (by omega)
  have HC0 := hid (indexE_any (cap := cap) hn hl (h.belowAll hBC) hao id _ iC)
  have HBC := hid hBC
  have HHC := hid hhC
  have HSC := hid hsC
  rcases idxF_find id xs 0 with ⟨hf, hix⟩ | ⟨j, x, hx, hf, hix⟩
  · rw [hf]
    have HC := hid HC0.out
    rw [hix] at HC
    clear hn h hao hbA hhA hbB hhB hbC hhC hBC hAC HC0 hf hix
    go_enter Tryz.func45, Tryz.ntmps45
    go_wp2_with (first
      | (go_at_call 71; refine HC.out.mono ?_; rintro e w1 ⟨rfl, hb1⟩; have h1h := (hb1.block _ (by rw [HSC.out]; exact Nat.lt_succ_self _)).trans HHC.out; have z0 : w1.cell? ⟨w.heap.size + 1 + 1, 0, none⟩ = some (.int .i64 0) := (by simp [World.cell?, h1h]); have f0 : w1.frozen? ⟨w.heap.size + 1 + 1, 0, none⟩ = false := (by simp [World.frozen?, h1h]); have z1 : w1.cell? ⟨w.heap.size + 1 + 1, 1, none⟩ = some (.int .i64 0) := (by simp [World.cell?, h1h]); have f1 : w1.frozen? ⟨w.heap.size + 1 + 1, 1, none⟩ = false := (by simp [World.frozen?, h1h]); have z2 : w1.cell? ⟨w.heap.size + 1 + 1, 2, none⟩ = some (.int .i64 0) := (by simp [World.cell?, h1h]); have f2 : w1.frozen? ⟨w.heap.size + 1 + 1, 2, none⟩ = false := (by simp [World.frozen?, h1h]); have z3 : w1.cell? ⟨w.heap.size + 1 + 1, 3, none⟩ = some (.slice none 0 0) := (by simp [World.cell?, h1h]); have f3 : w1.frozen? ⟨w.heap.size + 1 + 1, 3, none⟩ = false := (by simp [World.frozen?, h1h]); have z4 : w1.cell? ⟨w.heap.size + 1 + 1, 4, none⟩ = some (.int .i64 0) := (by simp [World.cell?, h1h]); have f4 : w1.frozen? ⟨w.heap.size + 1 + 1, 4, none⟩ = false := (by simp [World.frozen?, h1h]); have z5 : w1.cell? ⟨w.heap.size + 1 + 1, 5, none⟩ = some (.int .i64 0) := (by simp [World.cell?, h1h]); have f5 : w1.frozen? ⟨w.heap.size + 1 + 1, 5, none⟩ = false := (by simp [World.frozen?, h1h]); have c1D := cell_below c1C hb1 (by rw [HSC.out]; omega); have HB1 := hid (HBC.out.trans (hb1.mono HBC.out.size)); have HH1 := hid h1h; clear hb1 HC h1h))
    generalize hV : World.setCell _ _ _ = V
    obtain ⟨⟨r0, r1, r2, r3, r4, r5⟩, hbV, _⟩ := eset noE HH1.out HB1.out (by omega) hV
    exact bodyPost_ret (v := .tuple #[erV noE, .bool false]) (by simp [results, Tryz.results45, go_sem, r0, r1, r2, r3, r4, r5]) rfl ⟨rfl, hbV⟩
  · rw [hf]
    have HC := hid HC0.out
    rw [hix, Nat.zero_add] at HC
    have hj : j < n := by rw [← hn]; exact (List.getElem?_eq_some_iff.1 hx).1
    have hjI : (j : Int) < (n : Int) := by omega
    have hj0 : ¬ (j : Int) < 0 := by omega
    obtain rfl := hao (by omega)
    have HE := hid (h j x hx)
    clear hn h hao hbA hhA hbB hhB hbC hhC hBC hAC HC0 hf hix hx
    go_enter Tryz.func45, Tryz.ntmps45
    go_wp2_with (first
      | (go_at_call 71; refine HC.out.mono ?_; rintro e w1 ⟨rfl, hb1⟩; have h1h := (hb1.block _ (by rw [HSC.out]; exact Nat.lt_succ_self _)).trans HHC.out; have z0 : w1.cell? ⟨w.heap.size + 1 + 1, 0, none⟩ = some (.int .i64 0) := (by simp [World.cell?, h1h]); have f0 : w1.frozen? ⟨w.heap.size + 1 + 1, 0, none⟩ = false := (by simp [World.frozen?, h1h]); have z1 : w1.cell? ⟨w.heap.size + 1 + 1, 1, none⟩ = some (.int .i64 0) := (by simp [World.cell?, h1h]); have f1 : w1.frozen? ⟨w.heap.size + 1 + 1, 1, none⟩ = false := (by simp [World.frozen?, h1h]); have z2 : w1.cell? ⟨w.heap.size + 1 + 1, 2, none⟩ = some (.int .i64 0) := (by simp [World.cell?, h1h]); have f2 : w1.frozen? ⟨w.heap.size + 1 + 1, 2, none⟩ = false := (by simp [World.frozen?, h1h]); have z3 : w1.cell? ⟨w.heap.size + 1 + 1, 3, none⟩ = some (.slice none 0 0) := (by simp [World.cell?, h1h]); have f3 : w1.frozen? ⟨w.heap.size + 1 + 1, 3, none⟩ = false := (by simp [World.frozen?, h1h]); have z4 : w1.cell? ⟨w.heap.size + 1 + 1, 4, none⟩ = some (.int .i64 0) := (by simp [World.cell?, h1h]); have f4 : w1.frozen? ⟨w.heap.size + 1 + 1, 4, none⟩ = false := (by simp [World.frozen?, h1h]); have z5 : w1.cell? ⟨w.heap.size + 1 + 1, 5, none⟩ = some (.int .i64 0) := (by simp [World.cell?, h1h]); have f5 : w1.frozen? ⟨w.heap.size + 1 + 1, 5, none⟩ = false := (by simp [World.frozen?, h1h]); have c1D := cell_below c1C hb1 (by rw [HSC.out]; omega); have HB1 := hid (HBC.out.trans (hb1.mono HBC.out.size)); have hlB := HE.out.lt; obtain ⟨a0, a1, a2, a3, a4, a5⟩ := HE.out.below HB1.out hlB; have HH1 := hid h1h; clear hb1 HC h1h))
    generalize hV : World.setCell _ _ _ = V
    obtain ⟨⟨r0, r1, r2, r3, r4, r5⟩, hbV, _⟩ := eset x HH1.out HB1.out (by omega) hV
    exact bodyPost_ret (v := .tuple #[erV x, .bool true]) (by simp [results, Tryz.results45, go_sem, r0, r1, r2, r3, r4, r5]) rfl ⟨rfl, hbV⟩
end Go.Proofs.YtkdnkmheidbfdaaGreat

namespace Go.Proofs.YtkdnkmheidbfdaaGreat
open Go.RowKit Go.Shelf Go.Sort

/-- The edge of a way, and whether the way leads along it. -/
def edgeF (way : Int) (xs : List ER) : ER × Bool := match fstE way xs with
  | some x => (x, true)
  | none => ((fstE (-way) xs).getD noE, false)

set_option maxRecDepth 100000 in
set_option maxHeartbeats 1600000 in
theorem edgeOf_any {w : World} {b off n cap : Nat} {xs : List ER} (hn : xs.length = n) (hl : n ≤ 100000) (h : EAts w b off xs) {ao : Option Addr} (hao : 1 ≤ n → ao = some ⟨b, off, none⟩) (no : Option Addr) (nl nc : Nat) (way : Int) (hw0 : -9223372036854775807 ≤ way) (hw1 : way ≤ 9223372036854775807) :
    Calls Tryz.prog 121 #[plV (.slice no nl nc) (.slice ao n cap), .int .i64 way] w fun e w' => e = .returned (.tuple #[erV (edgeF way xs).1, .bool (edgeF way xs).2]) ∧ Below w.heap.size w w' := by
  obtain ⟨wA, hwA⟩ : ∃ wA, w.alloc (.cells #[.slice no nl nc, .slice ao n cap] 32) = wA := ⟨_, rfl⟩
  have hbA : Below w.heap.size w wA := by rw [← hwA]; exact (Below.refl _ w).alloc (Nat.le_refl _) _
  have hsA : wA.heap.size = w.heap.size + 1 := by rw [← hwA]; exact Array.size_push _
  have hhA : wA.heap[w.heap.size]? = some (.cells #[.slice no nl nc, .slice ao n cap] 32) := by rw [← hwA]; unfold World.alloc; simp
  obtain ⟨wB, hwB⟩ : ∃ wB, wA.alloc (.cells #[.int .i64 0, .int .i64 0, .int .i64 0, .slice none 0 0, .int .i64 0, .int .i64 0] 29) = wB := ⟨_, rfl⟩
  have hbB : Below wA.heap.size wA wB := by rw [← hwB]; exact (Below.refl _ wA).alloc (Nat.le_refl _) _
  have hsB : wB.heap.size = w.heap.size + 1 + 1 := by rw [← hwB, ← hsA]; exact Array.size_push _
  have hhB : wB.heap[w.heap.size + 1]? = some (.cells #[.int .i64 0, .int .i64 0, .int .i64 0, .slice none 0 0, .int .i64 0, .int .i64 0] 29) := by rw [← hwB, ← hsA]; unfold World.alloc; simp
  have hBB : Below w.heap.size w wB := hbA.trans (hbB.mono (by omega))
  have hhP := (hbB.block w.heap.size (by omega)).trans hhA
  have c0 : wB.cell? ⟨w.heap.size, 0, none⟩ = some (.slice no nl nc) := by simp [World.cell?, hhP]
  have c1 : wB.cell? ⟨w.heap.size, 1, none⟩ = some (.slice ao n cap) := by simp [World.cell?, hhP]
  have HF := hid (fun W (hW : Below w.heap.size w W) t => first_any (cap := cap) hn hl (h.belowAll hW) hao no nl nc t)
  have HBB := hid hBB
  have HHB := hid hhB
  have HSB := hid hsB
  unfold edgeF
  rcases hf : fstE way xs with _ | x
  · have HF1 := hid (HF.out wB hBB way)
    rw [hf] at HF1
    obtain ⟨y, hy⟩ : ∃ y, (fstE (-way) xs).getD noE = y := ⟨_, rfl⟩
    have HF2 := hid (fun W hW => HF.out W hW (-way))
    rw [hy] at HF2 ⊢
    clear hn h hao hbA hhA hbB hhB hBB hhP HF hf hy
    go_enter Tryz.func121, Tryz.ntmps121
    go_wp2_with (first
      | (go_at_call 45; refine HF1.out.mono ?_; rintro e w1 ⟨rfl, hb1⟩; have h1h := (hb1.block _ (by rw [HSB.out]; exact Nat.lt_succ_self _)).trans HHB.out; have z0 : w1.cell? ⟨w.heap.size + 1, 0, none⟩ = some (.int .i64 0) := (by simp [World.cell?, h1h]); have f0 : w1.frozen? ⟨w.heap.size + 1, 0, none⟩ = false := (by simp [World.frozen?, h1h]); have z1 : w1.cell? ⟨w.heap.size + 1, 1, none⟩ = some (.int .i64 0) := (by simp [World.cell?, h1h]); have f1 : w1.frozen? ⟨w.heap.size + 1, 1, none⟩ = false := (by simp [World.frozen?, h1h]); have z2 : w1.cell? ⟨w.heap.size + 1, 2, none⟩ = some (.int .i64 0) := (by simp [World.cell?, h1h]); have f2 : w1.frozen? ⟨w.heap.size + 1, 2, none⟩ = false := (by simp [World.frozen?, h1h]); have z3 : w1.cell? ⟨w.heap.size + 1, 3, none⟩ = some (.slice none 0 0) := (by simp [World.cell?, h1h]); have f3 : w1.frozen? ⟨w.heap.size + 1, 3, none⟩ = false := (by simp [World.frozen?, h1h]); have z4 : w1.cell? ⟨w.heap.size + 1, 4, none⟩ = some (.int .i64 0) := (by simp [World.cell?, h1h]); have f4 : w1.frozen? ⟨w.heap.size + 1, 4, none⟩ = false := (by simp [World.frozen?, h1h]); have z5 : w1.cell? ⟨w.heap.size + 1, 5, none⟩ = some (.int .i64 0) := (by simp [World.cell?, h1h]); have f5 : w1.frozen? ⟨w.heap.size + 1, 5, none⟩ = false := (by simp [World.frozen?, h1h]); have c0D := cell_below c0 hb1 (by rw [HSB.out]; omega); have c1D := cell_below c1 hb1 (by rw [HSB.out]; omega); have HB1 := hid (HBB.out.trans (hb1.mono HBB.out.size)); have HH1 := hid h1h; clear hb1 HF1 h1h)
      | (go_at_call 45; generalize hV : World.setCell _ _ _ = V; obtain ⟨_, hbV, hhV⟩ := eset noE HH1.out HB1.out (Nat.le_add_right _ _) hV; refine (HF2.out V hbV).mono ?_; rintro e w2 ⟨rfl, hb2⟩; have h2h := (hb2.block _ (lt_of_heap hhV)).trans hhV; have y0 : w2.cell? ⟨w.heap.size + 1, 0, none⟩ = some (.int .i64 noE.id) := (by simp [World.cell?, h2h]); have g0 : w2.frozen? ⟨w.heap.size + 1, 0, none⟩ = false := (by simp [World.frozen?, h2h]); have y1 : w2.cell? ⟨w.heap.size + 1, 1, none⟩ = some (.int .i64 noE.st) := (by simp [World.cell?, h2h]); have g1 : w2.frozen? ⟨w.heap.size + 1, 1, none⟩ = false := (by simp [World.frozen?, h2h]); have y2 : w2.cell? ⟨w.heap.size + 1, 2, none⟩ = some (.int .i64 noE.en) := (by simp [World.cell?, h2h]); have g2 : w2.frozen? ⟨w.heap.size + 1, 2, none⟩ = false := (by simp [World.frozen?, h2h]); have y3 : w2.cell? ⟨w.heap.size + 1, 3, none⟩ = some (.slice noE.lo noE.ll noE.lc) := (by simp [World.cell?, h2h]); have g3 : w2.frozen? ⟨w.heap.size + 1, 3, none⟩ = false := (by simp [World.frozen?, h2h]); have y4 : w2.cell? ⟨w.heap.size + 1, 4, none⟩ = some (.int .i64 noE.lf) := (by simp [World.cell?, h2h]); have g4 : w2.frozen? ⟨w.heap.size + 1, 4, none⟩ = false := (by simp [World.frozen?, h2h]); have y5 : w2.cell? ⟨w.heap.size + 1, 5, none⟩ = some (.int .i64 noE.rt) := (by simp [World.cell?, h2h]); have g5 : w2.frozen? ⟨w.heap.size + 1, 5, none⟩ = false := (by simp [World.frozen?, h2h]); have HB2 := hid (hbV.trans (hb2.mono hbV.size)); have HH2 := hid h2h; clear hb2 HF2 h2h hhV hbV hV HB1 HH1 z0 z1 z2 z3 z4 z5 f0 f1 f2 f3 f4 f5 c0D c1D))
    generalize hV1 : World.setCell (World.setCell (World.setCell (World.setCell (World.setCell (World.setCell w2 _ _) _ _) _ _) _ _) _ _) _ _ = V1
    obtain ⟨_, hbV1, hhV1⟩ := eset y HH2.out HB2.out (Nat.le_add_right _ _) hV1
    generalize hV2 : World.setCell _ _ _ = V2
    obtain ⟨⟨r0, r1, r2, r3, r4, r5⟩, hbV, _⟩ := eset y hhV1 hbV1 (Nat.le_add_right _ _) hV2
    exact bodyPost_ret (v := .tuple #[erV y, .bool false]) (by simp [results, Tryz.results121, go_sem, r0, r1, r2, r3, r4, r5]) rfl ⟨rfl, hbV⟩
  · have HF1 := hid (HF.out wB hBB way)
    rw [hf] at HF1
    clear hn h hao hbA hhA hbB hhB hBB hhP HF hf
    go_enter Tryz.func121, Tryz.ntmps121
    go_wp2_with (first
      | (go_at_call 45; refine HF1.out.mono ?_; rintro e w1 ⟨rfl, hb1⟩; have h1h := (hb1.block _ (by rw [HSB.out]; exact Nat.lt_succ_self _)).trans HHB.out; have z0 : w1.cell? ⟨w.heap.size + 1, 0, none⟩ = some (.int .i64 0) := (by simp [World.cell?, h1h]); have f0 : w1.frozen? ⟨w.heap.size + 1, 0, none⟩ = false := (by simp [World.frozen?, h1h]); have z1 : w1.cell? ⟨w.heap.size + 1, 1, none⟩ = some (.int .i64 0) := (by simp [World.cell?, h1h]); have f1 : w1.frozen? ⟨w.heap.size + 1, 1, none⟩ = false := (by simp [World.frozen?, h1h]); have z2 : w1.cell? ⟨w.heap.size + 1, 2, none⟩ = some (.int .i64 0) := (by simp [World.cell?, h1h]); have f2 : w1.frozen? ⟨w.heap.size + 1, 2, none⟩ = false := (by simp [World.frozen?, h1h]); have z3 : w1.cell? ⟨w.heap.size + 1, 3, none⟩ = some (.slice none 0 0) := (by simp [World.cell?, h1h]); have f3 : w1.frozen? ⟨w.heap.size + 1, 3, none⟩ = false := (by simp [World.frozen?, h1h]); have z4 : w1.cell? ⟨w.heap.size + 1, 4, none⟩ = some (.int .i64 0) := (by simp [World.cell?, h1h]); have f4 : w1.frozen? ⟨w.heap.size + 1, 4, none⟩ = false := (by simp [World.frozen?, h1h]); have z5 : w1.cell? ⟨w.heap.size + 1, 5, none⟩ = some (.int .i64 0) := (by simp [World.cell?, h1h]); have f5 : w1.frozen? ⟨w.heap.size + 1, 5, none⟩ = false := (by simp [World.frozen?, h1h]); have HB1 := hid (HBB.out.trans (hb1.mono HBB.out.size)); have HH1 := hid h1h; clear hb1 HF1 h1h))
    generalize hV1 : World.setCell (World.setCell (World.setCell (World.setCell (World.setCell (World.setCell w1 _ _) _ _) _ _) _ _) _ _) _ _ = V1
    obtain ⟨_, hbV1, hhV1⟩ := eset x HH1.out HB1.out (Nat.le_add_right _ _) hV1
    generalize hV2 : World.setCell _ _ _ = V2
    obtain ⟨⟨r0, r1, r2, r3, r4, r5⟩, hbV, _⟩ := eset x hhV1 hbV1 (Nat.le_add_right _ _) hV2
    exact bodyPost_ret (v := .tuple #[erV x, .bool true]) (by simp [results, Tryz.results121, go_sem, r0, r1, r2, r3, r4, r5]) rfl ⟨rfl, hbV⟩

set_option maxRecDepth 100000 in
set_option maxHeartbeats 1600000 in
theorem from_any {w : World} {b off n cap : Nat} {xs : List ER} (hn : xs.length = n) (hl : n ≤ 100000) (h : EAts w b off xs) {ao : Option Addr} (hao : 1 ≤ n → ao = some ⟨b, off, none⟩) (no : Option Addr) (nl nc : Nat) (way : Int) (hw0 : -9223372036854775807 ≤ way) (hw1 : way ≤ 9223372036854775807) :
    Calls Tryz.prog 91 #[plV (.slice no nl nc) (.slice ao n cap), .int .i64 way] w fun e w' => e = .returned (.int .i64 (if (edgeF way xs).2 then (edgeF way xs).1.st else (edgeF way xs).1.en)) ∧ Below w.heap.size w w' := by
  have HF := hid (fun W (hW : Below w.heap.size w W) => edgeOf_any (cap := cap) hn hl (h.belowAll hW) hao no nl nc way hw0 hw1)
  rcases hf : edgeF way xs with ⟨x, t⟩
  rw [hf] at HF
  obtain ⟨wA, hwA⟩ : ∃ wA, w.alloc (.cells #[.slice no nl nc, .slice ao n cap] 32) = wA := ⟨_, rfl⟩
  have hbA : Below w.heap.size w wA := by rw [← hwA]; exact (Below.refl _ w).alloc (Nat.le_refl _) _
  have hhA : wA.heap[w.heap.size]? = some (.cells #[.slice no nl nc, .slice ao n cap] 32) := by rw [← hwA]; unfold World.alloc; simp
  have c0 : wA.cell? ⟨w.heap.size, 0, none⟩ = some (.slice no nl nc) := by simp [World.cell?, hhA]
  have c1 : wA.cell? ⟨w.heap.size, 1, none⟩ = some (.slice ao n cap) := by simp [World.cell?, hhA]
  have HBA := hid hbA
  clear hn h hao hf hbA hhA
  rcases t with _ | _
  · go_enter Tryz.func91, Tryz.ntmps91
    go_wp2_with (first
      | (go_at_call 121; refine (HF.out _ HBA.out).mono ?_; rintro e w1 ⟨rfl, hb1⟩; obtain ⟨w2, hw2⟩ : ∃ w2, w1.alloc (.cells #[.int .i64 x.id, .int .i64 x.st, .int .i64 x.en, .slice x.lo x.ll x.lc, .int .i64 x.lf, .int .i64 x.rt] 29) = w2 := ⟨_, rfl⟩; have hb2 : Below w1.heap.size w1 w2 := (by rw [← hw2]; exact (Below.refl _ w1).alloc (Nat.le_refl _) _); obtain ⟨r0, r1, r2, r3, r4, r5⟩ : EAt w2 w1.heap.size 0 x := (by rw [← hw2]; exact ebox w1 x _); have HB1 := hid (HBA.out.trans (hb1.mono HBA.out.size)); have HB2 := hid (HB1.out.trans (hb2.mono HB1.out.size)); clear hb1 hb2 HF))
    go_ret
    exact ⟨rfl, HB2.out⟩
  · go_enter Tryz.func91, Tryz.ntmps91
    go_wp2_with (first
      | (go_at_call 121; refine (HF.out _ HBA.out).mono ?_; rintro e w1 ⟨rfl, hb1⟩; obtain ⟨w2, hw2⟩ : ∃ w2, w1.alloc (.cells #[.int .i64 x.id, .int .i64 x.st, .int .i64 x.en, .slice x.lo x.ll x.lc, .int .i64 x.lf, .int .i64 x.rt] 29) = w2 := ⟨_, rfl⟩; have hb2 : Below w1.heap.size w1 w2 := (by rw [← hw2]; exact (Below.refl _ w1).alloc (Nat.le_refl _) _); obtain ⟨r0, r1, r2, r3, r4, r5⟩ : EAt w2 w1.heap.size 0 x := (by rw [← hw2]; exact ebox w1 x _); have HB1 := hid (HBA.out.trans (hb1.mono HBA.out.size)); have HB2 := hid (HB1.out.trans (hb2.mono HB1.out.size)); clear hb1 hb2 HF))
    go_ret
    exact ⟨rfl, HB2.out⟩
end Go.Proofs.YtkdnkmheidbfdaaGreat
