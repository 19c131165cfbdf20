/-
  Layer 14: the direction in which a line begins.
-/
import Derived.Test.YtkdnkmheidbfdaaGreatMC
import Derived.Deep.RegionHeld3
import Derived.Deep.CutRange
import Derived.Test.YtkdnkmheidbfdaaGreatM9
import Derived.Sort.BigQuietIn
import Derived.RangeFuncNested
import Derived.RangeFuncBound
import Derived.RangeFuncCalls
import Derived.RangeFuncLeaves
import Derived.RangeFuncBox
import Derived.Shelf.Abstract
import Derived.Shelf.RegionOpen
import Derived.OwnWalkIn
import Derived.TacticsInMore
import Derived.LoopNIn
import Derived.LoopIn
import Derived.OrdersHeld
namespace Go.Proofs.YtkdnkmheidbfdaaGreat
open Go.RowKit Go.Sort

/-- Where a line leads at first; none, if it has no segment. -/
def hdD (ps : List Pp) : Pp := if ps.length < 2 then (0, 0) else (ofD (near (lpt ps 0).1, near (lpt ps 0).2) (near (lpt ps 1).1, near (lpt ps 1).2)).1

set_option maxRecDepth 100000 in
set_option maxHeartbeats 3200000 in
theorem heading_any (v : Value) (ps : List Pp) (w : World) (hs : Src w v ps) (hl : ps.length ≤ 100000) :
    Calls Tryz.prog 145 #[v] w fun e w' => e = .returned (pv (hdD ps).1 (hdD ps).2) ∧ Below w.heap.size w w' := by
  obtain ⟨ao, ca, hu, _⟩ := hs.pts
  subst hu
  obtain ⟨n, hn⟩ : ∃ n, ps.length = n := ⟨_, rfl⟩
  have HN := hid hn
  rw [hn] at hl hs ⊢
  obtain ⟨wA, hwA⟩ : ∃ wA, w.alloc (.cells #[.int .i64 0, .int .i64 0] 155) = wA := ⟨_, rfl⟩
  obtain ⟨hPA, hbA, hsA⟩ := dbox1 hwA
  by_cases h2 : n < 2
  · have h2I : (n : Int) < 2 := by omega
    have HE := hid (show hdD ps = (0, 0) by unfold hdD; rw [if_pos (by rw [hn]; exact h2)])
    have r0 := hPA.c0
    have r1 := hPA.c1
    have f0 := hPA.f0
    have f1 := hPA.f1
    have hS := hPA.set 0 0
    obtain ⟨wS, hwS⟩ : ∃ wS, (wA.setCell ⟨w.heap.size, 0, none⟩ (.int .i64 0)).setCell ⟨w.heap.size, 1, none⟩ (.int .i64 0) = wS := ⟨_, rfl⟩
    rw [hwS] at hS
    have HBS := hid (show Below w.heap.size w wS by rw [← hwS]; exact (hbA.setCell (p := ⟨w.heap.size, 0, none⟩) (Nat.le_refl _) _).setCell (p := ⟨w.heap.size, 1, none⟩) (Nat.le_refl _) _)
    have i0 := hS.c0
    have i1 := hS.c1
    clear hs hn h2 hS hPA hbA
    go_enter Tryz.func145, Tryz.ntmps145
    go_wp2
    rw [HE.out]
    exact bodyPost_ret (v := pv 0 0) (by simp [results, Tryz.results145, go_sem, i0, i1]) rfl ⟨rfl, HBS.out⟩
  · have h2I : ¬ (n : Int) < 2 := by omega
    rcases hs with ⟨e, h0⟩ | ⟨b, off, cap, e, hcap, hc⟩
    · rw [h0] at hn; simp at hn; omega
    rw [hn] at e
    injection e with e1 _ e3
    subst e1 e3
    have q0 : ps[0]? = some (lpt ps 0) := by unfold lpt; rw [List.getD_eq_getElem?_getD, List.getElem?_eq_getElem (by omega)]; rfl
    have q1 : ps[1]? = some (lpt ps 1) := by unfold lpt; rw [List.getD_eq_getElem?_getD, List.getElem?_eq_getElem (by omega)]; rfl
    obtain ⟨x0, x1⟩ := hc 0 _ q0
    obtain ⟨x2, x3⟩ := hc 1 _ q1
    have hbb : b < w.heap.size := lt_of_cell x0
    have HE := hid (show hdD ps = (ofD (near (lpt ps 0).1, near (lpt ps 0).2) (near (lpt ps 1).1, near (lpt ps 1).2)).1 by unfold hdD; rw [if_neg (by rw [hn]; exact h2)])
    generalize lpt ps 0 = P0 at *
    generalize lpt ps 1 = P1 at *
    obtain ⟨px, py⟩ := P0
    obtain ⟨qx, qy⟩ := P1
    dsimp only at x0 x1 x2 x3 HE
    have HOF := hid (fun W => turnOf_any px py qx qy W)
    obtain ⟨⟨⟨dx, dy⟩, ok⟩, hD⟩ : ∃ D, ofD (near px, near py) (near qx, near qy) = D := ⟨_, rfl⟩
    rw [hD] at HE HOF
    dsimp only at HE HOF
    have hn0 : (0 : Int) < (n : Int) := by omega
    have hn1 : (1 : Int) < (n : Int) := by omega
    have hn0N : 0 < n := by omega
    have hn1N : 1 < n := by omega
    have HB0 := hid ((hbA.drew).alloc (by show w.heap.size ≤ wA.heap.size; omega) (.cells #[.int .i64 0, .int .i64 0] 155))
    have hcell : ∀ W, Below w.heap.size w W → W.cell? ⟨b, off, none⟩ = some (.int .i64 px) ∧ W.cell? ⟨b, off + 1, none⟩ = some (.int .i64 py) ∧ W.cell? ⟨b, off + 2, none⟩ = some (.int .i64 qx) ∧ W.cell? ⟨b, off + 2 + 1, none⟩ = some (.int .i64 qy) := fun W hW =>
      ⟨cell_below (by simpa using x0) hW hbb, cell_below (by simpa using x1) hW hbb, cell_below (by simpa using x2) hW hbb, cell_below (by simpa using x3) hW hbb⟩
    have S0 := hcell wA.drew hbA.drew
    have HCL := hid hcell
    have HPA := hid hPA
    have HBA := hid hbA
    clear hc q0 q1 x0 x1 x2 x3 hn h2 hD hcell hPA hbA
    go_enter Tryz.func145, Tryz.ntmps145
    go_upto_region 3 with fail
    go_region_held3 (fun w' => w'.cell? ⟨b, off, none⟩ = some (.int .i64 px) ∧ w'.cell? ⟨b, off + 1, none⟩ = some (.int .i64 py) ∧ w'.cell? ⟨b, off + 2, none⟩ = some (.int .i64 qx) ∧ w'.cell? ⟨b, off + 2 + 1, none⟩ = some (.int .i64 qy)) (first | exact S0 | exact HCL.out _ HB1.out | exact HCL.out _ HB2.out | exact HCL.out _ HB3.out | exact HCL.out _ HB0.out) (first
      | (go_at_call 176; refine (HOF.out _).mono ?_; rintro e w1 ⟨rfl, hb1⟩; first
          | (have HB1 := hid (show Below w.heap.size w w1 from HBA.out.drew.trans (hb1.mono (by show w.heap.size ≤ wA.heap.size; omega)))
             have HB2 := hid (HB1.out.alloc HB1.out.size (.cells #[.int .i64 0, .int .i64 0] 155))
             have HB3 := hid (HB1.out.alloc HB1.out.size (.cells #[.int .i64 dx, .int .i64 dy] 155))
             have HP1 := hid (HPA.out.below ((Below.refl wA.heap.size wA).drew.trans hb1) (by omega))
             clear hb1)
          | (have HB1 := hid (show Below w.heap.size w w1 from HB0.out.trans (hb1.mono HB0.out.size))
             have hD2 : Dt 155 w1 wA.heap.size 0 0 := (Dt.new 155 wA.drew 0 0).below hb1 (by simp)
             have d0 := hD2.c0
             have d1 := hD2.c1
             have g0 := hD2.f0
             have g1 := hD2.f1
             have HD2 := hid (hD2.set dx dy)
             have HB2 := hid ((HB1.out.setCell (p := ⟨wA.heap.size, 0, none⟩) (by show w.heap.size ≤ wA.heap.size; omega) (.int .i64 dx)).setCell (p := ⟨wA.heap.size, 1, none⟩) (by show w.heap.size ≤ wA.heap.size; omega) (.int .i64 dy))
             rw [hsA] at d0 d1 g0 g1 HD2 HB2
             have HB3 := HB2
             have HP1 := hid (HPA.out.below (((Below.refl wA.heap.size wA).drew.alloc (Nat.le_refl _) _).trans (hb1.mono (by simp))) (by omega))
             clear hb1 hD2)))
    · obtain ⟨W2, hW2⟩ : ∃ W2, w1.alloc (.cells #[.int .i64 dx, .int .i64 dy] 155) = W2 := ⟨_, rfl⟩
      have hD := Dt.new 155 w1 dx dy
      have hP := HP1.out.alloc (.cells #[.int .i64 dx, .int .i64 dy] 155)
      rw [hW2] at hD hP HB3 ⊢
      have k0 := hD.c0
      have k1 := hD.c1
      have r0 := hP.c0
      have r1 := hP.c1
      have f0 := hP.f0
      have f1 := hP.f1
      have hS := hP.set dx dy
      obtain ⟨wS, hwS⟩ : ∃ wS, (W2.setCell ⟨w.heap.size, 0, none⟩ (.int .i64 dx)).setCell ⟨w.heap.size, 1, none⟩ (.int .i64 dy) = wS := ⟨_, rfl⟩
      rw [hwS] at hS
      have HBS := hid (show Below w.heap.size w wS by rw [← hwS]; exact (HB3.out.setCell (p := ⟨w.heap.size, 0, none⟩) (Nat.le_refl _) _).setCell (p := ⟨w.heap.size, 1, none⟩) (Nat.le_refl _) _)
      have i0 := hS.c0
      have i1 := hS.c1
      clear hS hP hD hW2
      go_wp2
      rw [HE.out]
      exact bodyPost_ret (v := pv dx dy) (by simp [results, Tryz.results145, go_sem, i0, i1]) rfl ⟨rfl, HBS.out⟩
    · obtain ⟨W2, hW2⟩ : ∃ W2, (w1.setCell ⟨w.heap.size + 1, 0, none⟩ (.int .i64 dx)).setCell ⟨w.heap.size + 1, 1, none⟩ (.int .i64 dy) = W2 := ⟨_, rfl⟩
      have hD := HD2.out
      have hP := HP1.out.far (b := w.heap.size + 1) (by omega) (.int .i64 dx) (.int .i64 dy)
      rw [hW2] at hD hP HB3 ⊢
      have k0 := hD.c0
      have k1 := hD.c1
      have r0 := hP.c0
      have r1 := hP.c1
      have f0 := hP.f0
      have f1 := hP.f1
      have hS := hP.set dx dy
      obtain ⟨wS, hwS⟩ : ∃ wS, (W2.setCell ⟨w.heap.size, 0, none⟩ (.int .i64 dx)).setCell ⟨w.heap.size, 1, none⟩ (.int .i64 dy) = wS := ⟨_, rfl⟩
      rw [hwS] at hS
      have HBS := hid (show Below w.heap.size w wS by rw [← hwS]; exact (HB3.out.setCell (p := ⟨w.heap.size, 0, none⟩) (Nat.le_refl _) _).setCell (p := ⟨w.heap.size, 1, none⟩) (Nat.le_refl _) _)
      have i0 := hS.c0
      have i1 := hS.c1
      clear hS hP hD hW2
      go_wp2
      rw [HE.out]
      exact bodyPost_ret (v := pv dx dy) (by simp [results, Tryz.results145, go_sem, i0, i1]) rfl ⟨rfl, HBS.out⟩
end Go.Proofs.YtkdnkmheidbfdaaGreat

namespace Go.Proofs.YtkdnkmheidbfdaaGreat
open Go.RowKit Go.Sort

set_option maxRecDepth 100000 in
set_option maxHeartbeats 3200000 in
theorem lastTurned_any (v : Value) (ps : List Pp) (w : World) (hs : Src w v ps) (hl : ps.length ≤ 1000) :
    Calls Tryz.prog 148 #[v] w fun e w' => (∃ u, e = .returned u ∧ Src w' u (ps.drop (ps.length - 2)).reverse) ∧ Below w.heap.size w w' := by
  rcases hs with ⟨rfl, rfl⟩ | ⟨b, off, cap, rfl, hcap, hc⟩
  · have HR := hid (lineReverse_any (.slice none 0 0) [] w (.inl ⟨rfl, rfl⟩) (by simp))
    go_enter Tryz.func148, Tryz.ntmps148
    go_wp2_with (first
      | (go_at_call 74; refine HR.out.mono ?_; rintro e w1 ⟨⟨u, rfl, hu⟩, hb1⟩; have HU := hid hu; have HB := hid hb1; clear hu hb1 HR))
    go_ret
    exact ⟨⟨_, rfl, HU.out⟩, HB.out⟩
  · obtain ⟨n, hn⟩ : ∃ n, ps.length = n := ⟨_, rfl⟩
    obtain ⟨k, hk⟩ : ∃ k, n - 2 = k := ⟨_, rfl⟩
    have hsrc : Src w (.slice (some ⟨b, off + k * 2, none⟩) (n - k) (cap - k)) (ps.drop k) := by
      refine .inr ⟨b, off + k * 2, cap - k, by rw [List.length_drop, hn], by rw [List.length_drop]; omega, fun j p hj => ?_⟩
      rw [List.getElem?_drop] at hj
      have := hc (k + j) p hj
      rw [show off + k * 2 + j * 2 = off + (k + j) * 2 by omega]
      exact this
    rw [hn, hk]
    rw [hn] at hl hcap
    have HR := hid (lineReverse_any _ _ w hsrc (by rw [List.length_drop]; omega))
    have hkI : (k : Int) ≤ (n : Int) := by omega
    have hkc : (k : Int) ≤ (cap : Int) := by omega
    have hnc : (n : Int) ≤ (cap : Int) := by omega
    by_cases h2 : n < 2
    · obtain rfl : k = 0 := by omega
      have hw : IntKind.i64.wrap ((n : Int) - 2) = (n : Int) - 2 := by rw [IntKind.wrap_i64]; omega
      have hlt : (n : Int) - 2 < 0 := by omega
      clear hc hsrc hn hk
      go_enter Tryz.func148, Tryz.ntmps148
      go_wp2_with (first
        | (go_at_call 74; refine HR.out.mono ?_; rintro e w1 ⟨⟨u, rfl, hu⟩, hb1⟩; have HU := hid hu; have HB := hid hb1; clear hu hb1 HR))
      go_ret
      exact ⟨⟨_, rfl, HU.out⟩, HB.out⟩
    · have hw : IntKind.i64.wrap ((n : Int) - 2) = (k : Int) := by rw [IntKind.wrap_i64]; omega
      have hlt : ¬ ((k : Int) < 0) := by omega
      have hne : ¬ cap = k := by omega
      clear hc hsrc hn hk
      go_enter Tryz.func148, Tryz.ntmps148
      go_wp2_with (first
        | (go_at_call 74; refine HR.out.mono ?_; rintro e w1 ⟨⟨u, rfl, hu⟩, hb1⟩; have HU := hid hu; have HB := hid hb1; clear hu hb1 HR))
      go_ret
      exact ⟨⟨_, rfl, HU.out⟩, HB.out⟩
end Go.Proofs.YtkdnkmheidbfdaaGreat

namespace Go.Proofs.YtkdnkmheidbfdaaGreat
open Go.RowKit

section
variable {F : Fence} {m : Nat} {P : Program} {md : Region.Mode} {L : List Oper} {n g : Nat} {T : Act → World → Prop} {Q : Exit → Act → World → Prop}

theorem letsOut_hd (h : LetsOut (Hd T Q)) : LetsOut Q := by
  obtain ⟨a, w, h⟩ := h
  exact ⟨a, w, h⟩
theorem uponIn_hd {o : Oper} {a : Act} {K : Act → World → Prop} : ∀ {r : Result Next}, Oper.uponIn F m P o a K (Hd T Q) r → Oper.uponIn F m P o a K Q r
  | .ok x w', h => by
    cases x <;> first
      | exact h
      | exact ⟨h.1, CallsIn.mono h.2 fun e w'' he => by cases e <;> first | exact he | exact letsOut_hd he⟩
      | exact ⟨h.1, RoundIn.mono h.2 fun e w'' he => by cases e <;> first | exact he | exact letsOut_hd he⟩
  | .halt x w', h => by cases x <;> exact h

theorem wpOpIn_hd (hh : headB md L n = true) {i : Nat} (hi : i < n) {K K' : Act → World → Prop} (hK : ∀ a w, K a w → K' a w) {a : Act} {w : World} (h : wpOpIn F m P (L.take n).toArray (Hd T Q) i K a w) : wpOpIn F m P L.toArray Q i K' a w := by
  obtain ⟨o, ho, _, hg⟩ := headB_at hh hi
  have ho' : L.toArray[i]? = some o := by simpa using ho
  unfold wpOpIn at h ⊢
  rw [take_at hi, ho'] at h
  rw [ho']
  have hw : Region.wanted o (yielded (L.take n).toArray a.tmps) = Region.wanted o (yielded L.toArray a.tmps) := by
    unfold Region.wanted
    cases hgd : o.guard with
    | none => rfl
    | some p =>
      obtain ⟨k, b⟩ := p
      have : yielded (L.take n).toArray a.tmps k = yielded L.toArray a.tmps k := by
        unfold yielded
        rw [take_at (hg k b hgd)]
      simp only [this]
  simp only [hw] at h ⊢
  split
  · rename_i h1
    rw [if_pos h1] at h
    exact Oper.wpIn_mono hK ⟨h.1, uponIn_hd h.2⟩
  · rename_i h1
    rw [if_neg h1] at h
    exact ⟨h.1, hK _ _ h.2⟩

theorem wpAnyIn_more {ops : Array Oper} : ∀ (f : Nat) (listed : Array Bool) (a : Act) (w : World), wpAnyIn F m P md ops Q f listed a w → wpAnyIn F m P md ops Q (f + 1) listed a w
  | 0, _, _, _, h => ⟨fun _ => h.2, fun i hi => by rw [h.1] at hi; cases hi⟩
  | f + 1, _, _, _, h => ⟨h.1, fun i hi => wpOpIn_mono (fun a' w' h' => wpAnyIn_more f _ a' w' h') (h.2 i hi)⟩
theorem wpAnyIn_fuel {ops : Array Oper} {g : Nat} {listed : Array Bool} {a : Act} {w : World} (h : wpAnyIn F m P md ops Q g listed a w) : ∀ f, wpAnyIn F m P md ops Q (f + g) listed a w
  | 0 => by rw [Nat.zero_add]; exact h
  | f + 1 => by rw [show f + 1 + g = (f + g) + 1 by omega]; exact wpAnyIn_more _ _ _ _ (wpAnyIn_fuel h f)

theorem wpAnyIn_hd (hh : headB md L n = true) (hs : Region.sinkB md L.toArray n = true) (hc : Region.chainB md L.toArray n = true) (hn : n < L.length)
    (hT : ∀ a w, T a w → wpAnyIn F m P md L.toArray Q g (doneL n (L.length - n)) a w) :
    ∀ (f : Nat) (listed lH : Array Bool) (a : Act) (w : World), HeadInv md L.toArray n listed → lH.size = n → (∀ i d, i < n → lH.getD i d = listed.getD i d) →
      wpAnyIn F m P md (L.take n).toArray (Hd T Q) f lH a w → wpAnyIn F m P md L.toArray Q (f + g) listed a w := by
  intro f
  induction f with
  | zero =>
    intro listed lH a w inv hsz hag h
    have hall : ∀ i, i < n → listed.getD i true = true := by
      refine Classical.byContradiction fun hx => ?_
      obtain ⟨i, hi, h1, h2⟩ := least_open hx
      obtain ⟨o, ho, ha, _⟩ := headB_at hh hi
      have : i ∈ Region.ready md (L.take n).toArray lH := by
        refine mem_ready.2 ⟨by rw [hag i true hi]; exact h1, o, by rw [take_at hi]; simpa using ho, fun e he hb => ?_⟩
        have hlt := ha e he hb
        rw [hag e.on false (by omega), ← getD_some (by rw [inv.size]; simp; omega)]
        exact h2 _ hlt
      rw [h.1] at this
      cases this
    have hd := done_is hn inv hall
    subst hd
    rw [Nat.zero_add]
    exact hT _ _ h.2
  | succ f ih =>
    intro listed lH a w inv hsz hag h
    by_cases hall : ∀ i, i < n → listed.getD i true = true
    · have hr : Region.ready md (L.take n).toArray lH = [] := by
        refine List.eq_nil_iff_forall_not_mem.2 fun i hi => ?_
        obtain ⟨h0, o, ho, _⟩ := mem_ready.1 hi
        have hin : i < n := by
          have := (Array.getElem?_eq_some_iff.1 ho).1
          simp at this; omega
        rw [hag i true hin, hall i hin] at h0
        cases h0
      have hd := done_is hn inv hall
      subst hd
      exact wpAnyIn_fuel (hT _ _ (h.1 hr)) (f + 1)
    · obtain ⟨i, hi, h1, h2⟩ := least_open hall
      obtain ⟨o, ho, ha, _⟩ := headB_at hh hi
      have hri : i ∈ Region.ready md L.toArray listed := by
        refine mem_ready.2 ⟨h1, o, by simpa using ho, fun e he hb => ?_⟩
        have hlt := ha e he hb
        rw [← getD_some (by rw [inv.size]; simp; omega)]
        exact h2 _ hlt
      rw [show f + 1 + g = (f + g) + 1 by omega]
      refine ⟨fun hr => absurd hri (by rw [hr]; simp), fun j hj => ?_⟩
      have hjn : j < n := by
        rcases Nat.lt_or_ge j n with hx | hx
        · exact hx
        · exact absurd hj (tail_waits hs hc (by simpa using hn) inv _ i rfl hi h1 j hx)
      obtain ⟨h0, oj, hoj, hej⟩ := mem_ready.1 hj
      obtain ⟨oj', hoj', haj, _⟩ := headB_at hh hjn
      have heo : oj' = oj := by
        rw [show L.toArray[j]? = L[j]? by simp, hoj'] at hoj
        exact Option.some.inj hoj
      subst heo
      have hjH : j ∈ Region.ready md (L.take n).toArray lH := by
        refine mem_ready.2 ⟨by rw [hag j true hjn]; exact h0, oj', by rw [take_at hjn]; exact hoj, fun e he hb => ?_⟩
        have hlt := haj e he hb
        rw [hag e.on false (by omega)]
        exact hej e he hb
      refine wpOpIn_hd hh hjn (fun a' w' h' => ih _ _ a' w' (inv.set hj hjn) (by simp [hsz]) (fun k d hk => ?_) h') (h.2 j hjH)
      by_cases hjk : j = k
      · subst hjk
        have e1 : j < listed.size := by rw [inv.size]; simp; omega
        simp [hsz, hjn, e1]
      · rw [getD_set_ne d hjk, getD_set_ne d hjk]
        exact hag k d hk

theorem wpAnyIn_of_seq {ops : Array Oper} : ∀ (l : List Oper) (k : Nat) (listed : Array Bool) (a : Act) (w : World), (∀ j, l[j]? = ops[k + j]?) →
    Region.seqB md ops l.length k listed = true → wpListIn F m P ops Q l a w → wpAnyIn F m P md ops Q l.length listed a w
  | [], _, _, _, _, _, hB, h => ⟨by simpa [Region.seqB] using hB, h⟩
  | o :: l, k, listed, a, w, hl, hB, h => by
    have h0 : ops[k]? = some o := by simpa using (hl 0).symm
    simp only [List.length_cons, Region.seqB, Bool.and_eq_true, decide_eq_true_eq] at hB
    refine ⟨fun h1 => (by rw [hB.1] at h1; cases h1), fun i hi => ?_⟩
    rw [hB.1] at hi
    have hik : i = k := by simpa using hi
    subst hik
    have hw : wpOpIn F m P ops Q i (wpListIn F m P ops Q l) a w := by unfold wpOpIn; simp only [h0]; exact h
    exact wpOpIn_mono (fun a' w' h' => wpAnyIn_of_seq l (i + 1) _ a' w' (fun j => by have := hl (j + 1); simpa [Nat.add_assoc, Nat.add_comm 1 j] using this) hB.2 h') hw
end

theorem wpIn_region_tail {F : Fence} {m : Nat} {P : Program} {id : Nat} {Q : Exit → Act → World → Prop} {a : Act} {w : World} {L : List Oper} (n : Nat) (hro : F.round = none) (hm : P.follows .mixedOrders = true) (hB : tailB L n = true)
    (h : wpQuietIn F m P (L.take n).toArray (fun w' => ∃ q, w' = w.drewN q) (fun a' => ∀ w', (∃ q, w' = w.drewN q) → wpListIn F m P L.toArray Q (L.drop n) a' w') (L.take n) a) : (Code.region id L.toArray true).wpIn F m P Q a w := by
  simp only [tailB, Bool.and_eq_true, decide_eq_true_eq] at hB
  obtain ⟨⟨⟨⟨⟨h1, h2⟩, h3⟩, h4⟩, h5⟩, h6⟩ := hB
  simp only [Region.lexB, Bool.and_eq_true] at h5
  have hq := wpAnyQIn_lex (F := F) (n := m) (C := fun w' => ∃ q, w' = w.drewN q) (P := P) (md := .any) h5.1 (L.take n) 0 (Array.replicate (L.take n).toArray.size false) a (by simp) (by simpa using h5.2) h
  have hl : (L.take n).length = n := by simp; omega
  refine wpIn_region_any hm ?_
  have hsz : L.toArray.size = n + (L.drop n).length := by simp; omega
  rw [hsz]
  refine wpAnyIn_hd (g := (L.drop n).length) (T := fun a' w' => wpListIn F m P L.toArray Q (L.drop n) a' w') h1 h2 h3 h4 (fun a' w' ht => wpAnyIn_of_seq (L.drop n) n _ a' w' (fun j => by simp [List.getElem?_drop]) h6 ht) n _ (Array.replicate (L.take n).toArray.size false) a _ ?_ (by simp; omega) (fun i d hi => ?_) ?_
  · refine ⟨by simp; omega, fun j oj hj hl' => ?_, fun t _ ht => ?_⟩
    · rw [getD_replicate_false] at hl'; cases hl'
    · have : t < n + (L.drop n).length := by rw [← hsz]; exact ht
      simp only [Array.getD_eq_getD_getElem?, Array.getElem?_replicate, this, if_true, Option.getD_some]
  · have h7 : i < n + (L.drop n).length := by omega
    have h8 : i < (L.take n).toArray.size := by simp; omega
    simp only [Array.getD_eq_getD_getElem?, Array.getElem?_replicate, h7, h8, if_true, Option.getD_some]
  · have := wpAnyIn_of_quiet (F := F) (n := m) (P := P) (md := .any) (C := fun w' => ∃ q, w' = w.drewN q) (Q := fun a' => ∀ w', (∃ q, w' = w.drewN q) → wpListIn F m P L.toArray Q (L.drop n) a' w') (Q' := Hd (fun a' w' => wpListIn F m P L.toArray Q (L.drop n) a' w') Q) hro (fun a' w' hw' ht => ht w' hw') (L.take n).length _ a w.drew ⟨1, rfl⟩ hq
    rw [hl] at this
    exact this
end Go.Proofs.YtkdnkmheidbfdaaGreat

namespace Go.Proofs.YtkdnkmheidbfdaaGreat
open Go.RowKit Go.Shelf Go.Sort

/-- Q at the region's end alone. -/
def Np (Q : Exit → Act → World → Prop) : Exit → Act → World → Prop
  | .normal, a, w => Q .normal a w
  | _, _, _ => False
def notDefer : Op → Bool
  | .defer _ => false
  | _ => true
theorem wpOpIn_calls {l n : Nat} {P : Program} {ops : Array Oper} {Q : Exit → Act → World → Prop} {i : Nat} {K K' : Act → World → Prop} {a : Act} {w : World} (hp : ∀ o, ops[i]? = some o → notDefer o.op = true)
    (hK : ∀ a w, K a w → K' a w) (h : wpOp P ops (Np Q) i K a w) : wpOpIn (Fence.wide.inRound l) n P ops Q i K' a w := by
  unfold wpOp at h
  unfold wpOpIn
  cases ho : ops[i]? with
  | none => rw [ho] at h; exact hK _ _ h
  | some o =>
    rw [ho] at h
    have hpl := hp o ho
    have hab : ∀ f, o.about P w a.eval = some f → (Fence.wide.inRound l).fn f := fun _ _ => trivial
    simp only at h ⊢
    split
    · rename_i hw
      rw [if_pos hw] at h
      rcases h with h | ⟨_, a', w', hx⟩
      · refine ⟨hab, ?_⟩
        rw [Oper.semAt_plain (Fence.wide.inRound l) _ _ (fun c hc => by rw [hc] at hpl; cases hpl)]
        unfold Oper.wp at h
        generalize (execOp a.eval o).run P w = r at h
        cases r with
        | ok x w' =>
          cases x with
          | value v => exact hK _ _ h
          | skip => exact hK _ _ h
          | defer d => exact hK _ _ h
          | enter f args =>
            refine ⟨fun hd => (by cases hd), ?_⟩
            have h' := CallsIn.inRound l (callsIn_wide.2 (show Calls P f args w' _ from h) : CallsIn Fence.wide (n - 1) P f args w' _)
            refine h'.mono fun e w'' he => ?_
            cases e with
            | returned v => exact hK _ _ he
            | panicked chain => exact False.elim he
            | outgrown => obtain ⟨_, _, hx⟩ := he; exact False.elim hx
          | row row args =>
            refine ⟨fun hd => (by cases hd), fun c cs _ => ?_⟩
            obtain ⟨v, w'', hv, hs⟩ := (show Rows P row args w' _ from h) c cs
            exact ⟨v, w'', hK _ _ hv, stepsIn_wide.2 hs⟩
          | _ => exact False.elim h
        | halt x w' =>
          cases x <;> simp only [Oper.upon, Np] at h
      · exact absurd hx (by simp [Np])
    · rename_i hw
      rw [if_neg hw] at h
      exact ⟨hab, hK _ _ h⟩
theorem wpAnyIn_calls {l n : Nat} {P : Program} {md : Region.Mode} {ops : Array Oper} {Q : Exit → Act → World → Prop} (hp : ∀ (i : Nat) (o : Oper), ops[i]? = some o → notDefer o.op = true) :
    ∀ (fuel : Nat) (listed : Array Bool) (a : Act) (w : World), wpAny P md ops (Np Q) fuel listed a w → wpAnyIn (Fence.wide.inRound l) n P md ops Q fuel listed a w
  | 0, _, _, _, h => h
  | fuel + 1, _, _, _, h => ⟨h.1, fun i hi => wpOpIn_calls (hp i) (fun a' w' h' => wpAnyIn_calls hp fuel _ a' w' h') (h.2 i hi)⟩
theorem calls_all {ops : Array Oper} (h : ops.all (fun o => notDefer o.op) = true) : ∀ (i : Nat) (o : Oper), ops[i]? = some o → notDefer o.op = true := fun i o ho => by
  rw [Array.all_eq_true_iff_forall_mem] at h
  exact h o (Array.mem_of_getElem? ho)
/-- A region that draws its order, whose operations only read and call, within a round of a range over a function. -/
theorem wpIn_region_quiet_round {l n : Nat} {P : Program} {L : List Oper} {Q : Exit → Act → World → Prop} {id : Nat} {a : Act} {w : World} (hm : P.follows .mixedOrders = true) (hp : L.toArray.all (fun o => notDefer o.op) = true) (hB : Region.lexB .any L.toArray = true)
    (h : wpQuiet P L.toArray (fun w' => ∃ p : Regrown, w' = grow (redrawn w p.d) p.os) (fun a' => ∀ w', (∃ p : Regrown, w' = grow (redrawn w p.d) p.os) → Q .normal a' w') L a) : (Code.region id L.toArray true).wpIn (Fence.wide.inRound l) n P Q a w := by
  simp only [Region.lexB, Bool.and_eq_true] at hB
  have hC : ∃ p : Regrown, ({ w with drawn := w.drawn + 1 } : World) = grow (redrawn w p.d) p.os := ⟨⟨w.drawn + 1, #[]⟩, by rw [grow_empty]; rfl⟩
  refine wpIn_region_any hm (wpAnyIn_calls (calls_all hp) _ _ _ _ (wpAny_of_quiet (C := fun w' => ∃ p : Regrown, w' = grow (redrawn w p.d) p.os) (Q := fun a' => ∀ w', (∃ p : Regrown, w' = grow (redrawn w p.d) p.os) → Q .normal a' w') (Q' := Np Q) (fun _ w' hw' h => h w' hw') _ _ _ _ hC ?_))
  have := wpAnyQ_lex (C := fun w' => ∃ p : Regrown, w' = grow (redrawn w p.d) p.os) (md := .any) hB.1 L 0 (Array.replicate L.toArray.size false) a (by simp) (by simpa using hB.2) h
  simpa using this

/-- HTail's law, for whatever order is picked. -/
theorem wpAny_tail {P : Program} {Q : Exit → Act → World → Prop} {C : World → Prop} {a : Act} {w : World} {L : List Oper} (n : Nat) (hB : tailB L n = true) (hC : C w.drew)
    (h : wpQuiet P (L.take n).toArray C (fun a' => ∀ w', C w' → wpList P L.toArray Q (L.drop n) a' w') (L.take n) a) : wpAny P .any L.toArray Q L.toArray.size (Array.replicate L.toArray.size false) a w.drew := by
  simp only [tailB, Bool.and_eq_true, decide_eq_true_eq] at hB
  obtain ⟨⟨⟨⟨⟨h1, h2⟩, h3⟩, h4⟩, h5⟩, h6⟩ := hB
  simp only [Region.lexB, Bool.and_eq_true] at h5
  have hq := wpAnyQ_lex (C := C) (P := P) (md := .any) h5.1 (L.take n) 0 (Array.replicate (L.take n).toArray.size false) a (by simp) (by simpa using h5.2) h
  have hl : (L.take n).length = n := by simp; omega
  have hsz : L.toArray.size = n + (L.drop n).length := by simp; omega
  rw [hsz]
  refine wpAny_hd (g := (L.drop n).length) (T := fun a' w' => wpList P L.toArray Q (L.drop n) a' w') h1 h2 h3 h4 (fun a' w' ht => wpAny_of_seq (L.drop n) n _ a' w' (fun j => by simp [List.getElem?_drop]) h6 ht) n _ (Array.replicate (L.take n).toArray.size false) a _ ?_ (by simp; omega) (fun i d hi => ?_) ?_
  · refine ⟨by simp; omega, fun j oj hj hl' => ?_, fun t _ ht => ?_⟩
    · rw [getD_replicate_false] at hl'; cases hl'
    · have : t < n + (L.drop n).length := by rw [← hsz]; exact ht
      simp only [Array.getD_eq_getD_getElem?, Array.getElem?_replicate, this, if_true, Option.getD_some]
  · have h7 : i < n + (L.drop n).length := by omega
    have h8 : i < (L.take n).toArray.size := by simp; omega
    simp only [Array.getD_eq_getD_getElem?, Array.getElem?_replicate, h7, h8, if_true, Option.getD_some]
  · have := wpAny_of_quiet (P := P) (md := .any) (C := C) (Q := fun a' => ∀ w', C w' → wpList P L.toArray Q (L.drop n) a' w') (Q' := Hd (fun a' w' => wpList P L.toArray Q (L.drop n) a' w') Q) (fun a' w' hw' ht => ht w' hw') (L.take n).length _ a w.drew hC hq
    rw [hl] at this
    exact this
/-- A region whose first operations only read and call, whose last ones wait for all, within a round. -/
theorem wpIn_region_tail_round {l m : Nat} {P : Program} {L : List Oper} {Q : Exit → Act → World → Prop} {id : Nat} {a : Act} {w : World} (n : Nat) (hm : P.follows .mixedOrders = true) (hp : L.toArray.all (fun o => notDefer o.op) = true) (hB : tailB L n = true)
    (h : wpQuiet P (L.take n).toArray (fun w' => ∃ p : Regrown, w' = grow (redrawn w p.d) p.os) (fun a' => ∀ w', (∃ p : Regrown, w' = grow (redrawn w p.d) p.os) → wpList P L.toArray (Np Q) (L.drop n) a' w') (L.take n) a) : (Code.region id L.toArray true).wpIn (Fence.wide.inRound l) m P Q a w := by
  have hC : ∃ p : Regrown, w.drew = grow (redrawn w p.d) p.os := ⟨⟨w.drawn + 1, #[]⟩, by rw [grow_empty]; rfl⟩
  exact wpIn_region_any hm (wpAnyIn_calls (calls_all hp) _ _ _ _ (wpAny_tail n hB hC h))
theorem keeps_fresh {W W' : World} (h : Below W.heap.size W W') : KeepsOthers W W' := ⟨h.size, fun k _ hk _ => (h.block k (Array.getElem?_eq_some_iff.1 hk).1).trans hk⟩
end Go.Proofs.YtkdnkmheidbfdaaGreat

namespace Go.Proofs.YtkdnkmheidbfdaaGreat
open Go.RowKit Go.Shelf Go.Sort

theorem wpOpIn_callsW {n : Nat} {P : Program} {ops : Array Oper} {Q : Exit → Act → World → Prop} {i : Nat} {K K' : Act → World → Prop} {a : Act} {w : World} (hp : ∀ o, ops[i]? = some o → notDefer o.op = true)
    (hK : ∀ a w, K a w → K' a w) (h : wpOp P ops (Np Q) i K a w) : wpOpIn Fence.wide n P ops Q i K' a w := by
  unfold wpOp at h
  unfold wpOpIn
  cases ho : ops[i]? with
  | none => rw [ho] at h; exact hK _ _ h
  | some o =>
    rw [ho] at h
    have hpl := hp o ho
    have hab : ∀ f, o.about P w a.eval = some f → Fence.wide.fn f := fun _ _ => trivial
    simp only at h ⊢
    split
    · rename_i hw
      rw [if_pos hw] at h
      rcases h with h | ⟨_, a', w', hx⟩
      · refine ⟨hab, ?_⟩
        rw [Oper.semAt_plain Fence.wide _ _ (fun c hc => by rw [hc] at hpl; cases hpl)]
        unfold Oper.wp at h
        generalize (execOp a.eval o).run P w = r at h
        cases r with
        | ok x w' =>
          cases x with
          | value v => exact hK _ _ h
          | skip => exact hK _ _ h
          | defer d => exact hK _ _ h
          | enter f args =>
            refine ⟨fun hd => (by cases hd), ?_⟩
            have h' := (callsIn_wide.2 (show Calls P f args w' _ from h) : CallsIn Fence.wide (n - 1) P f args w' _)
            refine h'.mono fun e w'' he => ?_
            cases e with
            | returned v => exact hK _ _ he
            | panicked chain => exact False.elim he
            | outgrown => obtain ⟨_, _, hx⟩ := he; exact False.elim hx
          | row row args =>
            refine ⟨fun hd => (by cases hd), fun c cs _ => ?_⟩
            obtain ⟨v, w'', hv, hs⟩ := (show Rows P row args w' _ from h) c cs
            exact ⟨v, w'', hK _ _ hv, stepsIn_wide.2 hs⟩
          | _ => exact False.elim h
        | halt x w' =>
          cases x <;> simp only [Oper.upon, Np] at h
      · exact absurd hx (by simp [Np])
    · rename_i hw
      rw [if_neg hw] at h
      exact ⟨hab, hK _ _ h⟩
theorem wpAnyIn_callsW {n : Nat} {P : Program} {md : Region.Mode} {ops : Array Oper} {Q : Exit → Act → World → Prop} (hp : ∀ (i : Nat) (o : Oper), ops[i]? = some o → notDefer o.op = true) :
    ∀ (fuel : Nat) (listed : Array Bool) (a : Act) (w : World), wpAny P md ops (Np Q) fuel listed a w → wpAnyIn Fence.wide n P md ops Q fuel listed a w
  | 0, _, _, _, h => h
  | fuel + 1, _, _, _, h => ⟨h.1, fun i hi => wpOpIn_callsW (hp i) (fun a' w' h' => wpAnyIn_callsW hp fuel _ a' w' h') (h.2 i hi)⟩

theorem wpIn_region_front {m : Nat} {P : Program} {id : Nat} {Q : Exit → Act → World → Prop} {S : World → Prop} {a : Act} {w : World} {L : List Oper} (n : Nat) (hm : P.follows .mixedOrders = true) (hB : tailB L n = true) (hp : (L.take n).toArray.all (fun o => notDefer o.op) = true) (hS : S w.drew)
    (h : S w.drew → wpAnyH P .any (L.take n).toArray (Np (Hd (fun a' w' => wpListIn Fence.wide m P L.toArray Q (L.drop n) a' w') Q)) S n (Array.replicate n false) a w.drew) : (Code.region id L.toArray true).wpIn Fence.wide m P Q a w := by
  simp only [tailB, Bool.and_eq_true, decide_eq_true_eq] at hB
  obtain ⟨⟨⟨⟨⟨h1, h2⟩, h3⟩, h4⟩, h5⟩, h6⟩ := hB
  have hl : (L.take n).length = n := by simp; omega
  refine wpIn_region_any hm ?_
  have hsz : L.toArray.size = n + (L.drop n).length := by simp; omega
  rw [hsz]
  refine wpAnyIn_hd (g := (L.drop n).length) (T := fun a' w' => wpListIn Fence.wide m P L.toArray Q (L.drop n) a' w') h1 h2 h3 h4 (fun a' w' ht => wpAnyIn_of_seq (L.drop n) n _ a' w' (fun j => by simp [List.getElem?_drop]) h6 ht) n _ (Array.replicate (L.take n).toArray.size false) a _ ?_ (by simp; omega) (fun i d hi => ?_) ?_
  · refine ⟨by simp; omega, fun j oj hj hl' => ?_, fun t _ ht => ?_⟩
    · rw [getD_replicate_false] at hl'; cases hl'
    · have : t < n + (L.drop n).length := by rw [← hsz]; exact ht
      simp only [Array.getD_eq_getD_getElem?, Array.getElem?_replicate, this, if_true, Option.getD_some]
  · have h7 : i < n + (L.drop n).length := by omega
    have h8 : i < (L.take n).toArray.size := by simp; omega
    simp only [Array.getD_eq_getD_getElem?, Array.getElem?_replicate, h7, h8, if_true, Option.getD_some]
  · have hsn : (L.take n).toArray.size = n := by simp; omega
    rw [hsn]
    exact wpAnyIn_callsW (calls_all hp) _ _ _ _ (wpAny_of_held _ _ _ _ (h hS))
end Go.Proofs.YtkdnkmheidbfdaaGreat
