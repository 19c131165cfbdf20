/-
  Layer 5: what Get of a Pool gives.
-/
import Derived.Test.YtkbnjniglngjgaaGreatDoorPoOps
import Derived.Test.YtkbnjniglngjgaaGreatDoorMI
import Derived.Test.YtkbnjniglngjgaaGreatDoorWTail
namespace Go.Proofs.YtkbnjniglngjgaaGreatDoor
open Go.RowKit

/-- A Pool over a File and a Log on one disk. -/
structure PW (w : World) (base P F L g k B n p0 np at' sc : Nat) (d : Dk) (lg : Lg) (f : Fr) : Prop where
  pl : PlI w P F L g k f
  lo : LogIs w base L B n at' sc d lg
  fi : FileIs w base F B p0 np false
  tab : TabOk w
theorem nl_frame : ¬ logT 62 := by unfold logT diskT; decide
theorem PW.kx {w w' : World} {base P F L g k B n p0 np at' sc : Nat} {d : Dk} {lg : Lg} {f f' : Fr} (h : PW w base P F L g k B n p0 np at' sc d lg f) (hk : Kx g w w') (hp : PlI w' P F L g k f') : PW w' base P F L g k B n p0 np at' sc d lg f' := by
  refine ⟨hp, h.lo.ofTT fun k' c t ff hc ht => hk.keep k' (lt_of_heap hc) fun e => ?_, ⟨h.fi.1, (hk.keep _ (lt_of_heap h.fi.2) fun e => ?_).trans h.fi.2⟩, fun i hi => ?_⟩
  · subst e
    rw [h.pl.row] at hc
    injection hc with e1
    injection e1 with _ e2 _
    exact nl_frame (e2 ▸ ht)
  · have e0 := h.fi.2
    rw [e, h.pl.row] at e0
    injection e0 with e1
    injection e1 with _ e2 _
    revert e2
    decide
  · have hne : 0 ≠ g := fun e => by
      have a := h.tab 0 (by omega)
      have b := h.pl.at 0 _ rfl
      rw [← e, a] at b
      cases b
    have e := hk.keep _ h.tab.lt hne
    have a := h.tab i hi
    simp only [World.cell?, e] at a ⊢
    exact a
theorem PlI.ask {w : World} {P F L g k : Nat} {f : Fr} (h : PlI w P F L g k f) : PlI (w.setCell ⟨g, 1, none⟩ (.bool true)) P F L g k { f with asked := true } ∧ Kx g w (w.setCell ⟨g, 1, none⟩ (.bool true)) := by
  have hk : Kx g w (w.setCell ⟨g, 1, none⟩ (.bool true)) := (Kx.refl g w).step ((Below.refl g w).setCell (p := ⟨g, 1, none⟩) (Nat.le_refl _) _) fun i _ hg => Below.heap_setCell w ⟨g, 1, none⟩ _ i hg
  exact ⟨⟨(hk.keep _ (lt_of_heap h.pool) h.ne).trans h.pool, row_set (i := 1) h.row (.bool true), h.kk⟩, hk⟩
theorem PlI.glt {w : World} {P F L g k : Nat} {f : Fr} (h : PlI w P F L g k f) : g < w.heap.size := lt_of_heap h.row
theorem own_kx {w w' : World} {P F L g k base n : Nat} {f : Fr} {s : Value} {xs : List Value} (h : w.ownsRow base 5 1 s n xs) (hp : PlI w P F L g k f) (hk : Kx g w w') : w'.ownsRow base 5 1 s n xs :=
  own_same h fun b hb => by
    obtain ⟨c, hc⟩ := own_heap h hb
    refine hk.keep b (lt_of_heap hc) fun e => ?_
    rw [e, hp.row] at hc
    injection hc with e1
    injection e1 with _ e2 _
    revert e2
    decide
theorem own_bl {w w' : World} {base n : Nat} {s : Value} {xs : List Value} (h : w.ownsRow base 5 1 s n xs) (hb : Below w.heap.size w w') : w'.ownsRow base 5 1 s n xs :=
  own_same h fun b e => by
    obtain ⟨c, hc⟩ := own_heap h e
    exact hb.block _ (lt_of_heap hc)
theorem own_slice {w : World} {base : Nat} {e : TypeId} {v : Value} {n : Nat} {xs : List Value} (h : w.ownsRow base e 1 v n xs) : ∃ a m c, v = .slice a m c := by
  obtain ⟨ao, cap, rfl, _⟩ := own_any h
  exact ⟨_, _, _, rfl⟩

theorem get_bad {w : World} {base P F L g k B p0 np : Nat} {f : Fr} (h : PlI w P F L g k f) (hf : FileIs w base F B p0 np false) {i : Int} (hi : ¬ (0 ≤ i ∧ i < np)) :
    Calls Tryz.prog 7 #[.pointer (some ⟨P, 0, none⟩), .int .i64 i] w fun e w' => e = .returned (.tuple #[.agg #[.int .i64 0, .int .u64 0, .slice none 0 0], .int .i64 1]) ∧ Below w.heap.size w w' := by
  obtain ⟨wA, hwA⟩ : ∃ wA, w.alloc (.cells #[.int .i64 0, .int .u64 0, .slice none 0 0] 40) = wA := ⟨_, rfl⟩
  have hbx : Below w.heap.size w wA := by rw [← hwA]; exact (Below.refl _ _).alloc (Nat.le_refl _) _
  have hres : wA.heap[w.heap.size]? = some (.cells #[.int .i64 0, .int .u64 0, .slice none 0 0] 40 (0, 0)) := by rw [← hwA]; exact heap_new w _
  have HH := hid (pohas_any (h.below hbx) (hf.below hbx) i)
  have hd : decide (0 ≤ i ∧ i < (np : Int)) = false := by simp only [decide_eq_false_iff_not]; exact hi
  rw [hd] at HH
  have d0 := cell_of_row wA w.heap.size 0 _ _ _ hres
  have d1 := cell_of_row wA w.heap.size 1 _ _ _ hres
  have d2 := cell_of_row wA w.heap.size 2 _ _ _ hres
  have f0 := frozen_of_row wA w.heap.size 0 _ _ hres
  have f1 := frozen_of_row wA w.heap.size 1 _ _ hres
  have f2 := frozen_of_row wA w.heap.size 2 _ _ hres
  simp only [List.getElem?_toArray, List.getElem?_cons_succ, List.getElem?_cons_zero] at d0 d1 d2
  have HB := hid hbx
  clear h hf hd hbx hres hi
  go_enter Tryz.func7, Tryz.ntmps7
  go_wp2_with (go_at_call 14; refine HH.out.mono ?_; rintro e w2 ⟨rfl, hw⟩; have hw' := hw.symm; clear hw HH; subst hw')
  refine bodyPost_ret (v := .tuple #[.agg #[.int .i64 0, .int .u64 0, .slice none 0 0], .int .i64 1]) (by simp [results, Tryz.results7, go_sem, d0, d1, d2]) rfl ⟨rfl, ?_⟩
  exact ((HB.out.setCell (p := ⟨w.heap.size, 0, none⟩) (Nat.le_refl _) _).setCell (p := ⟨w.heap.size, 1, none⟩) (Nat.le_refl _) _).setCell (p := ⟨w.heap.size, 2, none⟩) (Nat.le_refl _) _
theorem get_held {w : World} {base P F L g k B n p0 np at' sc : Nat} {d : Dk} {lg : Lg} {a : Bool} {no : Nat} {lsn no2 lsn2 : Int} {s s2 : Value} {zs : List Int} (h : PW w base P F L g k B n p0 np at' sc d lg ⟨true, a, no, lsn, s, no2, lsn2, s2⟩) (hno : no < np) (ho : w.ownsRow 0 5 1 s zs.length (secV zs)) (hz : By zs) (hl : zs.length ≤ 65536) :
    Calls Tryz.prog 7 #[.pointer (some ⟨P, 0, none⟩), .int .i64 no] w fun e w' => ∃ s', e = .returned (.tuple #[.agg #[.int .i64 no, .int .u64 lsn, s'], .int .i64 0]) ∧ w'.ownsRow w.heap.size 5 1 s' zs.length (secV zs) ∧ PW w' base P F L g k B n p0 np at' sc d lg ⟨true, true, no, lsn, s, no2, lsn2, s2⟩ ∧ Kx g w w' := by
  obtain ⟨sa, sn, sc', rfl⟩ := own_slice ho
  obtain ⟨wA, hwA⟩ : ∃ wA, w.alloc (.cells #[.int .i64 0, .int .u64 0, .slice none 0 0] 40) = wA := ⟨_, rfl⟩
  have hbx : Below w.heap.size w wA := by rw [← hwA]; exact (Below.refl _ _).alloc (Nat.le_refl _) _
  have hres : wA.heap[w.heap.size]? = some (.cells #[.int .i64 0, .int .u64 0, .slice none 0 0] 40 (0, 0)) := by rw [← hwA]; exact heap_new w _
  have hpA := h.pl.below hbx
  have HH := hid (pohas_any hpA (h.fi.below hbx) (no : Int))
  have hd : decide (0 ≤ (no : Int) ∧ (no : Int) < (np : Int)) = true := by simp; omega
  rw [hd] at HH
  have HF := hid (frameOf_yes hpA rfl (i := no) rfl)
  obtain ⟨wC, hwC⟩ : ∃ wC, wA.setCell ⟨g, 1, none⟩ (.bool true) = wC := ⟨_, rfl⟩
  have hask := hpA.ask
  rw [hwC] at hask
  have hgw := h.pl.glt
  have hresC := (hask.2.keep _ (lt_of_heap hres) (by omega)).trans hres
  have HK := hid ((Kx.fresh (g := g) hbx).trans hask.2)
  have HC := hid (copyOf_any (no : Int) lsn (bs_own (own_kx ho h.pl HK.out) hz hl))
  obtain ⟨a0, a1, a2, a3, a4, a5, a6, a7⟩ := hpA.cells
  have z1 := hpA.frz 1
  obtain ⟨b0, b1, b2, b3, b4, b5, b6, b7⟩ := hask.1.cells
  dsimp only at a0 a1 a2 a3 a4 a5 a6 a7 b0 b1 b2 b3 b4 b5 b6 b7
  have HRC := hid hresC
  have HPC := hid hask.1
  have H := hid h
  have HL := hid HK.out.size
  generalize zs.length = N at *
  clear h hpA hbx hres hask hd hresC ho
  go_enter Tryz.func7, Tryz.ntmps7
  go_wp2_with (first
    | (go_at_call 14; refine HH.out.mono ?_; rintro e w2 ⟨rfl, hw⟩; have hw' := hw.symm; clear hw HH; subst hw')
    | (go_at_call 16; refine HF.out.mono ?_; rintro e w2 ⟨rfl, hw⟩; have hw' := hw.symm; clear hw HF; subst hw')
    | (go_at_call 17; refine HC.out.mono ?_; rintro e w3 ⟨s3, rfl, hown3, hb3⟩; obtain ⟨t3, c3, rfl, _⟩ := own_any hown3; have HO3 := hid hown3; have HB3 := hid hb3; have hr2 := (hb3.block _ (lt_of_heap HRC.out)).trans HRC.out; have d0 := cell_of_row w3 w.heap.size 0 _ _ _ hr2; have d1 := cell_of_row w3 w.heap.size 1 _ _ _ hr2; have d2 := cell_of_row w3 w.heap.size 2 _ _ _ hr2; have f0 := frozen_of_row w3 w.heap.size 0 _ _ hr2; have f1 := frozen_of_row w3 w.heap.size 1 _ _ hr2; have f2 := frozen_of_row w3 w.heap.size 2 _ _ hr2; simp only [List.getElem?_toArray, List.getElem?_cons_succ, List.getElem?_cons_zero] at d0 d1 d2; clear hown3 hb3 hr2 HC))
  have hfar := setCells_far w.heap.size [.int .i64 no, .int .u64 lsn, .slice t3 N c3] 0 w3
  have hkx : Kx g w (w3.setCells w.heap.size 0 [.int .i64 no, .int .u64 lsn, .slice t3 N c3]) := by
    have h1 := HK.out.trans (Kx.fresh HB3.out)
    exact h1.step hfar.1 fun i hi _ => hfar.2 i (by omega)
  have hpl : PlI (w3.setCells w.heap.size 0 [.int .i64 no, .int .u64 lsn, .slice t3 N c3]) P F L g k ⟨true, true, no, lsn, .slice sa sn sc', no2, lsn2, s2⟩ := by
    have h1 := HPC.out.below HB3.out
    have h2 := lt_of_heap H.out.pl.pool
    exact ⟨(hfar.2 _ (by omega)).trans h1.pool, (hfar.2 _ (by omega)).trans h1.row, h1.kk⟩
  refine bodyPost_ret (v := .tuple #[.agg #[.int .i64 no, .int .u64 lsn, .slice t3 N c3], .int .i64 0]) (by simp [results, Tryz.results7, go_sem, d0, d1, d2]) rfl ⟨_, rfl, ?_, H.out.kx hkx hpl, hkx⟩
  exact own_mono (own_far (g := w.heap.size) (o := 0) (vs := [.int .i64 no, .int .u64 lsn, .slice t3 N c3]) HO3.out (lt_of_heap HRC.out)) HL.out
end Go.Proofs.YtkbnjniglngjgaaGreatDoor

namespace Go.Proofs.YtkbnjniglngjgaaGreatDoor
open Go.RowKit

/-- A box that is made and written at once. -/
theorem box3 {w w1 w2 : World} {a b c a' b' c' : Value} {t : TypeId} (h1 : w.alloc (.cells #[a, b, c] t) = w1) (h2 : ((w1.setCell ⟨w.heap.size, 0, none⟩ a').setCell ⟨w.heap.size, 1, none⟩ b').setCell ⟨w.heap.size, 2, none⟩ c' = w2) :
    w2.heap[w.heap.size]? = some (.cells #[a', b', c'] t (0, 0)) ∧ Below w.heap.size w w2 ∧ w1.heap[w.heap.size]? = some (.cells #[a, b, c] t (0, 0)) := by
  have hr : w1.heap[w.heap.size]? = some (.cells #[a, b, c] t (0, 0)) := by rw [← h1]; exact heap_new w _
  have hb : Below w.heap.size w w1 := by rw [← h1]; exact (Below.refl _ _).alloc (Nat.le_refl _) _
  refine ⟨?_, ?_, hr⟩
  · rw [← h2]
    exact row_set (i := 2) (row_set (i := 1) (row_set (i := 0) (cs := [a, b, c]) hr a') b') c'
  · rw [← h2]
    exact ((hb.setCell (p := ⟨w.heap.size, 0, none⟩) (Nat.le_refl _) _).setCell (p := ⟨w.heap.size, 1, none⟩) (Nat.le_refl _) _).setCell (p := ⟨w.heap.size, 2, none⟩) (Nat.le_refl _) _
/-- What a loaded page needs of its box. -/
theorem box_cells {w : World} {m : Nat} {a b c : Value} {t : TypeId} (h : w.heap[m]? = some (.cells #[a, b, c] t (0, 0))) : w.cell? ⟨m, 0, none⟩ = some a ∧ w.cell? ⟨m, 1, none⟩ = some b ∧ w.cell? ⟨m, 2, none⟩ = some c ∧ w.frozen? ⟨m, 0, none⟩ = false ∧ w.frozen? ⟨m, 1, none⟩ = false ∧ w.frozen? ⟨m, 2, none⟩ = false :=
  ⟨cell_of_row w m 0 _ _ _ h, cell_of_row w m 1 _ _ _ h, cell_of_row w m 2 _ _ _ h, frozen_of_row w m 0 _ _ h, frozen_of_row w m 1 _ _ h, frozen_of_row w m 2 _ _ h⟩

set_option maxRecDepth 8000 in
set_option maxHeartbeats 1600000 in
theorem get_file {w : World} {base P F L g k B n p0 np at' sc : Nat} {d : Dk} {lg : Lg} {f : Fr} {no : Nat} (h : PW w base P F L g k B n p0 np at' sc d lg f) (hh : f.held = false) (hno : no < np) (hl : d.left ≠ 0) (hp : p0 + np * 8 ≤ n) (hok : OkAt (secs d.now (p0 + no * 8) 8) no) {pg : Pg} (hpg : fetchP (secs d.now (p0 + no * 8) 8) no = pg) (hby : By pg.data) (hlen : pg.data.length = 480) :
    Calls Tryz.prog 7 #[.pointer (some ⟨P, 0, none⟩), .int .i64 no] w fun e w' => ∃ s s', e = .returned (.tuple #[.agg #[.int .i64 pg.no, .int .u64 pg.lsn, s'], .int .i64 0]) ∧ w'.ownsRow w.heap.size 5 1 s' 480 (secV pg.data) ∧ w'.ownsRow w.heap.size 5 1 s 480 (secV pg.data) ∧ PW w' base P F L g k B n p0 np at' sc d lg ⟨true, true, pg.no, pg.lsn, s, pg.no, pg.lsn, s⟩ ∧ Kx g w w' := by
  obtain ⟨wA, hwA⟩ : ∃ wA, w.alloc (.cells #[.int .i64 0, .int .u64 0, .slice none 0 0] 40) = wA := ⟨_, rfl⟩
  have hbx : Below w.heap.size w wA := by rw [← hwA]; exact (Below.refl _ _).alloc (Nat.le_refl _) _
  have hres : wA.heap[w.heap.size]? = some (.cells #[.int .i64 0, .int .u64 0, .slice none 0 0] 40 (0, 0)) := by rw [← hwA]; exact heap_new w _
  have hpA := h.pl.below hbx
  have HH := hid (pohas_any hpA (h.fi.below hbx) (no : Int))
  have hd : decide (0 ≤ (no : Int) ∧ (no : Int) < (np : Int)) = true := by simp; omega
  rw [hd] at HH
  have HF := hid (frameOf_no hpA hh (no : Int))
  have HR := hid (pread_any (h.lo.1.below hbx) (h.fi.below hbx) hl (h.tab.below hbx (Nat.le_refl _)) hp hno hok)
  rw [hpg] at HR
  obtain ⟨q0, q1, q2⟩ := hpA.cP
  have HRA := hid hres
  have HPA := hid hpA
  have HBX := hid hbx
  have hgw := h.pl.glt
  have H := hid h
  have HBY := hid hby
  have HHH := hid hh
  clear h hpA hbx hres hd hok hpg hl hby hh
  go_enter Tryz.func7, Tryz.ntmps7
  go_wp2_with (first
    | (go_at_call 14; refine HH.out.mono ?_; rintro e w2 ⟨rfl, hw⟩; have hw' := hw.symm; clear hw HH; subst hw')
    | (go_at_call 16; refine HF.out.mono ?_; rintro e w2 ⟨rfl, hw⟩; have hw' := hw.symm; clear hw HF; subst hw')
    | (go_at_call 18; refine HR.out.mono ?_; rintro e w1 ⟨s1, rfl, hown1, hb1⟩; obtain ⟨t1, c1, rfl, _⟩ := own_any hown1; obtain ⟨w2, hw2⟩ : ∃ w2, w1.alloc (.cells #[.int .i64 0, .int .u64 0, .slice none 0 0] 40) = w2 := ⟨_, rfl⟩; obtain ⟨V, hV⟩ : ∃ V, ((w2.setCell ⟨w1.heap.size, 0, none⟩ (.int .i64 pg.no)).setCell ⟨w1.heap.size, 1, none⟩ (.int .u64 pg.lsn)).setCell ⟨w1.heap.size, 2, none⟩ (.slice t1 480 c1) = V := ⟨_, rfl⟩; obtain ⟨hbV, hBV, hb2⟩ := box3 hw2 hV; obtain ⟨d0, d1, d2, f0, f1, f2⟩ := box_cells hb2; obtain ⟨e0, e1, e2, -, -, -⟩ := box_cells hbV; have HBV := hid (HBX.out.trans ((hb1.mono HBX.out.size).trans (hBV.mono (Nat.le_trans HBX.out.size hb1.size)))); have HV := hid hbV; have HRV := hid ((hBV.block _ (Nat.lt_of_lt_of_le (lt_of_heap HRA.out) hb1.size)).trans ((hb1.block _ (lt_of_heap HRA.out)).trans HRA.out)); have HPV := hid ((HPA.out.below hb1).below hBV); have HOV := hid (own_bl hown1 hBV); have HLE := hid (Nat.le_trans HBX.out.size hb1.size); have HL1 := hid (lt_of_heap HRA.out); have HHO := hid (hold_any HPV.out HHH.out (pg.no : Int) pg.lsn (pg.no : Int) pg.lsn ⟨t1, 480, c1, rfl⟩ ⟨t1, 480, c1, rfl⟩); clear hown1 hb1 hbV hBV hb2 HR)
    | (go_at_call 19; refine HHO.out.mono ?_; rintro e w4 ⟨rfl, hp4, hk4⟩; have hne4 : w1.heap.size ≠ g := (fun e => Nat.lt_irrefl _ (Nat.lt_of_lt_of_le hgw (e ▸ HLE.out))); have hr4 := (hk4.keep _ (lt_of_heap HV.out) hne4).trans HV.out; obtain ⟨g0, g1, g2, -, -, -⟩ := box_cells hr4; have HP4 := hid hp4; have HK4 := hid ((Kx.fresh (g := g) HBV.out).trans hk4); have HO4 := hid (own_kx HOV.out HPV.out hk4); have HR4 := hid ((hk4.keep _ (lt_of_heap HRV.out) (Nat.ne_of_gt hgw)).trans HRV.out); have HC := hid (copyOf_any (pg.no : Int) pg.lsn (bs_own HO4.out HBY.out (by omega))); clear hp4 hk4 hr4 HHO e0 e1 e2)
    | (go_at_call 17; refine HC.out.mono ?_; rintro e w5 ⟨s5, rfl, hown5, hb5⟩; rw [hlen] at hown5; obtain ⟨t5, c5, rfl, _⟩ := own_any hown5; have HO5 := hid hown5; have HB5 := hid hb5; have hr5 := (hb5.block _ (lt_of_heap HR4.out)).trans HR4.out; obtain ⟨k0, k1, k2, x0, x1, x2⟩ := box_cells hr5; clear hown5 hb5 hr5 HC g0 g1 g2))
  have hfar := setCells_far w.heap.size [.int .i64 pg.no, .int .u64 pg.lsn, .slice t5 480 c5] 0 w5
  have hkx : Kx g w (w5.setCells w.heap.size 0 [.int .i64 pg.no, .int .u64 pg.lsn, .slice t5 480 c5]) := by
    have h1 := HK4.out.trans (Kx.fresh HB5.out)
    exact h1.step hfar.1 fun i hi _ => hfar.2 i (by omega)
  have hpl : PlI (w5.setCells w.heap.size 0 [.int .i64 pg.no, .int .u64 pg.lsn, .slice t5 480 c5]) P F L g k ⟨true, true, pg.no, pg.lsn, .slice t1 480 c1, pg.no, pg.lsn, .slice t1 480 c1⟩ := by
    have h1 := HP4.out.below HB5.out
    have h2 := lt_of_heap H.out.pl.pool
    exact ⟨(hfar.2 _ (by omega)).trans h1.pool, (hfar.2 _ (by omega)).trans h1.row, h1.kk⟩
  refine bodyPost_ret (v := .tuple #[.agg #[.int .i64 pg.no, .int .u64 pg.lsn, .slice t5 480 c5], .int .i64 0]) (by simp [results, Tryz.results7, go_sem, k0, k1, k2]) rfl ⟨.slice t1 480 c1, _, rfl, ?_, ?_, H.out.kx hkx hpl, hkx⟩
  · exact own_mono (own_far (g := w.heap.size) (o := 0) (vs := [.int .i64 pg.no, .int .u64 pg.lsn, .slice t5 480 c5]) HO5.out (lt_of_heap HR4.out)) HK4.out.size
  · refine own_mono ?_ HBX.out.size
    exact own_same (own_bl HO4.out HB5.out) fun b hb => hfar.2 b (by have := own_base HO4.out b hb; have := HL1.out; omega)
end Go.Proofs.YtkbnjniglngjgaaGreatDoor
