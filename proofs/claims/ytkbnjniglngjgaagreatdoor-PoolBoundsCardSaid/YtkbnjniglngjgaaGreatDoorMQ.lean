/-
  Layer 5: what save, letGo and Evict of a Pool give, where nothing need be written.
-/
import Derived.Test.YtkbnjniglngjgaaGreatDoorMP
import Derived.Test.YtkbnjniglngjgaaGreatDoorPoPut
import Derived.Test.YtkbnjniglngjgaaGreatDoorPoKf
import Derived.Test.YtkbnjniglngjgaaGreatDoorGWrite
namespace Go.Proofs.YtkbnjniglngjgaaGreatDoor
open Go.RowKit

theorem save_clean {w : World} {P F L g k : Nat} {f : Fr} (h : PlI w P F L g k f) (he : f.lsn = f.lsn2) {zs : List Int} (hx : Bs w f.s zs) (hy : Bs w f.s2 zs) :
    Calls Tryz.prog 35 #[.pointer (some ⟨P, 0, none⟩), .pointer (some ⟨g, 0, none⟩)] w fun e w' => e = .returned (.int .i64 0) ∧ ∃ q, w' = w.drewN q := by
  have HD := hid (dirty_eq h he hx hy)
  have hd : (!decide (zs = zs)) = false := by simp
  rw [hd] at HD
  clear h hx hy hd
  go_enter Tryz.func35, Tryz.ntmps35
  go_wp2_with (go_at_call 42; refine HD.out.mono ?_; rintro e w2 ⟨rfl, q, hw⟩; have HW := hid hw; clear hw HD)
  go_ret
  exact ⟨rfl, q, HW.out⟩
/-- A frame that is emptied, however it was saved. -/
theorem letGo_of {w : World} {P F L g k : Nat} {Q : World → Prop} (hc : Calls Tryz.prog 35 #[.pointer (some ⟨P, 0, none⟩), .pointer (some ⟨g, 0, none⟩)] w fun e w' => e = .returned (.int .i64 0) ∧ (∃ f2, PlI w' P F L g k f2) ∧ Q w') :
    Calls Tryz.prog 20 #[.pointer (some ⟨P, 0, none⟩), .pointer (some ⟨g, 0, none⟩)] w fun e w' => e = .returned (.int .i64 0) ∧ ∃ w1, Q w1 ∧ PlI w' P F L g k Fr.none ∧ Kx g w1 w' := by
  have HC := hid hc
  clear hc
  go_enter Tryz.func20, Tryz.ntmps20
  go_wp2_with (go_at_call 35; refine HC.out.mono ?_; rintro e w2 ⟨rfl, ⟨f2, hp2⟩, hq2⟩; have HQ2 := hid hq2; have H2 := hid hp2; have z0 := H2.out.frz 0; have z1 := H2.out.frz 1; have z2 := H2.out.frz 2; have z3 := H2.out.frz 3; have z4 := H2.out.frz 4; have z5 := H2.out.frz 5; have z6 := H2.out.frz 6; have z7 := H2.out.frz 7; obtain ⟨a0, a1, a2, a3, a4, a5, a6, a7⟩ := H2.out.cells; clear hp2 hq2 HC)
  go_ret
  have hS := H2.out.set Fr.none
  exact ⟨rfl, w2, HQ2.out, hS.1, hS.2⟩
theorem evict_of {w : World} {base P F L g k B p0 np : Nat} {f : Fr} {no : Nat} {Q : World → Prop} (h : PlI w P F L g k f) (hf : FileIs w base F B p0 np false) (hh : f.held = true) (hno : f.no = no) (hlt : no < np) (hc : Calls Tryz.prog 35 #[.pointer (some ⟨P, 0, none⟩), .pointer (some ⟨g, 0, none⟩)] w fun e w' => e = .returned (.int .i64 0) ∧ (∃ f2, PlI w' P F L g k f2) ∧ Q w') :
    Calls Tryz.prog 8 #[.pointer (some ⟨P, 0, none⟩), .int .i64 no] w fun e w' => e = .returned (.int .i64 0) ∧ ∃ w1, Q w1 ∧ PlI w' P F L g k Fr.none ∧ Kx g w1 w' := by
  have HL := hid (letGo_of hc)
  have HH := hid (pohas_any h hf (no : Int))
  have hd : decide (0 ≤ (no : Int) ∧ (no : Int) < (np : Int)) = true := by simp; omega
  rw [hd] at HH
  have HF := hid (frameOf_yes h hh hno)
  clear h hf hc hd
  go_enter Tryz.func8, Tryz.ntmps8
  go_wp2_with (first
    | (go_at_call 14; refine HH.out.mono ?_; rintro e w2 ⟨rfl, hw⟩; have hw' := hw.symm; clear hw HH; subst hw')
    | (go_at_call 16; refine HF.out.mono ?_; rintro e w2 ⟨rfl, hw⟩; have hw' := hw.symm; clear hw HF; subst hw')
    | (go_at_call 20; refine HL.out.mono ?_; rintro e w3 ⟨rfl, hx⟩; have HX := hid hx; clear hx HL))
  go_ret
  exact ⟨rfl, HX.out⟩
theorem evict_bad {w : World} {base P F L g k B p0 np : Nat} {f : Fr} (h : PlI w P F L g k f) (hf : FileIs w base F B p0 np false) {i : Int} (hi : ¬ (0 ≤ i ∧ i < np)) :
    Calls Tryz.prog 8 #[.pointer (some ⟨P, 0, none⟩), .int .i64 i] w fun e w' => e = .returned (.int .i64 1) ∧ w' = w := by
  have HH := hid (pohas_any h hf i)
  have hd : decide (0 ≤ i ∧ i < (np : Int)) = false := by simp only [decide_eq_false_iff_not]; exact hi
  rw [hd] at HH
  clear h hf hd hi
  go_enter Tryz.func8, Tryz.ntmps8
  go_wp2_with (go_at_call 14; refine HH.out.mono ?_; rintro e w2 ⟨rfl, hw⟩; have hw' := hw.symm; clear hw HH; subst hw')
  go_ret
  exact ⟨rfl, rfl⟩
end Go.Proofs.YtkbnjniglngjgaaGreatDoor

namespace Go.Proofs.YtkbnjniglngjgaaGreatDoor
open Go.RowKit

theorem LogIs.kp {w w' : World} {base b2 F L B n at' sc : Nat} {d d' : Dk} {g : Lg} (h : LogIs w base L B n at' sc d g) (hd : DiskIs w' base B n d') (hk : Kp b2 F w w') : LogIs w' base L B n at' sc d' g := by
  obtain ⟨_, hL, hs, hn, hby, rv, tv, hh, ht, hr⟩ := h
  refine ⟨hd, hL, hs, hn, hby, rv, tv, (hk.keep L _ _ _ hh (by unfold diskT; decide) (.inl (by decide))).trans hh, own_kp ht hk, hr.all fun k c t hc h2 => hk.keep k c t _ hc ?_ (.inl ?_)⟩
  · rcases h2 with rfl | rfl <;> (unfold diskT; decide)
  · rcases h2 with rfl | rfl <;> decide
theorem nd_pool : ¬ diskT 55 := by unfold diskT; decide
theorem nd_frame : ¬ diskT 62 := by unfold diskT; decide
theorem PlI.kp {w w' : World} {P F L g k b F' : Nat} {f : Fr} (h : PlI w P F L g k f) (hk : Kp b F' w w') : PlI w' P F L g k f :=
  ⟨(hk.keep _ _ _ _ h.pool nd_pool (.inl (by decide))).trans h.pool, (hk.keep _ _ _ _ h.row nd_frame (.inl (by decide))).trans h.row, h.kk⟩
theorem PlI.kf {w w' : World} {P F L g k b base B n at' sc : Nat} {d : Dk} {lg : Lg} {f : Fr} (h : PlI w P F L g k f) (hl : LogIs w base L B n at' sc d lg) (hk : Kf b L w w') : PlI w' P F L g k f := by
  obtain ⟨_, _, _, _, hh, _⟩ := hl.form
  have hne : ∀ (i : Nat) (c : Array Value) (t : TypeId) (ff : Nat × Nat), w.heap[i]? = some (Obj.cells c t ff) → t ≠ 80 → i ≠ L := fun i c t ff hi ht e => by
    rw [e, hh] at hi
    injection hi with e1
    injection e1 with _ e2 _
    exact ht e2.symm
  exact ⟨(hk.keep _ _ _ _ h.pool nd_pool (hne _ _ _ _ h.pool (by decide))).trans h.pool, (hk.keep _ _ _ _ h.row nd_frame (hne _ _ _ _ h.row (by decide))).trans h.row, h.kk⟩
theorem own_kf {w w' : World} {b L base B n at' sc bs m : Nat} {d : Dk} {lg : Lg} {s : Value} {xs : List Value} (h : w.ownsRow bs 5 1 s m xs) (hl : LogIs w base L B n at' sc d lg) (hk : Kf b L w w') : w'.ownsRow bs 5 1 s m xs := by
  obtain ⟨_, _, _, _, hh, _⟩ := hl.form
  refine own_same h fun i hi => ?_
  obtain ⟨c, hc⟩ := own_heap h hi
  refine hk.keep _ _ _ _ hc (by unfold diskT; decide) fun e => ?_
  rw [e, hh] at hc
  injection hc with e1
  injection e1 with _ e2 _
  revert e2
  decide
theorem FileIs.kf {w w' : World} {b L base B n at' sc F p0 np : Nat} {d : Dk} {lg : Lg} {half : Bool} (h : FileIs w base F B p0 np half) (hl : LogIs w base L B n at' sc d lg) (hk : Kf b L w w') : FileIs w' base F B p0 np half := by
  obtain ⟨_, _, _, _, hh, _⟩ := hl.form
  refine ⟨h.1, (hk.keep _ _ _ _ h.2 nd_pf fun e => ?_).trans h.2⟩
  have h2 := h.2
  rw [e, hh] at h2
  injection h2 with e1
  injection e1 with _ e2 _
  revert e2
  decide
theorem PlI.sav {w : World} {P F L g k : Nat} {f : Fr} (h : PlI w P F L g k f) (no2 lsn2 : Int) (s2 : Value) : PlI (w.setCells g 5 [.int .i64 no2, .int .u64 lsn2, s2]) P F L g k { f with no2 := no2, lsn2 := lsn2, s2 := s2 } ∧ Kx g w (w.setCells g 5 [.int .i64 no2, .int .u64 lsn2, s2]) := by
  have hf := setCells_far g [.int .i64 no2, .int .u64 lsn2, s2] 5 w
  have hk : Kx g w (w.setCells g 5 [.int .i64 no2, .int .u64 lsn2, s2]) := (Kx.refl g w).step hf.1 fun i _ hg => hf.2 i hg
  exact ⟨⟨(hk.keep _ (lt_of_heap h.pool) h.ne).trans h.pool, row_set (i := 7) (row_set (i := 6) (row_set (i := 5) h.row _) _) _, h.kk⟩, hk⟩
theorem pgs_single {w : World} {no : Nat} {lsn : Int} {a : Option Addr} {N c : Nat} {zs : List Int} (h : w.ownsRow 0 5 1 (.slice a N c) zs.length (secV zs)) : Pgs (w.alloc (.cells #[.int .i64 no, .int .u64 lsn, .slice a N c] 40)) (.slice (some ⟨w.heap.size, 0, none⟩) 1 1) [⟨no, lsn, zs⟩] := by
  have hb := heap_new w (.cells #[.int .i64 no, .int .u64 lsn, .slice a N c] 40 (0, 0))
  obtain ⟨c0, c1, c2, _⟩ := box_cells hb
  refine ⟨some ⟨w.heap.size, 0, none⟩, 1, rfl, Nat.le_refl _, fun _ => ⟨_, 0, _, _, rfl, hb, fun k p hk => ?_⟩⟩
  have hk0 : k = 0 := by
    have := (List.getElem?_eq_some_iff.1 hk).1
    simp at this
    exact this
  subst hk0
  simp at hk
  subst hk
  exact ⟨_, c0, c1, c2, own_bl h ((Below.refl _ _).alloc (Nat.le_refl _) _)⟩
theorem PW.drewN {w : World} {base P F L g k B n p0 np at' sc : Nat} {d : Dk} {lg : Lg} {f : Fr} (h : PW w base P F L g k B n p0 np at' sc d lg f) (q : Nat) : PW (w.drewN q) base P F L g k B n p0 np at' sc d lg f := h.below (below_drewN (Below.refl _ w) q)
/-- The frame behind Flush, the Write and what both leave. -/
structure Kz (base F L g : Nat) (w w' : World) : Prop where
  below : Below base w w'
  keep : ∀ (i : Nat) (c : Array Value) (t : TypeId) (f : Nat × Nat), w.heap[i]? = some (Obj.cells c t f) → ¬ diskT t → t ≠ 76 → i ≠ L → i ≠ g → w'.heap[i]? = w.heap[i]?
theorem Kz.trans {base F L g : Nat} {a b c : World} (h : Kz base F L g a b) (k : Kz base F L g b c) : Kz base F L g a c :=
  ⟨h.below.trans k.below, fun i x t f hx hd h1 h2 h3 => by
    have e := h.keep i x t f hx hd h1 h2 h3
    exact (k.keep i x t f (e.trans hx) hd h1 h2 h3).trans e⟩
theorem Kz.kf {base F L g : Nat} {w w' : World} (h : Kf base L w w') : Kz base F L g w w' := ⟨h.below, fun i c t f hi hd _ hL _ => h.keep i c t f hi hd hL⟩
theorem Kz.kp {base F L g : Nat} {w w' : World} (h : Kp base F w w') : Kz base F L g w w' := ⟨h.below, fun i c t f hi hd hF _ _ => h.keep i c t f hi hd (.inl hF)⟩
theorem Kz.fresh {base F L g : Nat} {w w' : World} (h : Below w.heap.size w w') (hb : base ≤ w.heap.size) : Kz base F L g w w' := .kp (Kp.fresh h hb)
theorem Kz.cells {base F L g : Nat} (hg : base ≤ g) (o : Nat) (vs : List Value) (w : World) : Kz base F L g w (w.setCells g o vs) := ⟨(setCells_far g vs o w).1.mono hg, fun i _ _ _ _ _ _ _ h => (setCells_far g vs o w).2 i h⟩
end Go.Proofs.YtkbnjniglngjgaaGreatDoor
