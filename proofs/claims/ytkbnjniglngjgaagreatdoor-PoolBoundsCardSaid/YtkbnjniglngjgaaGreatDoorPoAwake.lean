/-
  Layer 5: what terrierlaw5.awake gives: true.
-/
import Derived.Test.YtkbnjniglngjgaaGreatDoorPoSaveW
import Derived.Test.YtkbnjniglngjgaaGreatDoorPoFlush
import Derived.Test.YtkbnjniglngjgaaGreatDoorPoMade
import Derived.Test.YtkbnjniglngjgaaGreatDoorPoDirty
import Derived.Test.YtkbnjniglngjgaaGreatDoorPoPlain
import Derived.Test.YtkbnjniglngjgaaGreatDoorWAppend
namespace Go.Proofs.YtkbnjniglngjgaaGreatDoor
open Go.RowKit

theorem nl_pl : ¬ logT 55 := by unfold logT diskT; decide
theorem OwI.kz {w w' : World} {O F L P F' L' g k b base B n p0 np at' sc : Nat} {d : Dk} {lg : Lg} {f : Fr} (h : OwI w O F L P) (hp : PW w base P F L' g k B n p0 np at' sc d lg f) (hk : Kz b F' L' g w w') : OwI w' O F L P := by
  obtain ⟨_, _, _, _, hh, _⟩ := hp.lo.form
  refine h.same fun c hc => hk.keep _ _ _ _ hc (fun e => nl_pw (.inl e)) (by decide) (fun e => ?_) (fun e => ?_)
  · rw [e, hh] at hc
    injection hc with e1
    injection e1 with _ e2 _
    revert e2
    decide
  · rw [e, hp.pl.row] at hc
    injection hc with e1
    injection e1 with _ e2 _
    revert e2
    decide
/-- The first record. -/
theorem awake_append {w : World} {base O P F L g k B : Nat} {f : Fr} (hO : OwI w O F L P) (h : PW w base P F L g k B 224 0 8 144 80 (Dk.new 224).flush Lg.fresh f) (hg : 0 < base) :
    Calls Tryz.prog 21 #[.pointer (some ⟨L, 0, none⟩), .slice (some ⟨w.heap.size, 0, none⟩) 1 1] (w.alloc (.cells #[.int .u8 120] 5 (1, 2))) fun e w' => e = .returned (.tuple #[.int .u64 1, .int .i64 0]) ∧ OwI w' O F L P ∧ PW w' base P F L g k B 224 0 8 144 80 (Dk.new 224).flush g1 f ∧ Below base w w' := by
  have hbA : Below w.heap.size w (w.alloc (.cells #[.int .u8 120] 5 (1, 2))) := (Below.refl _ _).alloc (Nat.le_refl _) _
  have hA := heap_new w (.cells #[.int .u8 120] 5 (1, 2))
  have hbs : ArgBs w.heap.size (w.alloc (.cells #[.int .u8 120] 5 (1, 2))) (.slice (some ⟨w.heap.size, 0, none⟩) 1 1) [120] := by
    refine ⟨⟨range_of (by simp), by simp, .inr ⟨w.heap.size, 0, 1, rfl, by simp, fun j hj => ?_⟩⟩, fun b e => ?_⟩
    · obtain rfl : j = 0 := by simpa using hj
      rw [Nat.zero_add, cell_of_row _ _ _ _ _ _ hA]
      rfl
    · simp only [Value.ownBlock, Option.some.injEq] at e
      subst e
      exact ⟨Nat.le_refl _, lt_of_heap hA⟩
  have hle := h.lo.1.base_le
  refine (append_any h.lo hbA (by rw [d0_left]; decide) (h.tab.below hbA (Nat.le_refl _)) hg hbs (by simp) (by simp [Lg.fresh]) (by simp [Lg.fresh]) (by simp [Lg.fresh]) (by simp [Lg.fresh]) (by simp [Lg.fresh]) (by simp [Lg.fresh])).mono ?_
  rintro e w' ⟨rfl, hl', hk'⟩
  have hp := h.below hbA
  have hb' : Below base w w' := (hbA.mono hle).trans hk'.below
  refine ⟨rfl, (hO.below hbA).same fun c hc => hk'.keep _ _ _ _ hc nl_pw, ⟨⟨(hk'.keep _ _ _ _ hp.pl.pool nl_pl).trans hp.pl.pool, (hk'.keep _ _ _ _ hp.pl.row nl_frame).trans hp.pl.row, hp.pl.kk⟩, hl', ⟨hp.fi.1, (hk'.keep _ _ _ _ hp.fi.2 nl_pf).trans hp.fi.2⟩, tab_kd h.tab hg hb'⟩, hb'⟩
/-- The page is put. -/
theorem awake_put {w : World} {base O P F L g k B : Nat} {sa : Option Addr} {sn sc : Nat} (hO : OwI w O F L P) (h : PW w base P F L g k B 224 0 8 144 80 (Dk.new 224).flush g1 Fr.none) (hgb : base ≤ g) (ho : w.ownsRow 0 5 1 (.slice sa sn sc) 480 (secV (dataL 9))) :
    Calls Tryz.prog 6 #[.pointer (some ⟨P, 0, none⟩), .agg #[.int .i64 3, .int .u64 1, .slice sa sn sc]] w fun e w' => e = .returned (.int .i64 0) ∧ OwI w' O F L P ∧ (∃ s' s2, w'.ownsRow 0 5 1 s' 480 (secV (dataL 9)) ∧ (∃ x y z, s2 = .slice x y z) ∧ PW w' base P F L g k B 224 0 8 144 80 (Dk.new 224).flush g1 ⟨true, true, 3, 1, s', 3, 0, s2⟩) ∧ Below base w w' := by
  have hst : FSt (Dk.new 224).flush.now 0 8 (fun _ => none) := by rw [flush_now]; exact pnew_st (by omega) (by omega)
  have hfe := hst.fetch (no := 3) (by omega)
  refine (put_new (no := 3) (lsn := 1) (zs := dataL 9) h rfl (by omega) (by decide) (by rw [d0_left]; decide) (by omega) hfe.1 hfe.2 (bs_own ho (dataL_by 9) (by rw [dataL_len]; omega)) (dataL_len 9)).mono ?_
  rintro e w' ⟨s', s2, rfl, h1, h2, h3, h4⟩
  exact ⟨rfl, hO.kx h.pl h4, ⟨s', s2, own_mono h1 (Nat.zero_le _), own_slice h2, h3⟩, h4.below hgb h.lo.1.base_le⟩
/-- The page is evicted. -/
theorem awake_evict {w : World} {base O P F L g k B : Nat} {s' s2 : Value} (hO : OwI w O F L P) (h : PW w base P F L g k B 224 0 8 144 80 (Dk.new 224).flush g1 ⟨true, true, 3, 1, s', 3, 0, s2⟩) (hgb : base ≤ g) (hg : 0 < base) (ho : w.ownsRow 0 5 1 s' 480 (secV (dataL 9))) (hs2 : ∃ x y z, s2 = .slice x y z) :
    Calls Tryz.prog 8 #[.pointer (some ⟨P, 0, none⟩), .int .i64 3] w fun e w' => e = .returned (.int .i64 0) ∧ OwI w' O F L P ∧ PW w' base P F L g k B 224 0 8 144 80 d2 g1.flush Fr.none ∧ Below base w w' ∧ d1.Ok 224 := by
  have hF : ∀ wx, LogIs wx base L B 224 144 80 (Dk.new 224).flush g1 → TabOk wx → Calls Tryz.prog 62 #[.pointer (some ⟨L, 0, none⟩)] wx fun e w' => e = .returned (.int .i64 0) ∧ LogIs w' base L B 224 144 80 d1 g1.flush ∧ Kf base L wx w' := fun wx hx ht =>
    lflush_kf hx ht hg d0_left (by decide) (by rw [g1_tail]; decide) (by rw [g1_tail]; omega) (by simp [Dk.flush]) (by rw [fl_writes]; simp [Dk.new]) (q := 1) (by rw [g1_tail]; omega) (by rw [g1_tail]; omega)
  have hW : ∀ wx v, DiskIs wx base B 224 d1 → FileIs wx base F B 0 8 false → TabOk wx → Pgs wx v [⟨3, 1, dataL 9⟩] → Calls Tryz.prog 63 #[.pointer (some ⟨F, 0, none⟩), v] wx fun e w' => e = .returned (.int .i64 0) ∧ DiskIs w' base B 224 d2 ∧ FileIs w' base F B 0 8 false ∧ Kp base F wx w' := fun wx v hd hf ht hp => by
    have hz := (d2_all hd.ok).1
    refine (pwrite_any hd hf ht hg (by omega) (by omega) (ps := [pg3]) hp takes3 (by simp) d1_small.1 d1_small.2).mono ?_
    rintro e w' ⟨rfl, h1, ⟨half, h2, h3⟩, h4⟩
    obtain rfl := h3 hz
    rw [hz]
    exact ⟨rfl, h1, h2, h4⟩
  have hs := save_dirty (no := 3) (lsn := 1) (zs := dataL 9) h hgb hg (by decide) (by decide) (by rw [dataL_len]; exact ho) hs2 hF hW
  refine (evict_of (no := 3) h.pl h.fi rfl rfl (by omega) hs).mono ?_
  rintro e w' ⟨rfl, w1, ⟨⟨f2, hp1⟩, hz1, hok⟩, hp', hk'⟩
  exact ⟨rfl, (hO.kz h hz1).kx hp1.pl hk', hp1.kx hk' hp', hz1.below.trans (hk'.below hgb hp1.lo.1.base_le), hok⟩
/-- The page is read again. -/
theorem awake_get {w : World} {base O P F L g k B : Nat} {lg : Lg} (hO : OwI w O F L P) (h : PW w base P F L g k B 224 0 8 144 80 d2 lg Fr.none) (hgb : base ≤ g) (hok : d1.Ok 224) :
    Calls Tryz.prog 7 #[.pointer (some ⟨P, 0, none⟩), .int .i64 3] w fun e w' => ∃ s s', e = .returned (.tuple #[.agg #[.int .i64 3, .int .u64 1, s'], .int .i64 0]) ∧ w'.ownsRow w.heap.size 5 1 s' 480 (secV (dataL 9)) ∧ w'.ownsRow w.heap.size 5 1 s 480 (secV (dataL 9)) ∧ OwI w' O F L P ∧ PlI w' P F L g k ⟨true, true, 3, 1, s, 3, 1, s⟩ ∧ Below base w w' := by
  obtain ⟨_, hl, hst⟩ := d2_all hok
  have hfe := (hst h.lo.1.ok).fetch (no := 3) (by omega)
  have hto : told (upd (fun _ => none) [pg3]) 3 = pg3 := rfl
  rw [hto] at hfe
  refine (get_file (no := 3) h rfl (by omega) (by rw [hl]; decide) (by omega) hfe.1 hfe.2 (dataL_by 9) (dataL_len 9)).mono ?_
  rintro e w' ⟨s, s', rfl, h1, h2, h3, h4⟩
  exact ⟨s, s', rfl, h1, h2, hO.kx h.pl h4, h3.pl, h4.below hgb h.lo.1.base_le⟩
end Go.Proofs.YtkbnjniglngjgaaGreatDoor
