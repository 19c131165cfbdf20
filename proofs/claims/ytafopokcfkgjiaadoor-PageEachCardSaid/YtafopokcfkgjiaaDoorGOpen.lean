/-
  Layer 3: what page.settle, Open and Read give, on a disk that does not die.
-/
import Derived.Test.YtafopokcfkgjiaaDoorGRedo
namespace Go.Proofs.YtafopokcfkgjiaaDoor
open Go.RowKit

/-- What a call on the File in block F leaves as it was: all below base, and all that is no disk's and not that File. -/
structure Kp (base F : Nat) (w w' : World) : Prop where
  below : Below base w w'
  keep : ∀ (k : Nat) (c : Array Value) (t : TypeId) (f : Nat × Nat), w.heap[k]? = some (Obj.cells c t f) → ¬ diskT t → (t ≠ 52 ∨ k ≠ F) → w'.heap[k]? = w.heap[k]?
theorem Kp.of_kd {base F : Nat} {w w' : World} (h : Kd base w w') : Kp base F w w' := ⟨h.below, fun k c t f hk hd _ => h.keep k c t f hk (fun e => hd (.inl e)) (fun e => hd (.inr (.inl e))) (fun e => hd (.inr (.inr e)))⟩
theorem Kp.trans {base F : Nat} {a b c : World} (h : Kp base F a b) (k : Kp base F b c) : Kp base F a c :=
  ⟨h.below.trans k.below, fun i x t f hx hd hp => by
    have e := h.keep i x t f hx hd hp
    exact (k.keep i x t f (e.trans hx) hd hp).trans e⟩
theorem Kp.fresh {base F : Nat} {w w' : World} (h : Below w.heap.size w w') (hb : base ≤ w.heap.size) : Kp base F w w' := .of_kd (Kd.fresh h hb)
theorem Kp.refl (base F : Nat) (w : World) : Kp base F w w := .of_kd (Kd.refl _ _)
theorem Kp.size {base F : Nat} {w w' : World} (h : Kp base F w w') : w.heap.size ≤ w'.heap.size := h.below.size
theorem own_kp {w w' : World} {b base F : Nat} {v : Value} {n : Nat} {xs : List Value} (h : w.ownsRow b 5 1 v n xs) (hk : Kp base F w w') : w'.ownsRow b 5 1 v n xs :=
  own_same h fun k hk' => by
    obtain ⟨c, hc⟩ := own_heap h hk'
    exact hk.keep k _ _ _ hc (by unfold diskT; decide) (.inl (by decide))
theorem Pgs.kp {w w' : World} {base F : Nat} {v : Value} {ps : List Pg} (h : Pgs w v ps) (hk : Kp base F w w') : Pgs w' v ps := h.same fun k c t f h1 ht => by
  rcases ht with rfl | rfl
  · exact hk.keep k _ _ _ h1 (by unfold diskT; decide) (.inl (by decide))
  · exact hk.keep k _ _ _ h1 (by unfold diskT; decide) (.inl (by decide))
theorem PgRow.kp {w w' : World} {base b2 F : Nat} {v : Value} {ps : List Pg} (h : PgRow w base v ps) (hk : Kp b2 F w w') : PgRow w' base v ps := h.same fun k c t f h1 ht => by
  rcases ht with rfl | rfl
  · exact hk.keep k _ _ _ h1 (by unfold diskT; decide) (.inl (by decide))
  · exact hk.keep k _ _ _ h1 (by unfold diskT; decide) (.inl (by decide))
/-- Another File. -/
theorem FileIs.kp {w w' : World} {base base' F F' B p0 np : Nat} {half : Bool} (h : FileIs w base F' B p0 np half) (hk : Kp base' F w w') (hne : F' ≠ F) : FileIs w' base F' B p0 np half :=
  ⟨h.1, (hk.keep _ _ _ _ h.2 (by unfold diskT; decide) (.inr hne)).trans h.2⟩
theorem nd_pf : ¬ diskT 52 := by unfold diskT; decide
/-- The mark on the File is set. -/
theorem file_set {w : World} {base n F B p0 np : Nat} {d : Dk} {half : Bool} (hd : DiskIs w base B n d) (hf : FileIs w base F B p0 np half) (h2 : Bool) :
    FileIs (w.setCell ⟨F, 3, none⟩ (.bool h2)) base F B p0 np h2 ∧ DiskIs (w.setCell ⟨F, 3, none⟩ (.bool h2)) base B n d ∧ Kp base F w (w.setCell ⟨F, 3, none⟩ (.bool h2)) := by
  refine ⟨⟨hf.1, ?_⟩, hd.box hf.2 nd_pf _, ⟨(Below.refl base w).setCell (p := ⟨F, 3, none⟩) hf.1 _, fun k c t f hk _ hp => Below.heap_setCell w ⟨F, 3, none⟩ _ k (fun e => ?_)⟩⟩
  · rw [heap_setCell_same w F 3 _ _ _ hf.2]; rfl
  · have e' : k = F := e
    subst e'
    rw [hf.2] at hk
    injection hk with e1
    injection e1 with _ e2 _
    rcases hp with hp | hp
    · exact hp e2.symm
    · exact hp rfl

theorem settle_no {w : World} {base F B p0 np : Nat} (hf : FileIs w base F B p0 np false) :
    Calls Tryd.prog 16 #[.pointer (some ⟨F, 0, none⟩)] w fun e w' => e = .returned (.int .i64 0) ∧ w' = w := by
  obtain ⟨c0, c1, c2, c3⟩ := hf.cells
  clear hf
  go_enter Tryd.func16, Tryd.ntmps16
  go_wp2
  go_ret
  exact ⟨rfl, rfl⟩
theorem settle_yes {w : World} {base n F B p0 np : Nat} {d : Dk} (hd : DiskIs w base B n d) (hf : FileIs w base F B p0 np true) (hl : d.left = -1) (ht : TabOk w) (hg : 0 < base) (hp : p0 + np * 8 + 80 ≤ n) (hnp : np ≤ 4096) (hj : JOk d.now (p0 + np * 8) np) (hwl : d.wait.length ≤ 800000) (hwr : d.writes ≤ 800000000) :
    Calls Tryd.prog 16 #[.pointer (some ⟨F, 0, none⟩)] w fun e w' => e = .returned (.int .i64 0) ∧ DiskIs w' base B n (redoP p0 d (notedP d.now (p0 + np * 8))) ∧ FileIs w' base F B p0 np false ∧ Kp base F w w' := by
  have HR := hid (redo_any hd hf hl ht hg hp hnp hj hwl hwr)
  obtain ⟨c0, c1, c2, c3⟩ := hf.cells
  have HF := hid hf
  clear hd hf ht hj
  go_enter Tryd.func16, Tryd.ntmps16
  go_wp2_with (go_at_call 31; refine HR.out.mono ?_; rintro e w2 ⟨rfl, hd2, hk2⟩; have hf2 := HF.out.kd hk2; obtain ⟨e0, e1, e2, e3⟩ := hf2.cells; have f3 := frozen_of_row w2 F 3 _ _ hf2.2; have HS := hid (file_set hd2 hf2 false); have HK2 := hid hk2; clear hd2 hk2 hf2 HR)
  go_ret
  exact ⟨rfl, HS.out.2.1, HS.out.1, (Kp.of_kd HK2.out).trans HS.out.2.2⟩
theorem redoP_live (p0 : Nat) (ps : List Pg) (d : Dk) (h : d.left = -1) : (redoP p0 d ps).left = -1 ∧ (redoP p0 d ps).wait.length ≤ d.wait.length + 8 * ps.length ∧ (redoP p0 d ps).writes ≤ d.writes + 8 * ps.length := by
  have := redoL_live p0 ps d false h
  unfold redoP
  split
  · refine ⟨by simp [Dk.flush, burn, this.1], by simp [Dk.flush], this.2.2⟩
  · exact this
/-- Open is refused. -/
theorem open_bad {w : World} {base n B : Nat} {d : Dk} (hd : DiskIs w base B n d) {i k : Int} (hi0 : -9223372036854775808 ≤ i) (hi1 : i ≤ 9223372036854775807) (hk0 : -9223372036854775808 ≤ k) (hk1 : k ≤ 9223372036854775807) (h : ¬ (1 ≤ k ∧ k ≤ 4096 ∧ 0 ≤ i ∧ i ≤ n - (8 * k + 80))) :
    Calls Tryd.prog 13 #[.pointer (some ⟨B, 0, none⟩), .int .i64 i, .int .i64 k] w fun e w' => e = .returned (.tuple #[.pointer none, .int .i64 1]) ∧ w' = w := by
  have hn := hd.2.1
  have HSE := hid (sectors_any hd)
  clear hd
  by_cases h1 : k < 1
  · clear h
    go_enter Tryd.func13, Tryd.ntmps13
    go_wp2
    go_ret2
    exact ⟨rfl, rfl⟩
  · have d1 : decide (k < 1) = false := by simpa using h1
    by_cases h2 : 4096 < k
    · have d2 : decide ((4096 : Int) < k) = true := by simpa using h2
      clear h
      go_enter Tryd.func13, Tryd.ntmps13
      go_wp2
      go_ret2
      exact ⟨rfl, rfl⟩
    · have d2 : decide ((4096 : Int) < k) = false := by simpa using h2
      by_cases h3 : i < 0
      · have d3 : decide (i < 0) = true := by simpa using h3
        clear h
        go_enter Tryd.func13, Tryd.ntmps13
        go_wp2
        go_ret2
        exact ⟨rfl, rfl⟩
      · have d3 : decide (i < 0) = false := by simpa using h3
        have hmx : max k 1 = k := by omega
        have HNE := hid (need_any k w (by omega))
        rw [hmx] at HNE
        have d4 : decide ((n : Int) - (8 * k + 80) < i) = true := by simp; omega
        clear h hmx
        go_enter Tryd.func13, Tryd.ntmps13
        go_wp2_with (first
          | (go_at_call 26; refine HSE.out.mono ?_; rintro e w2 ⟨rfl, hw⟩; have hw' := hw.symm; clear hw HSE; subst hw')
          | (go_at_call 5; refine HNE.out.mono ?_; rintro e w2 ⟨rfl, hw⟩; have hw' := hw.symm; clear hw HNE; subst hw'))
        go_ret2
        exact ⟨rfl, rfl⟩
theorem open_good {w : World} {base n B p0 np : Nat} {d : Dk} (hd : DiskIs w base B n d) (hl : d.left = -1) (ht : TabOk w) (hg : 0 < base) (h1 : 1 ≤ np) (hnp : np ≤ 4096) (hp : p0 + np * 8 + 80 ≤ n) (hj : JOk d.now (p0 + np * 8) np)
    (hok : ∀ no, no < np → OkAt (secs (redoP p0 d (notedP d.now (p0 + np * 8))).now (p0 + no * 8) 8) no) (hwl : d.wait.length ≤ 700000) (hwr : d.writes ≤ 700000000) :
    Calls Tryd.prog 13 #[.pointer (some ⟨B, 0, none⟩), .int .i64 p0, .int .i64 np] w fun e w' => ∃ F, e = .returned (.tuple #[.pointer (some ⟨F, 0, none⟩), .int .i64 0]) ∧ w.heap.size ≤ F ∧ DiskIs w' base B n (redoP p0 d (notedP d.now (p0 + np * 8))) ∧ FileIs w' base F B p0 np false ∧ Kp base F w w' := by
  have hn := hd.2.1
  have hbase := hd.base_le
  have htk8 := hj.tk.1
  have hlive := redoP_live p0 (notedP d.now (p0 + np * 8)) d hl
  obtain ⟨wA, hwA⟩ : ∃ wA, w.alloc (.cells #[.pointer (some ⟨B, 0, none⟩), .int .i64 p0, .int .i64 np, .bool true] 52) = wA := ⟨_, rfl⟩
  have hbA : Below w.heap.size w wA := by rw [← hwA]; exact (Below.refl _ _).alloc (Nat.le_refl _) _
  have hfA : FileIs wA base w.heap.size B p0 np true := ⟨hbase, by rw [← hwA]; exact heap_new w _⟩
  have htA := ht.below hbA (Nat.le_refl _)
  have HS := hid (settle_yes (hd.below hbA) hfA hl htA hg hp hnp hj (by omega) (by omega))
  have HSE := hid (sectors_any hd)
  have HNE := hid (need_any (np : Int) w (by omega))
  have hmx : max (np : Int) 1 = (np : Int) := by omega
  rw [hmx] at HNE
  have HOK := hid hok
  have HTA := hid htA
  have HBA := hid hbA
  generalize redoP p0 d (notedP d.now (p0 + np * 8)) = dr at *
  have d1 : decide ((np : Int) < 1) = false := by simp; omega
  have d2 : decide ((4096 : Int) < (np : Int)) = false := by simp; omega
  have d3 : decide ((p0 : Int) < 0) = false := by simp
  have d4 : decide ((n : Int) - (8 * (np : Int) + 80) < (p0 : Int)) = false := by simp; omega
  clear hd ht hj hok hmx hfA htA hbA
  go_enter Tryd.func13, Tryd.ntmps13
  go_wp2_with (first
    | (go_at_call 26; refine HSE.out.mono ?_; rintro e w2 ⟨rfl, hw⟩; have hw' := hw.symm; clear hw HSE; subst hw')
    | (go_at_call 5; refine HNE.out.mono ?_; rintro e w2 ⟨rfl, hw⟩; have hw' := hw.symm; clear hw HNE; subst hw')
    | (go_at_call 16; refine HS.out.mono ?_; rintro e w2 ⟨rfl, hd2, hf2, hk2⟩; have HD2 := hid hd2; have HF2 := hid hf2; have HK2 := hid ((Kp.fresh HBA.out hbase).trans hk2); have HCH := hid (check_any hd2 hf2 (by omega) (tab_kd HTA.out hg hk2.below) (by omega) HOK.out); clear hd2 hf2 hk2 HS)
    | (go_at_call 27; refine HCH.out.mono ?_; rintro e w3 ⟨rfl, hb3⟩; have HD3 := hid (HD2.out.below hb3); have HF3 := hid (HF2.out.below hb3); have HK3 := hid (HK2.out.trans (Kp.fresh hb3 HD2.out.base_le)); clear hb3 HCH))
  go_ret2
  exact ⟨_, rfl, Nat.le_refl _, HD3.out, HF3.out, HK3.out⟩

set_option maxRecDepth 8000 in
theorem pread_any {w : World} {base n F B p0 np no : Nat} {d : Dk} (hd : DiskIs w base B n d) (hf : FileIs w base F B p0 np false) (hl : d.left ≠ 0) (ht : TabOk w) (hp : p0 + np * 8 ≤ n) (hno : no < np) (hok : OkAt (secs d.now (p0 + no * 8) 8) no) :
    Calls Tryd.prog 25 #[.pointer (some ⟨F, 0, none⟩), .int .i64 no] w fun e w' => ∃ s, e = .returned (.tuple #[.agg #[.int .i64 (fetchP (secs d.now (p0 + no * 8) 8) no).no, .int .u64 (fetchP (secs d.now (p0 + no * 8) 8) no).lsn, s], .int .i64 0]) ∧
      w'.ownsRow w.heap.size 5 1 s 480 (secV (fetchP (secs d.now (p0 + no * 8) 8) no).data) ∧ Below w.heap.size w w' := by
  obtain ⟨wA, hwA⟩ : ∃ wA, w.alloc (.cells #[.int .i64 0, .int .u64 0, .slice none 0 0] 33) = wA := ⟨_, rfl⟩
  have hbx : Below w.heap.size w wA := by rw [← hwA]; exact (Below.refl _ _).alloc (Nat.le_refl _) _
  have hres : wA.heap[w.heap.size]? = some (.cells #[.int .i64 0, .int .u64 0, .slice none 0 0] 33 (0, 0)) := by rw [← hwA]; exact heap_new w _
  have HH := hid (phas_any (hf.below hbx) (no : Int))
  have hhd : decide (0 ≤ (no : Int) ∧ (no : Int) < (np : Int)) = true := by simp; omega
  rw [hhd] at HH
  have HS := hid (settle_no (hf.below hbx))
  have HFE := hid (fetch_any (hd.below hbx) (hf.below hbx) hl (ht.below hbx (Nat.le_refl _)) hp hno hok)
  generalize fetchP (secs d.now (p0 + no * 8) 8) no = pg at *
  have HRES := hid hres
  have HBX := hid hbx
  clear hd hf hl ht hok hhd hres hbx
  go_enter Tryd.func25, Tryd.ntmps25
  go_wp2_with (first
    | (go_at_call 30; refine HH.out.mono ?_; rintro e w2 ⟨rfl, hw⟩; have hw' := hw.symm; clear hw HH; subst hw')
    | (go_at_call 16; refine HS.out.mono ?_; rintro e w2 ⟨rfl, hw⟩; have hw' := hw.symm; clear hw HS; subst hw')
    | (go_at_call 40; refine HFE.out.mono ?_; rintro e w3 ⟨s3, rfl, hown3, hb3⟩; obtain ⟨a3, c3, rfl, _⟩ := own_any hown3; have HB3 := hid (HBX.out.trans (hb3.mono HBX.out.size)); have HO3 := hid hown3; have hlt2 := lt_of_heap HRES.out; have hr2 := (hb3.block _ (lt_of_heap HRES.out)).trans HRES.out; have d0 := cell_of_row w3 w.heap.size 0 _ _ _ hr2; have d1 := cell_of_row w3 w.heap.size 1 _ _ _ hr2; have d2 := cell_of_row w3 w.heap.size 2 _ _ _ hr2; have f0 := frozen_of_row w3 w.heap.size 0 _ _ hr2; have f1 := frozen_of_row w3 w.heap.size 1 _ _ hr2; have f2 := frozen_of_row w3 w.heap.size 2 _ _ hr2; simp only [List.getElem?_toArray, List.getElem?_cons_succ, List.getElem?_cons_zero] at d0 d1 d2; clear hown3 hb3 hr2 HFE))
  refine bodyPost_ret (v := .tuple #[.agg #[.int .i64 pg.no, .int .u64 pg.lsn, .slice a3 480 c3], .int .i64 0]) (by simp [results, Tryd.results25, go_sem, d0, d1, d2]) rfl ⟨_, rfl, ?_, ?_⟩
  · exact own_mono (own_far (g := w.heap.size) (o := 0) (vs := [.int .i64 pg.no, .int .u64 pg.lsn, .slice a3 480 c3]) HO3.out hlt2) HBX.out.size
  · exact ((HB3.out.setCell (p := ⟨w.heap.size, 0, none⟩) (Nat.le_refl _) _).setCell (p := ⟨w.heap.size, 1, none⟩) (Nat.le_refl _) _).setCell (p := ⟨w.heap.size, 2, none⟩) (Nat.le_refl _) _
end Go.Proofs.YtafopokcfkgjiaaDoor
