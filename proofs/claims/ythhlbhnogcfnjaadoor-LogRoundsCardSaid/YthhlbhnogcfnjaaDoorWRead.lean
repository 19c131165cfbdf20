/-
  Layer 4: what wal.readHead and readStream give.
-/
import Derived.Test.YthhlbhnogcfnjaaDoorWHeadIn
namespace Go.Proofs.YthhlbhnogcfnjaaDoor
open Go.RowKit Go.Shelf

theorem TabOk.base {w w' : World} {base : Nat} (h : TabOk w) (hb : Below base w w') (hg : 0 < base) : TabOk w' := fun i hi => (hb.cell (p := ⟨0, i, none⟩) hg).trans (h i hi)
/-- Where the records begin, by the head's sector. -/
def headF (s : List Int) : Nat := if hdOk s then (hdFirst s).toNat else 1
def headS (s : List Int) : Nat := if hdOk s then (hdFrom s).toNat else 0
theorem hd_nat {s : List Int} (h : hdOk s = true) : hdFirst s = ((headF s : Nat) : Int) ∧ hdFrom s = ((headS s : Nat) : Int) ∧ 1 ≤ headF s ∧ headF s ≤ 4611686018427387904 ∧ headS s ≤ 4611686018427387904 := by
  have h1 := h
  simp only [hdOk, decide_eq_true_eq] at h1
  obtain ⟨_, _, _, h2, h3, _, h4⟩ := h1
  have h5 := dec_nonneg ((pcBy s).drop (dec 0 0 (pcBy s)).2.1.toNat) 0 0 (by omega)
  have e1 : hdFirst s = (dec 0 0 (pcBy s)).1 := by rw [hdFirst, if_pos h]
  have e2 : hdFrom s = (dec 0 0 ((pcBy s).drop (dec 0 0 (pcBy s)).2.1.toNat)).1 := by rw [hdFrom, if_pos h]
  rw [headF, headS, if_pos h, if_pos h]
  omega
theorem own_notLog {w : World} {base L N : Nat} {v : Value} {k : Nat} {xs : List Value} {c : Array Value} {f : Nat × Nat} {m : Nat} {t : TypeId} (h : w.ownsRow N t m v k xs) (hh : w.heap[L]? = some (.cells c 50 f)) (ht : t ≠ 50) (_ : base = base) : v.ownBlock ≠ some L := fun e => by
  obtain ⟨c', hc⟩ := own_heap h e
  rw [hh] at hc
  injection hc with e1
  injection e1 with _ e1 _
  exact ht e1.symm

theorem slice_form {w : World} {base : Nat} {e : TypeId} {m : Nat} {v : Value} {n : Nat} {xs : List Value} (h : w.ownsRow base e m v n xs) : ∃ ao cap, v = .slice ao n cap := by
  rcases h.2 with ⟨rfl, h0⟩ | ⟨g, cap, cur, rfl, _⟩
  · exact ⟨none, 0, by rw [h0]⟩
  · exact ⟨_, cap, rfl⟩
set_option maxRecDepth 8000 in
set_option maxHeartbeats 1600000 in
theorem readHead_any {w : World} {base L B n at' sc : Nat} {d : Dk} {g : Lg} (h : LogIs w base L B n at' sc d g) (hl : d.left ≠ 0) (ht : TabOk w) (hg : 0 < base) :
    Calls Tryd.prog 16 #[.pointer (some ⟨L, 0, none⟩)] w fun e w' => e = .returned (.int .i64 0) ∧ LogIs w' base L B n at' sc d { g with first := headF (d.now.getD at' []), start := headS (d.now.getD at' []) } ∧ Kl base w w' := by
  obtain ⟨ra, rc, ta, tc, hh, _⟩ := h.form
  obtain ⟨c0, c1, c2, c3, c4, c5, c6, c7, c8⟩ := log_cells hh
  have hsc := h.2.2.1
  have hnum := h.2.2.2.1
  have hdn := h.1.2.1
  have hbase : base ≤ w.heap.size := by have := h.lt; have := h.2.1; omega
  have hdr : Below w.heap.size w w.drew := (Below.refl _ w).drew
  have hrd := read_any (h.1.below hdr) (i := at') (by omega) hl
  have hsec : Sec (d.now.getD at' []) := h.1.ok.now_secs _ (by simp [List.getD, h.1.ok.now_len, show at' < n by omega])
  obtain ⟨s, hs⟩ : ∃ s, s = d.now.getD at' [] := ⟨_, rfl⟩
  rw [← hs] at hrd hsec ⊢
  have HRD := hid hrd
  have H := hid h
  have HT := hid ht
  have HSC := hid hsec
  have hat : at' ≤ 65536 := by omega
  clear h ht hl hrd hs hsec hh
  -- what lies behind the first two stores
  have key : ∀ (w2 : World) (v2 : Value), Below w.heap.size w w2 → w2.ownsRow w.heap.size 5 1 v2 64 (secV s) →
      ∃ W2, ((w2.setCell ⟨L, 3, none⟩ (.int .u64 1)).setCell ⟨L, 5, none⟩ (.int .u64 0)) = W2 ∧ LogIs W2 base L B n at' sc d { g with first := 1, start := 0 } ∧ Kl base w W2 ∧ Bs W2 v2 s ∧ TabOk W2 := fun w2 v2 hb hown => by
    have h2 := H.out.below hb
    obtain ⟨a1, k1⟩ := h2.store (g' := { g with first := 1 }) 3 (.int .u64 1) rfl rfl (fun _ _ => rfl) ⟨by dsimp only; omega, hnum.2.1, hnum.2.2.1, hnum.2.2.2.1⟩
    obtain ⟨a2, k2⟩ := a1.store (g' := { g with first := 1, start := 0 }) 5 (.int .u64 0) rfl rfl (fun _ _ => rfl) ⟨by dsimp only; omega, by dsimp only; omega, hnum.2.2.1, hnum.2.2.2.1⟩
    have kk : Kl base w ((w2.setCell ⟨L, 3, none⟩ (.int .u64 1)).setCell ⟨L, 5, none⟩ (.int .u64 0)) := (Kl.fresh hb hbase).trans (k1.trans k2)
    have ob := own_base hown
    have hLt := H.out.lt
    refine ⟨_, rfl, a2, kk, ?_, HT.out.base kk.below hg⟩
    refine (bs_of_own hown HSC.out.2 (by rw [HSC.out.1]; omega)).same fun b e => ?_
    have := ob b e
    rw [Below.heap_setCell _ _ _ _ (by show b ≠ L; omega), Below.heap_setCell _ _ _ _ (by show b ≠ L; omega)]
  have KEY := hid key
  clear key
  by_cases hok : hdOk s = true
  · obtain ⟨e1, e2, hF1, hF2, hS⟩ := hd_nat hok
    have HOK := hid (And.intro hok (And.intro e1 e2))
    generalize headF s = F at hF1 hF2 HOK ⊢
    generalize headS s = S at hS HOK ⊢
    clear hok e1 e2
    go_enter Tryd.func16, Tryd.ntmps16
    go_wp2
    go_region_held (fun w' => w'.cell? ⟨L, 0, none⟩ = some (.pointer (some ⟨B, 0, none⟩)) ∧ w'.cell? ⟨L, 1, none⟩ = some (.int .i64 at')) (first | exact ⟨c0, c1⟩ | exact ⟨d0, d1⟩) (first
      | (go_at_call 34; refine HRD.out.mono ?_; rintro e w2 ⟨v2, rfl, hown2, hb2⟩; clear HRD; have hB2 : Below w.heap.size w w2 := (Below.refl _ w).drew.trans hb2; obtain ⟨a2, k2, rfl⟩ := slice_form hown2; obtain ⟨W2, hW2, hL2, hK2, hbs2, ht2⟩ := KEY.out w2 _ hB2 hown2; have HHI := hid (headIn_any hbs2 ht2 HSC.out.1); rw [HOK.out.1, HOK.out.2.1, HOK.out.2.2] at HHI; have HX := hid (And.intro hL2 hK2); obtain ⟨ra2, rc2, ta2, tc2, hh2, _⟩ := (H.out.below hB2).form; obtain ⟨d0, d1, d2, d3, d4, d5, d6, d7, d8⟩ := log_cells hh2; obtain ⟨f3, f4, f5, f6, f7, f8⟩ := log_frozen hh2; have HW := hid hW2; clear hL2 hK2 hbs2 ht2 hh2 hown2 hb2 hB2 hW2))
    go_wp2_with (go_at_call 35; rw [HW.out]; refine HHI.out.mono ?_; rintro e w3 ⟨rfl, hb3⟩; clear HHI; obtain ⟨ra3, rc3, ta3, tc3, hh3, _⟩ := (HX.out.1.below hb3).form; obtain ⟨q0, q1, q2, q3, q4, q5, q6, q7, q8⟩ := log_cells hh3; obtain ⟨p3, p4, p5, p6, p7, p8⟩ := log_frozen hh3; have HL3 := hid (HX.out.1.below hb3); have HK3 := hid (HX.out.2.trans (Kl.fresh hb3 (Nat.le_trans hbase HX.out.2.size))); clear hh3 hb3)
    go_ret
    obtain ⟨a1, k1⟩ := HL3.out.store (g' := { g with first := F, start := 0 }) 3 (.int .u64 F) rfl rfl (fun _ _ => rfl) ⟨by dsimp only; omega, by dsimp only; omega, hnum.2.2.1, hnum.2.2.2.1⟩
    obtain ⟨a2, k2⟩ := a1.store (g' := { g with first := F, start := S }) 5 (.int .u64 S) rfl rfl (fun _ _ => rfl) ⟨by dsimp only; omega, by dsimp only; omega, hnum.2.2.1, hnum.2.2.2.1⟩
    exact ⟨rfl, a2, HK3.out.trans (k1.trans k2)⟩
  · have e1 : headF s = 1 := by rw [headF, if_neg hok]
    have e2 : headS s = 0 := by rw [headS, if_neg hok]
    have e3 : hdOk s = false := by simpa using hok
    have HOK := hid e3
    rw [e1, e2]
    clear hok e1 e2 e3
    go_enter Tryd.func16, Tryd.ntmps16
    go_wp2
    go_region_held (fun w' => w'.cell? ⟨L, 0, none⟩ = some (.pointer (some ⟨B, 0, none⟩)) ∧ w'.cell? ⟨L, 1, none⟩ = some (.int .i64 at')) (first | exact ⟨c0, c1⟩ | exact ⟨d0, d1⟩) (first
      | (go_at_call 34; refine HRD.out.mono ?_; rintro e w2 ⟨v2, rfl, hown2, hb2⟩; clear HRD; have hB2 : Below w.heap.size w w2 := (Below.refl _ w).drew.trans hb2; obtain ⟨a2, k2, rfl⟩ := slice_form hown2; obtain ⟨W2, hW2, hL2, hK2, hbs2, ht2⟩ := KEY.out w2 _ hB2 hown2; have HHI := hid (headIn_any hbs2 ht2 HSC.out.1); rw [HOK.out] at HHI; have HX := hid (And.intro hL2 hK2); obtain ⟨ra2, rc2, ta2, tc2, hh2, _⟩ := (H.out.below hB2).form; obtain ⟨d0, d1, d2, d3, d4, d5, d6, d7, d8⟩ := log_cells hh2; obtain ⟨f3, f4, f5, f6, f7, f8⟩ := log_frozen hh2; have HW := hid hW2; clear hL2 hK2 hbs2 ht2 hh2 hown2 hb2 hB2 hW2))
    go_wp2_with (go_at_call 35; rw [HW.out]; refine HHI.out.mono ?_; rintro e w3 ⟨rfl, hb3⟩; clear HHI; have HL3 := hid (HX.out.1.below hb3); have HK3 := hid (HX.out.2.trans (Kl.fresh hb3 (Nat.le_trans hbase HX.out.2.size))); clear hb3)
    go_ret
    exact ⟨rfl, HL3.out, HK3.out⟩
end Go.Proofs.YthhlbhnogcfnjaaDoor
