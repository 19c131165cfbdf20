/-
  Layer 3: what page.pageOf gives.
-/
import Derived.Test.YtafopokcfkgjiaaDoorGPage
namespace Go.Proofs.YtafopokcfkgjiaaDoor
open Go.RowKit

theorem own_kd {w w' : World} {b base : Nat} {v : Value} {n : Nat} {xs : List Value} (h : w.ownsRow b 5 1 v n xs) (hk : Kd base w w') : w'.ownsRow b 5 1 v n xs :=
  own_same h fun k hk' => by
    obtain ⟨c, hc⟩ := own_heap h hk'
    exact hk.keep k _ _ _ hc (by decide) (by decide) (by decide)

theorem own_any {w : World} {base : Nat} {e : TypeId} {v : Value} {n : Nat} {xs : List Value} (h : w.ownsRow base e 1 v n xs) : ∃ ao cap, v = .slice ao n cap ∧ n ≤ cap ∧ (1 ≤ n → ∃ g, ao = some ⟨g, 0, none⟩) := by
  rcases h.2 with ⟨rfl, rfl⟩ | ⟨g, cap, cur, rfl, hg, _, hc, hm, _⟩
  · exact ⟨none, 0, rfl, Nat.le_refl _, fun h => by omega⟩
  · exact ⟨_, cap, rfl, hc, fun _ => ⟨g, rfl⟩⟩
theorem own_far {w : World} {g o base n : Nat} {v : Value} {xs vs : List Value} (h : w.ownsRow base 5 1 v n xs) (hg : g < base) : (w.setCells g o vs).ownsRow base 5 1 v n xs :=
  own_same h fun k hk => (grown_setCells g vs o w).block k (h.lt k hk).2 (fun e => by injection e with e; have := own_base h k hk; omega)
theorem zero_pg : (Tryd.prog.info? 33).map (fun i => (i.zero, i.size, i.bytes)) = some (some (.agg #[.int .i64 0, .int .u64 0, .slice none 0 0]), 3, 40) := by kernel_rfl

set_option maxRecDepth 100000 in
set_option maxHeartbeats 800000 in
theorem page_good {w : World} {v : Value} {f : List Int} (h : Bs w v f) (hl : f.length = 512) (ht : TabOk w) (he : pageErr f = 0) :
    Calls Tryd.prog 51 #[v] w fun e w' => ∃ s, e = .returned (.tuple #[.agg #[.int .i64 (pageIn f).no, .int .u64 (pageIn f).lsn, s], .int .i64 0]) ∧ w'.ownsRow w.heap.size 5 1 s 480 (secV (pageIn f).data) ∧ Below w.heap.size w w' := by
  obtain ⟨e1, e2, e3, e4⟩ := pageErr_zero he
  have hob := openB_len e1 hl
  have hc1 := dec_cnt _ _ _ (by omega) e2
  have hx0 := dec_nonneg ((openB f).drop 480) 0 0 (by omega)
  have hpg : pageIn f = ⟨(dec 0 0 ((openB f).drop 480)).1.toNat, (dec 0 0 (((openB f).drop 480).drop (dec 0 0 ((openB f).drop 480)).2.1.toNat)).1, (openB f).take 480⟩ := rfl
  have HPG := hid hpg
  have hbx : Below w.heap.size w (w.alloc (.cells #[.int .i64 0, .int .u64 0, .slice none 0 0] 33)) := (Below.refl _ _).alloc (Nat.le_refl _) _
  have HOP := hid (open_any (h.below hbx) (ht.below hbx (Nat.le_refl _)))
  rw [e1] at HOP
  have hby : By (openB f) := fun b hb => by
    have : openB f = f.take 508 := by unfold openB; rw [if_pos e1, hl]
    rw [this] at hb
    exact h.byte b (List.mem_of_mem_take hb)
  have HBY := hid hby
  clear h hpg he e1 hby
  obtain ⟨T, hT⟩ : ∃ T, T = (openB f).drop 480 := ⟨_, rfl⟩
  rw [← hT] at e2 e3 e4 hc1 hx0 HPG
  have HTT := hid hT
  have hTl : T.length = 28 := by rw [hT]; simp [hob]
  have HTL := hid hTl
  have HOB := hid hob
  have HT := hid ht
  clear hT hTl hob ht
  obtain ⟨O, hO⟩ : ∃ O, O = openB f := ⟨_, rfl⟩
  rw [← hO] at HOP HTT HOB HPG HBY
  clear hO
  obtain ⟨N, hN⟩ : ∃ N : Nat, (dec 0 0 T).2.1 = (N : Int) := ⟨(dec 0 0 T).2.1.toNat, by omega⟩
  rw [hN] at hc1 e3 HPG
  obtain ⟨X, hX⟩ : ∃ X : Nat, (dec 0 0 T).1 = (X : Int) := ⟨(dec 0 0 T).1.toNat, by omega⟩
  rw [hX] at e4 HPG
  rw [Int.toNat_natCast, Int.toNat_natCast] at HPG
  rw [Int.toNat_natCast] at e3
  obtain ⟨Y, hY⟩ : ∃ Y, (dec 0 0 (T.drop N)).1 = Y := ⟨_, rfl⟩
  obtain ⟨M, hM⟩ : ∃ M, (dec 0 0 (T.drop N)).2.1 = M := ⟨_, rfl⟩
  rw [hY] at HPG
  have HN := hid hN
  have HX := hid hX
  have HY := hid hY
  have HM := hid hM
  have HE2 := hid e2
  have HE3 := hid e3
  have hN1 : 1 ≤ N ∧ N ≤ 10 := by omega
  rw [HPG.out]
  clear hN hX hY hM e2 e3 hc1 hx0
  have hX4 : ¬ ((4096 : Int) ≤ (X : Int)) := by omega
  go_enter Tryd.func51, Tryd.ntmps51
  go_wp2_with (go_at_call 57; refine HOP.out.mono ?_; rintro e w1 ⟨v1, rfl, hbs1, hb1⟩; clear HOP; have HB1 := hid (hbx.trans (hb1.mono hbx.size)); have HR1 := hid ((hb1.block w.heap.size (by simp)).trans (heap_new w _)); obtain ⟨ao, cap, rfl, hop⟩ := hbs1.open; obtain ⟨b, off, rfl, _⟩ := hop (by rw [HOB.out]; omega); have hlc := hbs1.len_le.2; rw [HOB.out] at hbs1 hlc; have HBS := hid hbs1; rw [HOB.out]; clear hbs1 hop hb1 hbx)
  have hdr : ∀ m, Below w1.heap.size w1 (w1.drewN m) := fun m => below_drewN (Below.refl _ _) m
  have htl : Bs w1 (.slice (some ⟨b, off + 480, none⟩) 28 (cap - 480)) T := by
    have := HBS.out.cutAt (lo := 480) (hi := 508) (by omega) (by rw [HOB.out]; omega)
    rw [if_neg (by omega), List.take_of_length_le (by rw [HOB.out]; omega), ← HTT.out] at this
    simpa [Addr.add_lit] using this
  have htl2 : Bs w1 (.slice (some ⟨b, off + 480 + N, none⟩) (28 - N) (cap - 480 - N)) (T.drop N) := by
    have := htl.cutAt (lo := N) (hi := 28) (by omega) (by rw [HTL.out]; omega)
    rw [if_neg (by omega), List.take_of_length_le (by rw [HTL.out]; omega)] at this
    simpa [Addr.add_lit] using this
  have hd480 := HBS.out.head (hi := 480) (by rw [HOB.out]; omega)
  have HV1 := hid (fun m => var_bs (htl.below (hdr m)))
  rw [HN.out, HX.out, HE2.out] at HV1
  have HV2 := hid (fun m => var_bs (htl2.below (hdr m)))
  rw [HY.out, HM.out, HE3.out] at HV2
  have hlT : (O.take 480).length = 480 := by rw [List.length_take, HOB.out]; omega
  have hHas : Has w1 (.slice (some ⟨b, off, none⟩) 480 cap) (O.take 480) := by
    rcases hd480.2.2 with ⟨_, _, _, h0, _⟩ | ⟨b', off', cap', hv, hcap', hc⟩
    · rw [h0] at hlT; simp at hlT
    · exact ⟨b', off', cap', hv, hcap', hc⟩
  have HCL := hid (fun m => clone_any (hHas.below (by omega) (hdr m)) (by omega) (by omega))
  rw [hlT] at HCL
  have HDR := hid hdr
  clear htl htl2 hd480 hHas hdr hlT
  go_quiet (fail)
  go_wp2_with (first
    | (go_at_call 58; refine (HV1.out _).mono ?_; rintro e wz ⟨rfl, hwz⟩; have hwz' := hwz.symm; clear hwz; subst hwz'; clear HV1)
    | (go_at_call 58; refine (HV2.out _).mono ?_; rintro e wz ⟨rfl, hwz⟩; have hwz' := hwz.symm; clear hwz; subst hwz'; clear HV2)
    | (go_at_call 52; refine (HCL.out _).mono ?_; rintro e w3 ⟨v3, rfl, hown3, hb3⟩; have hB13 := (HDR.out _).trans hb3; have hr3 := (hB13.block w.heap.size (lt_of_heap HR1.out)).trans HR1.out; have HR3 := hid hr3; have c0 := cell_of_row w3 w.heap.size 0 _ _ _ hr3; have c1 := cell_of_row w3 w.heap.size 1 _ _ _ hr3; have c2 := cell_of_row w3 w.heap.size 2 _ _ _ hr3; have f0 := frozen_of_row w3 w.heap.size 0 _ _ hr3; have f1 := frozen_of_row w3 w.heap.size 1 _ _ hr3; have f2 := frozen_of_row w3 w.heap.size 2 _ _ hr3; simp only [List.getElem?_toArray, List.getElem?_cons_succ, List.getElem?_cons_zero] at c0 c1 c2; have HB3 := hid (HB1.out.trans (hB13.mono HB1.out.size)); have HO3 := hid hown3; obtain ⟨a3, k3, rfl, _⟩ := own_any hown3; clear hown3 hb3 hB13 hr3 HCL))
  refine bodyPost_ret (v := .tuple #[.agg #[.int .i64 X, .int .u64 Y, .slice a3 480 k3], .int .i64 0]) (by simp [results, Tryd.results51, go_sem, c0, c1, c2]) rfl ⟨_, rfl, ?_, ?_⟩
  · exact own_mono (own_far (g := w.heap.size) (o := 0) (vs := [.int .i64 X, .int .u64 Y, .slice a3 480 k3]) HO3.out (lt_of_heap HR1.out)) (Nat.le_of_lt (lt_of_heap HR1.out))
  · exact ((HB3.out.setCell (p := ⟨w.heap.size, 0, none⟩) (Nat.le_refl _) _).setCell (p := ⟨w.heap.size, 1, none⟩) (Nat.le_refl _) _).setCell (p := ⟨w.heap.size, 2, none⟩) (Nat.le_refl _) _
end Go.Proofs.YtafopokcfkgjiaaDoor
