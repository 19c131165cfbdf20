/-
  Layer 2: disk.Write where it is refused.
-/
import Derived.Test.YtgnhalcdlligfaaDoorDCrash
import Derived.Test.YtgnhalcdlligfaaDoorWFrame
namespace Go.Proofs.YtgnhalcdlligfaaDoor
open Go.RowKit

theorem write_bad {w : World} {base B n : Nat} {d : Dk} (h : DiskIs w base B n d) {i : Int} {ao : Option Addr} {len cap : Nat} (hbad : ¬ (0 ≤ i ∧ i < n) ∨ len ≠ 64) :
    Calls Tryd.prog 40 #[.pointer (some ⟨B, 0, none⟩), .int .i64 i, .slice ao len cap] w fun e w' => e = .returned (.int .i64 1) ∧ w' = w := by
  have HH := hid (has_any h i)
  clear h
  by_cases hi : 0 ≤ i ∧ i < (n : Int)
  · have hd : decide (0 ≤ i ∧ i < (n : Int)) = true := by simpa using hi
    have hl : len ≠ 64 := by rcases hbad with hb | hb; exact absurd hi hb; exact hb
    have hlI : ¬ ((len : Int) = 64) := by omega
    rw [hd] at HH
    clear hbad hi hd hl
    go_enter Tryd.func40, Tryd.ntmps40
    go_wp2_with (go_at_call 58; refine HH.out.mono ?_; rintro e w2 ⟨rfl, hw⟩; have hw' := hw.symm; clear hw; subst hw')
    go_ret
    exact ⟨rfl, rfl⟩
  · have hd : decide (0 ≤ i ∧ i < (n : Int)) = false := by simpa using hi
    rw [hd] at HH
    clear hbad hi hd
    go_enter Tryd.func40, Tryd.ntmps40
    go_wp2_with (go_at_call 58; refine HH.out.mono ?_; rintro e w2 ⟨rfl, hw⟩; have hw' := hw.symm; clear hw; subst hw')
    go_ret
    exact ⟨rfl, rfl⟩
theorem write_dead {w : World} {base B n : Nat} {d : Dk} (h : DiskIs w base B n d) {i : Int} (hi : 0 ≤ i ∧ i < n) (hd : d.left = 0) {ao : Option Addr} {cap : Nat} :
    Calls Tryd.prog 40 #[.pointer (some ⟨B, 0, none⟩), .int .i64 i, .slice ao 64 cap] w fun e w' => e = .returned (.int .i64 50) ∧ w' = w := by
  have HH := hid (has_any h i)
  have hd' : decide (0 ≤ i ∧ i < (n : Int)) = true := by simpa using hi
  have HD := hid (dead_any h)
  have hd2 : (d.left == 0) = true := by simpa using hd
  rw [hd'] at HH
  rw [hd2] at HD
  clear h hi hd hd' hd2
  go_enter Tryd.func40, Tryd.ntmps40
  go_wp2_with (first | (go_at_call 58; refine HH.out.mono ?_; rintro e w2 ⟨rfl, hw⟩; have hw' := hw.symm; clear hw; subst hw') | (go_at_call 28; refine HD.out.mono ?_; rintro e w2 ⟨rfl, hw⟩; have hw' := hw.symm; clear hw; subst hw'))
  go_ret
  exact ⟨rfl, rfl⟩
end Go.Proofs.YtgnhalcdlligfaaDoor

namespace Go.Proofs.YtgnhalcdlligfaaDoor
open Go.RowKit Go.Shelf

/-- A piece and its number, in a sector's body. -/
def secB (no : Nat) (ps : List Int) : List Int := splice (splice (zeros 60) 0 ps) 48 (uv no)
def secL (no : Nat) (ps : List Int) : List Int := sealL (secB no ps)
theorem secB_len {no : Nat} {ps : List Int} (h1 : (uv no).length ≤ 10) (h2 : ps.length ≤ 48) : (secB no ps).length = 60 := by
  have l0 : (zeros 60).length = 60 := zeros_len _
  have l1 : (splice (zeros 60) 0 ps).length = 60 := by rw [length_splice _ _ _ (by rw [l0]; omega), l0]
  rw [secB, length_splice _ _ _ (by rw [l1]; omega), l1]

set_option maxRecDepth 8000 in
set_option maxHeartbeats 3200000 in
theorem sectorOf_any {w : World} {v : Value} {ps : List Int} (h : Bs w v ps) (ht : TabOk w) (hl : ps.length ≤ 48) (no : Nat) (hno : no ≤ 18446744073709551615) :
    Calls Tryd.prog 48 #[.int .u64 no, v] w fun e w' => ∃ v', e = .returned v' ∧ w'.ownsRow w.heap.size 5 1 v' 64 ((secL no ps).map (Value.int .u8)) ∧ By (secL no ps) ∧ (secL no ps).length = 64 ∧ Below w.heap.size w w' := by
  obtain ⟨ao, cap, rfl, hfo⟩ := h.open
  have hrb := h.byte
  have hu1 := uv_len (no : Int)
  have hub1 : By (uv no) := uv_byte (by omega) (by omega)
  have hfl := secB_len hu1.2 hl
  have hfb : By (secB no ps) := splice_by (splice_by (By.zeros _) hrb) hub1
  have hLb : By (secL no ps) := sealL_byte hfb
  have hLl : (secL no ps).length = 64 := by rw [secL, sealL_len, hfl]
  have HLL := hid (And.intro hLb hLl)
  obtain ⟨R, hR⟩ : ∃ R, R = ps.length := ⟨_, rfl⟩
  obtain ⟨N1, hN1⟩ : ∃ N1, N1 = (uv no).length := ⟨_, rfl⟩
  have HU1 := hid (fun wx => uvar_any (no : Int) wx (by omega) (by omega))
  rw [← hN1] at HU1
  rw [← hR] at hl ⊢
  obtain ⟨Z, hZ⟩ : ∃ Z, Z = List.replicate 60 (Value.int .u8 0) := ⟨_, rfl⟩
  have hZl : Z.length = 60 := by rw [hZ]; simp
  have hmk : ∀ wx : World, (Instr.makeSlice 33 (.int .i64 60) (.int .i64 60)).run Tryd.prog wx = .ok (.slice (some ⟨wx.heap.size, 0, none⟩) 60 60) (wx.alloc (.cells Z.toArray 5)) := fun wx => by rw [hZ]; exact make_bytes 60 (by omega) wx
  have HZ := hid (And.intro hZ hZl)
  clear hZ hZl
  have HT := hid ht
  have HN := hid (And.intro hR hN1)
  have HFO := hid hfo
  have hb1 : 1 ≤ N1 ∧ N1 ≤ 10 := by omega
  have HFB := hid (And.intro hfb hfl)
  have hsR : ∀ wc : World, Below w.heap.size w wc → ∀ j u, (ps.map (Value.int .u8))[j]? = some u → ∃ b off, ao = some ⟨b, off, none⟩ ∧ wc.cell? (Addr.add ⟨b, off, none⟩ j) = some u := fun wc hB j u hj => by
    have hlt := (List.getElem?_eq_some_iff.1 hj).1
    rw [List.length_map] at hlt
    obtain ⟨b, off, rfl, hc⟩ := HFO.out (by omega)
    refine ⟨b, off, rfl, ?_⟩
    have h1 := hc j hlt
    rw [Addr.add_lit, (hB.cell (p := ⟨b, off + j, none⟩) (lt_of_cell h1)).trans h1, ← hj]
    simp [hlt]
  have HSR := hid hsR
  have hrl : (ps.map (Value.int .u8)).length = Nat.min R 60 := by rw [List.length_map, ← HN.out.1]; exact (Nat.min_eq_left (by omega)).symm
  have HRL := hid hrl
  have hBA : Below w.heap.size w (w.alloc (.cells Z.toArray 5)) := (Below.refl _ w).alloc (Nat.le_refl _) _
  have hgA := heap_new w (.cells Z.toArray 5)
  have HA := hid (And.intro hBA hgA)
  clear h ht hfo hu1 hub1 hfl hfb hLb hLl hN1 hrb hR hsR hrl hBA hgA
  go_enter Tryd.func48, Tryd.ntmps48
  go_upto_region 3 with (first
    | (refine wpList_copy_splice rfl (.tmp 7) (.tmp 8) 33 33 rfl 5 Tryd.underlying33 sizeU8 (some ⟨w.heap.size, 0, none⟩) ao 60 60 R cap rfl rfl w.heap.size 0 Z 5 HA.out.2 (ps.map (Value.int .u8)) HRL.out (fun hp => ⟨rfl, by
            rw [List.length_map] at hp
            obtain ⟨b, off, e, _⟩ := HFO.out (by omega)
            refine ⟨⟨b, off, none⟩, e, fun j u hj => ?_⟩
            obtain ⟨b', off', e', h'⟩ := HSR.out _ HA.out.1 j u hj
            rw [e] at e'
            injection e' with e'
            rw [e']
            exact h'⟩) (by rw [List.length_map, HZ.out.2, ← HN.out.1]; omega) (ints_oneCell _ _) w.heap.size w HA.out.1 (Nat.le_refl _) ?_; intro w3 hg3 hB3; rw [List.length_map, ← HN.out.1, show goInt (R : Int) = .int .i64 (R : Int) from rfl]; simp only [Act.put, List.setIfInBounds_toArray, List.set_cons_zero, List.set_cons_succ]))
  obtain ⟨C1, hC1⟩ : ∃ C1, C1 = splice Z 0 (ps.map (Value.int .u8)) := ⟨_, rfl⟩
  rw [← hC1] at hg3
  have hC1l : C1.length = 60 := by rw [hC1, length_splice _ _ _ (by rw [List.length_map, HZ.out.2, ← HN.out.1]; omega), HZ.out.2]
  have HC1 := hid (And.intro hC1 hC1l)
  clear hC1 hC1l
  go_cut [5] from 10 to 14 (fun v wx => v = .slice (some ⟨w.heap.size, 0, none⟩) 60 60 ∧ Hid (wx.heap[w.heap.size]? = some (.cells (splice C1 48 ((uv no).map (Value.int .u8))).toArray 5 (0, 0))) ∧ Below w.heap.size w wx)
  case first =>
    go_region_law (first
      | (refine step_copy_splice rfl (.tmp 11) (.tmp 13) 33 33 rfl 5 Tryd.underlying33 sizeU8 (some ⟨w.heap.size, 48, none⟩) (some ⟨g5, 0, none⟩) 12 12 N1 c5 rfl rfl w.heap.size 48 C1 5 hg5.out ((uv no).map (Value.int .u8)) (by rw [List.length_map, ← HN.out.2]; exact (Nat.min_eq_left (by omega)).symm) (fun _ => ⟨rfl, _, rfl, hsrc5.out⟩) (by rw [List.length_map, ← HN.out.2, HC1.out.2]; omega) (ints_oneCell _ _) w.heap.size w hB5.out (Nat.le_refl _) ?_; intro w6 hg6 hB6)
      | (go_simp; go_at_call 50; refine (HU1.out _).mono ?_; rintro e w5 ⟨v5, rfl, hown5, hb5⟩; obtain ⟨g5, c5, rfl, hs5⟩ := own_src hown5 (by omega); dsimp only; have hsrc5 := hid hs5; have hB5 := hid (hB3.trans ((((Below.refl _ w3).drew).trans hb5).mono hB3.size)); have hg5 := hid ((hb5.block w.heap.size (lt_of_heap hg3.out)).trans hg3.out); clear hown5 hb5 hs5))
    all_goals
      go_wp2
      go_meet
      exact ⟨rfl, hg6, hB6⟩
  case rest =>
  obtain ⟨rfl, hg7, hB7⟩ := hcut
  have hfin : Calls Tryd.prog 51 #[.slice (some ⟨w.heap.size, 0, none⟩) 60 60] wc fun e w' => ∃ a9 c9, e = .returned (.slice a9 64 c9) ∧ w'.ownsRow w.heap.size 5 1 (.slice a9 64 c9) 64 ((secL no ps).map (Value.int .u8)) ∧ Below w.heap.size w w' := by
    have e3 : splice C1 48 ((uv no).map (Value.int .u8)) = (secB no ps).map (Value.int .u8) := by
      rw [secB, map_splice, map_splice, HC1.out.1, HZ.out.1]
      simp [zeros]
    have hlen := HFB.out.2
    have hown : wc.ownsRow w.heap.size 5 1 (.slice (some ⟨w.heap.size, 0, none⟩) 60 60) 60 ((secB no ps).map (Value.int .u8)) := by
      refine ⟨by rw [List.length_map, hlen], .inr ⟨w.heap.size, 60, _, rfl, Nat.le_refl _, hg7.out, Nat.le_refl _, by unfold maxLen; omega, ?_, ?_⟩⟩
      · rw [e3]; simp [hlen]
      · rw [e3]
        simp only [Nat.mul_one]
        rw [List.take_of_length_le (by rw [List.length_map, hlen]; exact Nat.le_refl _)]
    refine (seal_any (bs_of_own hown HFB.out.1 (by rw [hlen]; omega)) (HT.out.below hB7 (Nat.le_refl _)) (by rw [hlen]; omega)).mono ?_
    rintro e w9 ⟨v9, rfl, hown9, hb9⟩
    have hl16 : (sealL (secB no ps)).length = 64 := by rw [sealL_len, hlen]
    rw [hl16] at hown9
    obtain ⟨a9, c9, rfl⟩ := slice_form hown9
    exact ⟨a9, c9, rfl, own_mono hown9 hB7.size, hB7.trans (hb9.mono hB7.size)⟩
  have HFIN := hid hfin
  clear hfin hg7 hB7 hg3 hB3
  go_wp2_with (first
    | (go_at_call 51; refine HFIN.out.mono ?_; rintro e w9 ⟨a9, c9, rfl, hown9, hB9⟩))
  go_ret
  exact ⟨_, rfl, hown9, HLL.out.1, HLL.out.2, hB9⟩
end Go.Proofs.YtgnhalcdlligfaaDoor

namespace Go.Proofs.YtgnhalcdlligfaaDoor
open Go.RowKit Go.Shelf

/-- The head's sector. -/
def headL (f s : Nat) : List Int := secL 18446744073709551615 (uv f ++ uv s)

set_option maxRecDepth 8000 in
set_option maxHeartbeats 3200000 in
theorem headOf_any {w : World} (ht : TabOk w) (f s : Nat) (hf : f ≤ 5000000000000000000) (hs : s ≤ 5000000000000000000) :
    Calls Tryd.prog 41 #[.int .u64 f, .int .u64 s] w fun e w' => ∃ v', e = .returned v' ∧ w'.ownsRow w.heap.size 5 1 v' 64 ((headL f s).map (Value.int .u8)) ∧ By (headL f s) ∧ (headL f s).length = 64 ∧ Below w.heap.size w w' := by
  have HU1 := hid (fun wx => uvar_any (f : Int) wx (by omega) (by omega))
  have HU2 := hid (fun wx => uvar_any (s : Int) wx (by omega) (by omega))
  have hu1 := uv_len (f : Int)
  have hu2 := uv_len (s : Int)
  have hub1 : By (uv f) := uv_byte (by omega) (by omega)
  have hub2 : By (uv s) := uv_byte (by omega) (by omega)
  have HB := hid (And.intro hub1 hub2)
  have hsec : ∀ (w5 : World) (v5 : Value), w5.ownsRow w.heap.size 5 1 v5 ((uv f).length + (uv s).length) ((uv f).map (Value.int .u8) ++ (uv s).map (Value.int .u8)) → Below w.heap.size w w5 →
      Calls Tryd.prog 48 #[.int .u64 18446744073709551615, v5] w5 fun e w' => ∃ v', e = .returned v' ∧ w'.ownsRow w.heap.size 5 1 v' 64 ((headL f s).map (Value.int .u8)) ∧ By (headL f s) ∧ (headL f s).length = 64 ∧ Below w.heap.size w w' := fun w5 v5 ho hb => by
    rw [← List.map_append] at ho
    refine (sectorOf_any (bs_of_own ho (hub1.app hub2) (by rw [List.length_append]; omega)) (ht.below hb (Nat.le_refl _)) (by rw [List.length_append]; omega) 18446744073709551615 (by omega)).mono ?_
    rintro e w' ⟨v', rfl, h1, h2, h3, h4⟩
    exact ⟨v', rfl, own_mono h1 hb.size, h2, h3, hb.trans (h4.mono hb.size)⟩
  have HSE := hid hsec
  have HL := hid (And.intro hu1 hu2)
  clear hsec hu1 hu2 hub1 hub2 ht
  go_enter Tryd.func41, Tryd.ntmps41
  go_wp2_with (first
    | (go_at_call 48; refine (HSE.out _ _ HO5.out HB5.out).mono ?_; rintro e w6 ⟨v6, rfl, hown6, hby6, hl6, hb6⟩; have HFIN := hid (And.intro hown6 (And.intro hby6 (And.intro hl6 hb6))); clear hown6 hby6 hl6 hb6)
    | (at_builtin; refine wpList_append_bs rfl (.tmp 6) (.tmp 8) rfl w.heap.size _ _ _ rfl HO4.out _ _ rfl HV4.out (by have := HL.out; omega) HB4.out.size ?_; intro v5 w5 hown5 hgrow5; have HB5 := hid (HB4.out.grown hgrow5 HB4.out.size (own_base HO4.out)); have HO5 := hid hown5; clear hown5 hgrow5)
    | (go_at_call 50; have hx : ∃ w2x : World, w2x = w := ⟨_, rfl⟩; refine (HU1.out w).mono ?_; rintro e w2 ⟨v2, rfl, hown2, hb2⟩; have HO2 := hid hown2; have HB2 := hid hb2; clear hx HU1 hown2 hb2)
    | (go_at_call 50; refine (HU2.out w2).mono ?_; rintro e w4 ⟨v4, rfl, hown4, hb4⟩; have HO4 := hid (own_below HO2.out hb4); have HB4 := hid (HB2.out.trans (hb4.mono HB2.out.size)); have HV4 := hid (bs_of_own hown4 HB.out.2 (by have := HL.out; omega)); clear hown4 hb4))
  go_ret
  exact ⟨_, rfl, HFIN.out⟩
end Go.Proofs.YtgnhalcdlligfaaDoor
