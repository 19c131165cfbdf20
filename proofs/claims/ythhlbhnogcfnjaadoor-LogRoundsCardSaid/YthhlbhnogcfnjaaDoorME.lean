/-
  Layer 4: what wal.frameOf gives.
-/
import Derived.Test.YthhlbhnogcfnjaaDoorWMake
import Derived.Test.YthhlbhnogcfnjaaDoorWPlain
import Derived.Test.YthhlbhnogcfnjaaDoorWRead
import Derived.Laws.CopyOwn
import Derived.Deep.CutRange
import Derived.Deep.RegionLaw
namespace Go.Proofs.YthhlbhnogcfnjaaDoor
open Go.RowKit Go.Shelf

/-- A record in its frame. -/
def frameB (lsn : Nat) (rec : List Int) : List Int := splice (splice (splice (zeros (12 + rec.length)) 0 (uv lsn)) (uv lsn).length (uv rec.length)) 12 rec
def frameL (lsn : Nat) (rec : List Int) : List Int := sealL (frameB lsn rec)
theorem uvF_short : ∀ (f : Nat) (x : Int), 0 ≤ x → x < 128 ^ (f + 1) → (uvF f x).length ≤ f + 1 := fun f x _ _ => (uvF_len f x).2
theorem uv_two {x : Int} (h0 : 0 ≤ x) (h1 : x ≤ 2000) : (uv x).length ≤ 2 := by
  by_cases h : x < 128
  · rw [uv, uvF_small 9 h]; simp
  · rw [uv, uvF_more 8 (by omega), uvF_small 8 (by omega)]; simp
theorem map_splice (L : List Int) (off : Nat) (cs : List Int) : (splice L off cs).map (Value.int .u8) = splice (L.map (Value.int .u8)) off (cs.map (Value.int .u8)) := by
  simp [splice, List.map_take, List.map_drop]
theorem splice_by {L cs : List Int} {off : Nat} (h : By L) (hc : By cs) : By (splice L off cs) := (h.take off).app (hc.app (h.drop _))
theorem frameB_len {lsn : Nat} {rec : List Int} (h1 : (uv lsn).length ≤ 10) (h2 : (uv rec.length).length ≤ 2) : (frameB lsn rec).length = 12 + rec.length := by
  have l0 : (zeros (12 + rec.length)).length = 12 + rec.length := zeros_len _
  have l1 : (splice (zeros (12 + rec.length)) 0 (uv lsn)).length = 12 + rec.length := by rw [length_splice _ _ _ (by rw [l0]; omega), l0]
  have l2 : (splice (splice (zeros (12 + rec.length)) 0 (uv lsn)) (uv lsn).length (uv rec.length)).length = 12 + rec.length := by rw [length_splice _ _ _ (by rw [l1]; omega), l1]
  rw [frameB, length_splice _ _ _ (by rw [l2]; exact Nat.le_refl _), l2]
theorem sizeU8 : (Tryd.prog.info? 5).map (·.size) = some 1 := by kernel_rfl
theorem own_src {w : World} {base : Nat} {v : Value} {n : Nat} {xs : List Value} (h : w.ownsRow base 5 1 v n xs) (hn : 1 ≤ n) : ∃ g cap, v = .slice (some ⟨g, 0, none⟩) n cap ∧ ∀ j u, xs[j]? = some u → w.cell? (Addr.add ⟨g, 0, none⟩ j) = some u := by
  rcases h.2 with ⟨_, h0⟩ | ⟨g, cap, cur, rfl, _⟩
  · omega
  · refine ⟨g, cap, rfl, fun j u hj => ?_⟩
    have hlt := (List.getElem?_eq_some_iff.1 hj).1
    have hx := h.1
    rw [Addr.add_lit, Nat.zero_add, h.cellAt j (by omega)]
    exact hj

set_option maxRecDepth 8000 in
set_option maxHeartbeats 3200000 in
theorem frameOf_any {w : World} {v : Value} {rec : List Int} (h : Bs w v rec) (ht : TabOk w) (hl : rec.length ≤ 2000) (lsn : Nat) (hls : lsn ≤ 5000000000000000000) :
    Calls Tryd.prog 21 #[.int .u64 lsn, v] w fun e w' => ∃ v', e = .returned v' ∧ w'.ownsRow w.heap.size 5 1 v' (rec.length + 16) ((frameL lsn rec).map (Value.int .u8)) ∧ By (frameL lsn rec) ∧ (frameL lsn rec).length = rec.length + 16 ∧ Below w.heap.size w w' := by
  obtain ⟨ao, cap, rfl, hfo⟩ := h.open
  have hrb := h.byte
  have hlc := h.len_le.2
  have hu1 := uv_len (lsn : Int)
  have hu2 := uv_two (x := (rec.length : Int)) (by omega) (by omega)
  have hu3 := uv_len (rec.length : Int)
  have hub1 : By (uv lsn) := uv_byte (by omega) (by omega)
  have hub2 : By (uv rec.length) := uv_byte (by omega) (by omega)
  have hfl := frameB_len hu1.2 hu2
  have hfb : By (frameB lsn rec) := splice_by (splice_by (splice_by (By.zeros _) hub1) hub2) hrb
  have hLb : By (frameL lsn rec) := sealL_byte hfb
  have hLl : (frameL lsn rec).length = rec.length + 16 := by rw [frameL, sealL_len, hfl]; omega
  have HLL := hid (And.intro hLb hLl)
  obtain ⟨R, hR⟩ : ∃ R, R = rec.length := ⟨_, rfl⟩
  obtain ⟨M, hM⟩ : ∃ M, M = 12 + R := ⟨_, rfl⟩
  obtain ⟨N1, hN1⟩ : ∃ N1, N1 = (uv lsn).length := ⟨_, rfl⟩
  obtain ⟨N2, hN2⟩ : ∃ N2, N2 = (uv rec.length).length := ⟨_, rfl⟩
  have HU1 := hid (fun wx => uvar_any (lsn : Int) wx (by omega) (by omega))
  have HU2 := hid (fun wx => uvar_any (rec.length : Int) wx (by omega) (by omega))
  rw [← hN1] at HU1
  rw [← hN2, ← hR] at HU2
  rw [← hR] at hl hlc hLl ⊢
  have hmk := fun wx => make_bytes M (by omega) wx
  have hw12 : IntKind.i64.wrap (12 + (R : Int)) = (M : Int) := by rw [IntKind.wrap_i64]; omega
  have H := hid h
  have HT := hid ht
  have HN := hid (And.intro hR (And.intro hM (And.intro hN1 hN2)))
  have HFO := hid hfo
  have hb1 : 1 ≤ N1 ∧ N1 ≤ 10 ∧ 1 ≤ N2 ∧ N2 ≤ 2 ∧ N1 ≤ M ∧ 12 ≤ M := by omega
  have HFB := hid (And.intro hfb hfl)
  rw [← hR] at H
  have hne : ¬ M = N1 := by omega
  have hwR : IntKind.u64.wrap (R : Int) = (R : Int) := PlainAid.u64_nonneg (by omega) (by omega)
  have hN1M : (N1 : Int) ≤ (M : Int) := by omega
  have hM12 : (12 : Int) ≤ (M : Int) := by omega
  clear h ht hfo hu1 hu2 hu3 hub1 hub2 hfl hfb hLb hLl hN1 hN2 hrb hR hM
  go_enter Tryd.func21, Tryd.ntmps21
  go_upto_region 3 with (first
    | (go_at_call 41; refine (HU1.out _).mono ?_; rintro e w2 ⟨v2, rfl, hown2, hb2⟩; obtain ⟨g2, c2, rfl, hsrc2⟩ := own_src hown2 (by omega); have hB2 : Below w.heap.size w w2 := (((Below.refl _ w).alloc (Nat.le_refl _) _).trans (hb2.mono (by simp))); have hg2 := (hb2.block w.heap.size (by simp)).trans (heap_new w (.cells (List.replicate M (Value.int .u8 0)).toArray 5)); clear hown2 hb2)
    | (refine wpList_copy_splice rfl (.tmp 11) (.tmp 13) 32 32 rfl 5 Tryd.underlying32 sizeU8 (some ⟨w.heap.size, 0, none⟩) (some ⟨g2, 0, none⟩) M M N1 c2 rfl rfl w.heap.size 0 (List.replicate M (Value.int .u8 0)) 5 hg2 ((uv lsn).map (Value.int .u8)) (by rw [List.length_map, ← HN.out.2.2.1]; exact (Nat.min_eq_left (by omega)).symm) (fun _ => ⟨rfl, _, rfl, hsrc2⟩) (by rw [List.length_map, List.length_replicate, ← HN.out.2.2.1]; omega) (ints_oneCell _ _) w.heap.size w hB2 (Nat.le_refl _) ?_; intro w3 hg3 hB3; rw [List.length_map, ← HN.out.2.2.1]; clear hg2 hsrc2 hB2))
  obtain ⟨C1, hC1⟩ : ∃ C1, C1 = splice (List.replicate M (Value.int .u8 0)) 0 ((uv lsn).map (Value.int .u8)) := ⟨_, rfl⟩
  rw [← hC1] at hg3
  have hC1l : C1.length = M := by rw [hC1, length_splice _ _ _ (by rw [List.length_map, List.length_replicate, ← HN.out.2.2.1]; omega), List.length_replicate]
  have HC1 := hid (And.intro hC1 hC1l)
  clear hC1 hC1l
  go_cut [22] from 15 to 21 (fun _ wx => Hid (wx.heap[w.heap.size]? = some (.cells (splice C1 N1 ((uv R).map (Value.int .u8))).toArray 5 (0, 0))) ∧ Below w.heap.size w wx)
  case first =>
    go_region_law (first
      | (refine step_copy_splice rfl (.tmp 17) (.tmp 21) 32 32 rfl 5 Tryd.underlying32 sizeU8 (some ⟨w.heap.size, N1, none⟩) (some ⟨g5, 0, none⟩) (M - N1) (M - N1) N2 c5 rfl rfl w.heap.size N1 C1 5 hg5.out ((uv R).map (Value.int .u8)) (by rw [List.length_map, HN.out.1, ← HN.out.2.2.2]; exact (Nat.min_eq_left (by omega)).symm) (fun _ => ⟨rfl, _, rfl, hsrc5.out⟩) (by rw [List.length_map, HN.out.1, ← HN.out.2.2.2, HC1.out.2]; omega) (ints_oneCell _ _) w.heap.size w hB5.out (Nat.le_refl _) ?_; intro w6 hg6 hB6)
      | (go_simp; go_at_call 41; refine (HU2.out _).mono ?_; rintro e w5 ⟨v5, rfl, hown5, hb5⟩; obtain ⟨g5, c5, rfl, hs5⟩ := own_src hown5 (by omega); dsimp only; have hsrc5 := hid hs5; have hB5 := hid (hB3.trans ((((Below.refl _ w3).drew).trans hb5).mono hB3.size)); have hg5 := hid ((hb5.block w.heap.size (lt_of_heap hg3.out)).trans hg3.out); clear hown5 hb5 hs5))
    all_goals
      go_wp2
      go_meet
      exact ⟨hg6, hB6⟩
  case rest =>
  obtain ⟨hg7, hB7⟩ := hcut
  obtain ⟨C2, hC2⟩ : ∃ C2, C2 = splice C1 N1 ((uv R).map (Value.int .u8)) := ⟨_, rfl⟩
  rw [← hC2] at hg7
  have hC2l : C2.length = M := by rw [hC2, length_splice _ _ _ (by rw [List.length_map, HN.out.1, ← HN.out.2.2.2, HC1.out.2]; omega), HC1.out.2]
  have hfin : ∀ (w8 : World), Hid (w8.heap[w.heap.size]? = some (.cells (splice C2 12 (rec.map (Value.int .u8))).toArray 5 (0, 0))) → Below w.heap.size w w8 → Calls Tryd.prog 42 #[.slice (some ⟨w.heap.size, 0, none⟩) M M] w8 fun e w' => ∃ a9 c9, e = .returned (.slice a9 (R + 16) c9) ∧ w'.ownsRow w.heap.size 5 1 (.slice a9 (R + 16) c9) (R + 16) ((frameL lsn rec).map (Value.int .u8)) ∧ Below w.heap.size w w' := fun w8 hg8 hB8 => by
    have e3 : splice C2 12 (rec.map (Value.int .u8)) = (frameB lsn rec).map (Value.int .u8) := by
      rw [frameB, map_splice, map_splice, map_splice, hC2, HC1.out.1, ← HN.out.2.2.1, HN.out.1, HN.out.2.1, HN.out.1]
      simp [zeros]
    have hlen := HFB.out.2
    have hown : w8.ownsRow w.heap.size 5 1 (.slice (some ⟨w.heap.size, 0, none⟩) M M) M ((frameB lsn rec).map (Value.int .u8)) := by
      refine ⟨by rw [List.length_map, hlen, HN.out.2.1, HN.out.1]; omega, .inr ⟨w.heap.size, M, _, rfl, Nat.le_refl _, hg8.out, Nat.le_refl _, by unfold maxLen; have := HN.out.2.1; omega, ?_, ?_⟩⟩
      · rw [e3]; simp [hlen, HN.out.2.1, HN.out.1]
      · rw [e3]
        simp only [Nat.mul_one]
        rw [List.take_of_length_le (by rw [List.length_map, hlen, HN.out.2.1, HN.out.1]; exact Nat.le_refl _)]
    refine (seal_any (bs_of_own hown HFB.out.1 (by rw [hlen, ← HN.out.1]; omega)) (HT.out.below hB8 (Nat.le_refl _)) (by rw [hlen, ← HN.out.1]; omega)).mono ?_
    rintro e w9 ⟨v9, rfl, hown9, hb9⟩
    have hl16 : (sealL (frameB lsn rec)).length = R + 16 := by rw [sealL_len, hlen, HN.out.1]; omega
    rw [hl16] at hown9
    obtain ⟨a9, c9, rfl⟩ := slice_form hown9
    exact ⟨a9, c9, rfl, own_mono hown9 hB8.size, hB8.trans (hb9.mono hB8.size)⟩
  have HFIN := hid hfin
  have HC2 := hid hC2l
  have hsR : ∀ j u, (rec.map (Value.int .u8))[j]? = some u → ∃ b off, ao = some ⟨b, off, none⟩ ∧ wc.cell? (Addr.add ⟨b, off, none⟩ j) = some u := fun j u hj => by
    have hlt := (List.getElem?_eq_some_iff.1 hj).1
    rw [List.length_map] at hlt
    obtain ⟨b, off, rfl, hc⟩ := HFO.out (by omega)
    refine ⟨b, off, rfl, ?_⟩
    have h1 := hc j hlt
    rw [Addr.add_lit, (hB7.cell (p := ⟨b, off + j, none⟩) (lt_of_cell h1)).trans h1, ← hj]
    simp [hlt]
  have HSR := hid hsR
  have HG7 := hid (And.intro hg7 hB7)
  have hrl : (rec.map (Value.int .u8)).length = Nat.min R R := by rw [List.length_map, ← HN.out.1]; exact (Nat.min_self _).symm
  have HRL := hid hrl
  clear hfin hC2 hC2l hsR hg7 hB7 hrl hg3 hB3
  by_cases hR0 : M = 12
  · have hR00 : R = 0 := by have := HN.out.2.1; omega
    have hrec : rec = [] := List.eq_nil_of_length_eq_zero (by rw [← HN.out.1]; exact hR00)
    have HR0 := hid (And.intro hR0 (And.intro hR00 hrec))
    have hMT : (M = 12) = True := eq_true hR0
    clear hR0 hR00 hrec
    go_wp2_with (first
      | (refine wpList_copy_splice rfl (.tmp 24) (.tmp 25) 32 32 rfl 5 Tryd.underlying32 sizeU8 _ ao _ _ R cap rfl rfl w.heap.size 12 C2 5 HG7.out.1.out (rec.map (Value.int .u8)) (by rw [HR0.out.2.2, HR0.out.2.1]; simp) (fun hp => absurd hp (by rw [HR0.out.2.2]; simp)) (by rw [HR0.out.2.2, HC2.out]; simp; omega) (ints_oneCell _ _) w.heap.size w HG7.out.2 (Nat.le_refl _) ?_; intro w8 hg8 hB8)
      | (go_at_call 42; refine (HFIN.out _ hg8 hB8).mono ?_; rintro e w9 ⟨a9, c9, rfl, hown9, hB9⟩))
    go_ret
    exact ⟨_, rfl, hown9, HLL.out.1, by rw [HLL.out.2, HN.out.1], hB9⟩
  · have hMF : (M = 12) = False := eq_false hR0
    clear hR0
    go_wp2_with (first
      | (refine wpList_copy_splice rfl (.tmp 24) (.tmp 25) 32 32 rfl 5 Tryd.underlying32 sizeU8 (some ⟨w.heap.size, 12, none⟩) ao (M - 12) (M - 12) R cap rfl rfl w.heap.size 12 C2 5 HG7.out.1.out (rec.map (Value.int .u8)) (by rw [HRL.out, HN.out.2.1]; simp) (fun hp => ⟨rfl, by
            rw [List.length_map] at hp
            obtain ⟨b, off, e, _⟩ := HFO.out (by omega)
            refine ⟨⟨b, off, none⟩, e, fun j u hj => ?_⟩
            obtain ⟨b', off', e', h'⟩ := HSR.out j u hj
            rw [e] at e'
            injection e' with e'
            rw [e']
            exact h'⟩) (by rw [List.length_map, ← HN.out.1, HC2.out, HN.out.2.1]; exact Nat.le_refl _) (ints_oneCell _ _) w.heap.size w HG7.out.2 (Nat.le_refl _) ?_; intro w8 hg8 hB8)
      | (go_at_call 42; refine (HFIN.out _ hg8 hB8).mono ?_; rintro e w9 ⟨a9, c9, rfl, hown9, hB9⟩))
    go_ret
    exact ⟨_, rfl, hown9, HLL.out.1, by rw [HLL.out.2, HN.out.1], hB9⟩
end Go.Proofs.YthhlbhnogcfnjaaDoor

namespace Go.Proofs.YthhlbhnogcfnjaaDoor
open Go.RowKit Go.Shelf

/-- A piece and its number, in a sector's body. -/
def secB (no : Nat) (ps : List Int) : List Int := splice (splice (zeros 60) 0 ps) 48 (uv no)
def secL (no : Nat) (ps : List Int) : List Int := sealL (secB no ps)
theorem secB_len {no : Nat} {ps : List Int} (h1 : (uv no).length ≤ 10) (h2 : ps.length ≤ 48) : (secB no ps).length = 60 := by
  have l0 : (zeros 60).length = 60 := zeros_len _
  have l1 : (splice (zeros 60) 0 ps).length = 60 := by rw [length_splice _ _ _ (by rw [l0]; omega), l0]
  rw [secB, length_splice _ _ _ (by rw [l1]; omega), l1]

set_option maxRecDepth 8000 in
set_option maxHeartbeats 3200000 in
theorem sectorOf_any {w : World} {v : Value} {ps : List Int} (h : Bs w v ps) (ht : TabOk w) (hl : ps.length ≤ 48) (no : Nat) (hno : no ≤ 18446744073709551615) :
    Calls Tryd.prog 39 #[.int .u64 no, v] w fun e w' => ∃ v', e = .returned v' ∧ w'.ownsRow w.heap.size 5 1 v' 64 ((secL no ps).map (Value.int .u8)) ∧ By (secL no ps) ∧ (secL no ps).length = 64 ∧ Below w.heap.size w w' := by
  obtain ⟨ao, cap, rfl, hfo⟩ := h.open
  have hrb := h.byte
  have hu1 := uv_len (no : Int)
  have hub1 : By (uv no) := uv_byte (by omega) (by omega)
  have hfl := secB_len hu1.2 hl
  have hfb : By (secB no ps) := splice_by (splice_by (By.zeros _) hrb) hub1
  have hLb : By (secL no ps) := sealL_byte hfb
  have hLl : (secL no ps).length = 64 := by rw [secL, sealL_len, hfl]
  have HLL := hid (And.intro hLb hLl)
  obtain ⟨R, hR⟩ : ∃ R, R = ps.length := ⟨_, rfl⟩
  obtain ⟨N1, hN1⟩ : ∃ N1, N1 = (uv no).length := ⟨_, rfl⟩
  have HU1 := hid (fun wx => uvar_any (no : Int) wx (by omega) (by omega))
  rw [← hN1] at HU1
  rw [← hR] at hl ⊢
  obtain ⟨Z, hZ⟩ : ∃ Z, Z = List.replicate 60 (Value.int .u8 0) := ⟨_, rfl⟩
  have hZl : Z.length = 60 := by rw [hZ]; simp
  have hmk : ∀ wx : World, (Instr.makeSlice 32 (.int .i64 60) (.int .i64 60)).run Tryd.prog wx = .ok (.slice (some ⟨wx.heap.size, 0, none⟩) 60 60) (wx.alloc (.cells Z.toArray 5)) := fun wx => by rw [hZ]; exact make_bytes 60 (by omega) wx
  have HZ := hid (And.intro hZ hZl)
  clear hZ hZl
  have HT := hid ht
  have HN := hid (And.intro hR hN1)
  have HFO := hid hfo
  have hb1 : 1 ≤ N1 ∧ N1 ≤ 10 := by omega
  have HFB := hid (And.intro hfb hfl)
  have hsR : ∀ wc : World, Below w.heap.size w wc → ∀ j u, (ps.map (Value.int .u8))[j]? = some u → ∃ b off, ao = some ⟨b, off, none⟩ ∧ wc.cell? (Addr.add ⟨b, off, none⟩ j) = some u := fun wc hB j u hj => by
    have hlt := (List.getElem?_eq_some_iff.1 hj).1
    rw [List.length_map] at hlt
    obtain ⟨b, off, rfl, hc⟩ := HFO.out (by omega)
    refine ⟨b, off, rfl, ?_⟩
    have h1 := hc j hlt
    rw [Addr.add_lit, (hB.cell (p := ⟨b, off + j, none⟩) (lt_of_cell h1)).trans h1, ← hj]
    simp [hlt]
  have HSR := hid hsR
  have hrl : (ps.map (Value.int .u8)).length = Nat.min R 60 := by rw [List.length_map, ← HN.out.1]; exact (Nat.min_eq_left (by omega)).symm
  have HRL := hid hrl
  have hBA : Below w.heap.size w (w.alloc (.cells Z.toArray 5)) := (Below.refl _ w).alloc (Nat.le_refl _) _
  have hgA := heap_new w (.cells Z.toArray 5)
  have HA := hid (And.intro hBA hgA)
  clear h ht hfo hu1 hub1 hfl hfb hLb hLl hN1 hrb hR hsR hrl hBA hgA
  go_enter Tryd.func39, Tryd.ntmps39
  go_upto_region 3 with (first
    | (refine wpList_copy_splice rfl (.tmp 7) (.tmp 8) 32 32 rfl 5 Tryd.underlying32 sizeU8 (some ⟨w.heap.size, 0, none⟩) ao 60 60 R cap rfl rfl w.heap.size 0 Z 5 HA.out.2 (ps.map (Value.int .u8)) HRL.out (fun hp => ⟨rfl, by
            rw [List.length_map] at hp
            obtain ⟨b, off, e, _⟩ := HFO.out (by omega)
            refine ⟨⟨b, off, none⟩, e, fun j u hj => ?_⟩
            obtain ⟨b', off', e', h'⟩ := HSR.out _ HA.out.1 j u hj
            rw [e] at e'
            injection e' with e'
            rw [e']
            exact h'⟩) (by rw [List.length_map, HZ.out.2, ← HN.out.1]; omega) (ints_oneCell _ _) w.heap.size w HA.out.1 (Nat.le_refl _) ?_; intro w3 hg3 hB3; rw [List.length_map, ← HN.out.1, show goInt (R : Int) = .int .i64 (R : Int) from rfl]; simp only [Act.put, List.setIfInBounds_toArray, List.set_cons_zero, List.set_cons_succ]))
  obtain ⟨C1, hC1⟩ : ∃ C1, C1 = splice Z 0 (ps.map (Value.int .u8)) := ⟨_, rfl⟩
  rw [← hC1] at hg3
  have hC1l : C1.length = 60 := by rw [hC1, length_splice _ _ _ (by rw [List.length_map, HZ.out.2, ← HN.out.1]; omega), HZ.out.2]
  have HC1 := hid (And.intro hC1 hC1l)
  clear hC1 hC1l
  go_cut [5] from 10 to 14 (fun v wx => v = .slice (some ⟨w.heap.size, 0, none⟩) 60 60 ∧ Hid (wx.heap[w.heap.size]? = some (.cells (splice C1 48 ((uv no).map (Value.int .u8))).toArray 5 (0, 0))) ∧ Below w.heap.size w wx)
  case first =>
    go_region_law (first
      | (refine step_copy_splice rfl (.tmp 11) (.tmp 13) 32 32 rfl 5 Tryd.underlying32 sizeU8 (some ⟨w.heap.size, 48, none⟩) (some ⟨g5, 0, none⟩) 12 12 N1 c5 rfl rfl w.heap.size 48 C1 5 hg5.out ((uv no).map (Value.int .u8)) (by rw [List.length_map, ← HN.out.2]; exact (Nat.min_eq_left (by omega)).symm) (fun _ => ⟨rfl, _, rfl, hsrc5.out⟩) (by rw [List.length_map, ← HN.out.2, HC1.out.2]; omega) (ints_oneCell _ _) w.heap.size w hB5.out (Nat.le_refl _) ?_; intro w6 hg6 hB6)
      | (go_simp; go_at_call 41; refine (HU1.out _).mono ?_; rintro e w5 ⟨v5, rfl, hown5, hb5⟩; obtain ⟨g5, c5, rfl, hs5⟩ := own_src hown5 (by omega); dsimp only; have hsrc5 := hid hs5; have hB5 := hid (hB3.trans ((((Below.refl _ w3).drew).trans hb5).mono hB3.size)); have hg5 := hid ((hb5.block w.heap.size (lt_of_heap hg3.out)).trans hg3.out); clear hown5 hb5 hs5))
    all_goals
      go_wp2
      go_meet
      exact ⟨rfl, hg6, hB6⟩
  case rest =>
  obtain ⟨rfl, hg7, hB7⟩ := hcut
  have hfin : Calls Tryd.prog 42 #[.slice (some ⟨w.heap.size, 0, none⟩) 60 60] wc fun e w' => ∃ a9 c9, e = .returned (.slice a9 64 c9) ∧ w'.ownsRow w.heap.size 5 1 (.slice a9 64 c9) 64 ((secL no ps).map (Value.int .u8)) ∧ Below w.heap.size w w' := by
    have e3 : splice C1 48 ((uv no).map (Value.int .u8)) = (secB no ps).map (Value.int .u8) := by
      rw [secB, map_splice, map_splice, HC1.out.1, HZ.out.1]
      simp [zeros]
    have hlen := HFB.out.2
    have hown : wc.ownsRow w.heap.size 5 1 (.slice (some ⟨w.heap.size, 0, none⟩) 60 60) 60 ((secB no ps).map (Value.int .u8)) := by
      refine ⟨by rw [List.length_map, hlen], .inr ⟨w.heap.size, 60, _, rfl, Nat.le_refl _, hg7.out, Nat.le_refl _, by unfold maxLen; omega, ?_, ?_⟩⟩
      · rw [e3]; simp [hlen]
      · rw [e3]
        simp only [Nat.mul_one]
        rw [List.take_of_length_le (by rw [List.length_map, hlen]; exact Nat.le_refl _)]
    refine (seal_any (bs_of_own hown HFB.out.1 (by rw [hlen]; omega)) (HT.out.below hB7 (Nat.le_refl _)) (by rw [hlen]; omega)).mono ?_
    rintro e w9 ⟨v9, rfl, hown9, hb9⟩
    have hl16 : (sealL (secB no ps)).length = 64 := by rw [sealL_len, hlen]
    rw [hl16] at hown9
    obtain ⟨a9, c9, rfl⟩ := slice_form hown9
    exact ⟨a9, c9, rfl, own_mono hown9 hB7.size, hB7.trans (hb9.mono hB7.size)⟩
  have HFIN := hid hfin
  clear hfin hg7 hB7 hg3 hB3
  go_wp2_with (first
    | (go_at_call 42; refine HFIN.out.mono ?_; rintro e w9 ⟨a9, c9, rfl, hown9, hB9⟩))
  go_ret
  exact ⟨_, rfl, hown9, HLL.out.1, HLL.out.2, hB9⟩
end Go.Proofs.YthhlbhnogcfnjaaDoor

namespace Go.Proofs.YthhlbhnogcfnjaaDoor
open Go.RowKit Go.Shelf

/-- The head's sector. -/
def headL (f s : Nat) : List Int := secL 18446744073709551615 (uv f ++ uv s)


set_option maxRecDepth 8000 in
set_option maxHeartbeats 3200000 in
theorem headOf_any {w : World} (ht : TabOk w) (f s : Nat) (hf : f ≤ 5000000000000000000) (hs : s ≤ 5000000000000000000) :
    Calls Tryd.prog 26 #[.int .u64 f, .int .u64 s] w fun e w' => ∃ v', e = .returned v' ∧ w'.ownsRow w.heap.size 5 1 v' 64 ((headL f s).map (Value.int .u8)) ∧ By (headL f s) ∧ (headL f s).length = 64 ∧ Below w.heap.size w w' := by
  have HU1 := hid (fun wx => uvar_any (f : Int) wx (by omega) (by omega))
  have HU2 := hid (fun wx => uvar_any (s : Int) wx (by omega) (by omega))
  have hu1 := uv_len (f : Int)
  have hu2 := uv_len (s : Int)
  have hub1 : By (uv f) := uv_byte (by omega) (by omega)
  have hub2 : By (uv s) := uv_byte (by omega) (by omega)
  have HB := hid (And.intro hub1 hub2)
  have hsec : ∀ (w5 : World) (v5 : Value), w5.ownsRow w.heap.size 5 1 v5 ((uv f).length + (uv s).length) ((uv f).map (Value.int .u8) ++ (uv s).map (Value.int .u8)) → Below w.heap.size w w5 →
      Calls Tryd.prog 39 #[.int .u64 18446744073709551615, v5] w5 fun e w' => ∃ v', e = .returned v' ∧ w'.ownsRow w.heap.size 5 1 v' 64 ((headL f s).map (Value.int .u8)) ∧ By (headL f s) ∧ (headL f s).length = 64 ∧ Below w.heap.size w w' := fun w5 v5 ho hb => by
    rw [← List.map_append] at ho
    refine (sectorOf_any (bs_of_own ho (hub1.app hub2) (by rw [List.length_append]; omega)) (ht.below hb (Nat.le_refl _)) (by rw [List.length_append]; omega) 18446744073709551615 (by omega)).mono ?_
    rintro e w' ⟨v', rfl, h1, h2, h3, h4⟩
    exact ⟨v', rfl, own_mono h1 hb.size, h2, h3, hb.trans (h4.mono hb.size)⟩
  have HSE := hid hsec
  have HL := hid (And.intro hu1 hu2)
  clear hsec hu1 hu2 hub1 hub2 ht
  go_enter Tryd.func26, Tryd.ntmps26
  go_wp2_with (first
    | (go_at_call 39; refine (HSE.out _ _ HO5.out HB5.out).mono ?_; rintro e w6 ⟨v6, rfl, hown6, hby6, hl6, hb6⟩; have HFIN := hid (And.intro hown6 (And.intro hby6 (And.intro hl6 hb6))); clear hown6 hby6 hl6 hb6)
    | (at_builtin; refine wpList_append_bs rfl (.tmp 6) (.tmp 8) rfl w.heap.size _ _ _ rfl HO4.out _ _ rfl HV4.out (by have := HL.out; omega) HB4.out.size ?_; intro v5 w5 hown5 hgrow5; have HB5 := hid (HB4.out.grown hgrow5 HB4.out.size (own_base HO4.out)); have HO5 := hid hown5; clear hown5 hgrow5)
    | (go_at_call 41; have hx : ∃ w2x : World, w2x = w := ⟨_, rfl⟩; refine (HU1.out w).mono ?_; rintro e w2 ⟨v2, rfl, hown2, hb2⟩; have HO2 := hid hown2; have HB2 := hid hb2; clear hx HU1 hown2 hb2)
    | (go_at_call 41; refine (HU2.out w2).mono ?_; rintro e w4 ⟨v4, rfl, hown4, hb4⟩; have HO4 := hid (own_below HO2.out hb4); have HB4 := hid (HB2.out.trans (hb4.mono HB2.out.size)); have HV4 := hid (bs_of_own hown4 HB.out.2 (by have := HL.out; omega)); clear hown4 hb4))
  go_ret
  exact ⟨_, rfl, HFIN.out⟩

end Go.Proofs.YthhlbhnogcfnjaaDoor
