/-
  Layer 3: pages in memory; what page.accept gives.
-/
import Derived.Test.YtafopokcfkgjiaaDoorGHead
namespace Go.Proofs.YtafopokcfkgjiaaDoor
open Go.RowKit

/-- The slice v holds the pages ps, each with bytes of its own. -/
def Pgs (w : World) (v : Value) (ps : List Pg) : Prop :=
  ∃ ao cap, v = .slice ao ps.length cap ∧ ps.length ≤ cap ∧ (1 ≤ ps.length → ∃ b off c f, ao = some ⟨b, off, none⟩ ∧ w.heap[b]? = some (.cells c 33 f) ∧
    ∀ (k : Nat) (p : Pg), ps[k]? = some p → ∃ s, w.cell? ⟨b, off + k * 3, none⟩ = some (.int .i64 p.no) ∧ w.cell? ⟨b, off + k * 3 + 1, none⟩ = some (.int .u64 p.lsn) ∧ w.cell? ⟨b, off + k * 3 + 2, none⟩ = some s ∧ w.ownsRow 0 5 1 s p.data.length (secV p.data))
theorem nd_page : ¬ diskT 33 := by unfold diskT; decide
theorem Pgs.same {w w' : World} {v : Value} {ps : List Pg} (h : Pgs w v ps) (hk : ∀ (k : Nat) c t f, w.heap[k]? = some (Obj.cells c t f) → t = 33 ∨ t = 5 → w'.heap[k]? = w.heap[k]?) : Pgs w' v ps := by
  obtain ⟨ao, cap, rfl, hc, h⟩ := h
  refine ⟨ao, cap, rfl, hc, fun h1 => ?_⟩
  obtain ⟨b, off, c, f, hb, hh, hp⟩ := h h1
  have hb' := hk b _ _ _ hh (.inl rfl)
  refine ⟨b, off, c, f, hb, hb'.trans hh, fun k p hkp => ?_⟩
  obtain ⟨s, c0, c1, c2, hs⟩ := hp k p hkp
  have far : ∀ o, w'.cell? ⟨b, o, none⟩ = w.cell? ⟨b, o, none⟩ := fun o => by simp only [World.cell?, hb']
  refine ⟨s, (far _).trans c0, (far _).trans c1, (far _).trans c2, own_same hs fun k' hk' => ?_⟩
  obtain ⟨c', hc'⟩ := own_heap hs hk'
  exact hk k' _ _ _ hc' (.inr rfl)
theorem Pgs.below {w w' : World} {v : Value} {ps : List Pg} (h : Pgs w v ps) (hb : Below w.heap.size w w') : Pgs w' v ps := h.same fun k _ _ _ hk _ => hb.block k (lt_of_heap hk)
theorem Pgs.kd {w w' : World} {base : Nat} {v : Value} {ps : List Pg} (h : Pgs w v ps) (hk : Kd base w w') : Pgs w' v ps := h.same fun k c t f h1 ht => by
  rcases ht with rfl | rfl
  · exact hk.keep k _ _ _ h1 (by decide) (by decide) (by decide)
  · exact hk.keep k _ _ _ h1 (by decide) (by decide) (by decide)
theorem pgs_nil (w : World) : Pgs w (.slice none 0 0) [] := ⟨none, 0, rfl, Nat.le_refl _, fun h => by simp at h⟩

theorem same_any {w : World} {a n : Int} {l : Int} {s : Value} {bx : Nat} (hb : w.cell? ⟨bx, 0, none⟩ = some (.int .i64 n)) (hlt : bx < w.heap.size) :
    Calls Tryd.prog 29 #[.agg #[.int .i64 a, .int .u64 l, s], .pointer (some ⟨bx, 0, none⟩)] w fun e w' => e = .returned (.bool (a == n)) ∧ Below w.heap.size w w' := by
  have hb2 : (w.alloc (.cells #[.int .i64 a, .int .u64 l, s] 33)).cell? ⟨bx, 0, none⟩ = some (.int .i64 n) := by rw [World.cell?_alloc_lt _ _ _ hlt]; exact hb
  clear hb
  go_enter Tryd.func29, Tryd.ntmps29
  go_wp2
  go_ret
  exact ⟨rfl, (Below.refl _ _).alloc (Nat.le_refl _) _⟩
theorem pindex_any {w : World} {v : Value} {ps : List Pg} {bx : Nat} {n : Nat} (h : Pgs w v ps) (hl : ps.length ≤ 8) (hb : w.cell? ⟨bx, 0, none⟩ = some (.int .i64 n)) (hne : ∀ p ∈ ps, p.no ≠ n) :
    Calls Tryd.prog 43 #[v, .func (.func 29) #[] #[.pointer (some ⟨bx, 0, none⟩)]] w fun e w' => e = .returned (.int .i64 (-1)) ∧ Below w.heap.size w w' := by
  obtain ⟨ao, cap, rfl, hc, hp⟩ := h
  have hblt := lt_of_cell hb
  obtain ⟨L, hL⟩ : ∃ L, L = ps.length := ⟨_, rfl⟩
  rw [← hL] at hc hl hp ⊢
  have HP := hid hp
  have HL := hid hL
  have HB := hid hb
  have HNE := hid hne
  clear hp hL hb hne
  go_enter Tryd.func43, Tryd.ntmps43
  go_wp2
  go_loopw [5, 8] (fun _ i wr => ∃ k : Nat, k ≤ L ∧ i = .int .i64 k ∧ Below w.heap.size w wr) (fun _ i _ => L - (intOf i).toNat)
  case atStart => exact ⟨0, by omega, rfl, Below.refl _ _⟩
  case round =>
    obtain ⟨k, hk, rfl, hbr⟩ := hrel
    by_cases hlt : k < L
    · obtain ⟨b, off, c, f, rfl, hh, hpp⟩ := HP.out (by omega)
      have hkl : k < ps.length := by have := HL.out; omega
      obtain ⟨s, c0, c1, c2, hs⟩ := hpp k ps[k] (by simp [hkl])
      have hbb := lt_of_heap hh
      have d0 := (hbr.cell (p := ⟨b, off + k * 3, none⟩) hbb).trans c0
      have d1 := (hbr.cell (p := ⟨b, off + k * 3 + 1, none⟩) hbb).trans c1
      have d2 := (hbr.cell (p := ⟨b, off + k * 3 + 2, none⟩) hbb).trans c2
      obtain ⟨aS, cS, rfl, _⟩ := own_any hs
      have hno := HNE.out ps[k] (List.getElem_mem hkl)
      have hnb : (((ps[k]).no : Int) == (n : Int)) = false := by simp; omega
      have HS := hid (fun (l : Int) (s : Value) => same_any (w := wr) (a := ((ps[k]).no : Int)) (l := l) (s := s) ((hbr.cell (p := ⟨bx, 0, none⟩) hblt).trans HB.out) (Nat.lt_of_lt_of_le hblt hbr.size))
      rw [hnb] at HS
      have hkI : (k : Int) < (L : Int) := by omega
      have HBR := hid hbr
      generalize ps[k] = pk at *
      clear c0 c1 c2 hs hpp hh hno hnb hbr
      go_wp2_with (go_at_call 29; refine (HS.out _ _).mono ?_; rintro e w2 ⟨rfl, hb2⟩; have HB2 := hid (HBR.out.trans (hb2.mono HBR.out.size)); clear hb2)
      go_roundw
      case rel => exact ⟨k + 1, by omega, by go_num, HB2.out⟩
      case measure => simp [intOf]; omega
    · have HBR := hid hbr
      clear hbr
      go_wp2
      go_ret
      exact ⟨rfl, HBR.out⟩
theorem pcontains_any {w : World} {v : Value} {ps : List Pg} {bx : Nat} {n : Nat} (h : Pgs w v ps) (hl : ps.length ≤ 8) (hb : w.cell? ⟨bx, 0, none⟩ = some (.int .i64 n)) (hne : ∀ p ∈ ps, p.no ≠ n) :
    Calls Tryd.prog 28 #[v, .func (.func 29) #[] #[.pointer (some ⟨bx, 0, none⟩)]] w fun e w' => e = .returned (.bool false) ∧ Below w.heap.size w w' := by
  have HI := hid (pindex_any h hl hb hne)
  obtain ⟨ao, cap, rfl, _⟩ := h
  clear hb hne
  go_enter Tryd.func28, Tryd.ntmps28
  go_wp2_with (go_at_call 43; refine HI.out.mono ?_; rintro e w2 ⟨rfl, hb2⟩; have HB2 := hid hb2; clear hb2)
  go_ret
  exact ⟨rfl, HB2.out⟩
theorem Pgs.head {w : World} {ao : Option Addr} {len cap i : Nat} {ps : List Pg} (h : Pgs w (.slice ao len cap) ps) (hi : i ≤ ps.length) : Pgs w (.slice ao i cap) (ps.take i) := by
  obtain ⟨ao', cap', hv, hc, hp⟩ := h
  injection hv with e1 e2 e3
  subst e1 e3
  have hl : (ps.take i).length = i := by simp; omega
  refine ⟨ao, cap, by rw [hl], by omega, fun h1 => ?_⟩
  obtain ⟨b, off, c, f, h1, h2, h3⟩ := hp (by omega)
  exact ⟨b, off, c, f, h1, h2, fun k p hk => h3 k p (by
    rw [List.getElem?_take] at hk
    split at hk
    · exact hk
    · cases hk)⟩
theorem takes_no {n : Nat} {ps : List Pg} (h : takes n ps) {k : Nat} (hk : k < ps.length) : ∀ p ∈ ps.take k, p.no ≠ (ps[k]).no := by
  intro p hp e
  obtain ⟨j, hj, rfl⟩ := List.mem_iff_getElem.1 hp
  have hjl : j < k := by simp at hj; omega
  have hnd := h.2.2
  have := List.pairwise_iff_getElem.1 hnd j k (by simp; omega) (by simpa using hk) hjl
  simp at this e
  exact this e

set_option maxRecDepth 8000 in
theorem accept_any {w : World} {base F B p0 np : Nat} {half : Bool} (hf : FileIs w base F B p0 np half) {v : Value} {ps : List Pg} (h : Pgs w v ps) (ht : takes np ps) :
    Calls Tryd.prog 15 #[.pointer (some ⟨F, 0, none⟩), v] w fun e w' => e = .returned (.int .i64 0) ∧ Below w.heap.size w w' := by
  have HF := hid hf
  have HT := hid ht
  have HP := hid h
  have hl8 := ht.1
  obtain ⟨ao, cap, rfl, hc, hp⟩ := h
  obtain ⟨L, hL⟩ : ∃ L, L = ps.length := ⟨_, rfl⟩
  rw [← hL] at hc hp hl8 HP ⊢
  have HPP := hid hp
  have HL := hid hL
  have h8 : ¬ ((8 : Int) < (L : Int)) := by omega
  clear hp hL hf ht
  go_enter Tryd.func15, Tryd.ntmps15
  go_wp2
  go_loopw [5, 6, 7, 13] (fun _ _ _ i wr => ∃ k : Nat, k ≤ L ∧ i = .int .i64 k ∧ Below w.heap.size w wr) (fun _ _ _ i _ => L - (intOf i).toNat)
  case atStart => exact ⟨0, by omega, rfl, Below.refl _ _⟩
  case round =>
    obtain ⟨k, hk, rfl, hbr⟩ := hrel
    by_cases hlt : k < L
    · obtain ⟨b, off, c, f, rfl, hh, hpp⟩ := HPP.out (by omega)
      have hkl : k < ps.length := by have := HL.out; omega
      obtain ⟨s, c0, c1, c2, hs⟩ := hpp k ps[k] (by simp [hkl])
      have hbb := lt_of_heap hh
      have d0 := (hbr.cell (p := ⟨b, off + k * 3, none⟩) hbb).trans c0
      have d1 := (hbr.cell (p := ⟨b, off + k * 3 + 1, none⟩) hbb).trans c1
      have d2 := (hbr.cell (p := ⟨b, off + k * 3 + 2, none⟩) hbb).trans c2
      have hpok := HT.out.2.1 ps[k] (List.getElem_mem hkl)
      rw [hpok.len] at hs
      obtain ⟨aS, cS, rfl, _⟩ := own_any hs
      have hno := takes_no HT.out hkl
      have hin := hpok.no
      have hkI : (k : Int) < (L : Int) := by omega
      have hwb : Below wr.heap.size wr (wr.alloc (.cells #[.int .i64 (ps[k]).no, .int .u64 (ps[k]).lsn, .slice aS 480 cS] 33)) := (Below.refl _ _).alloc (Nat.le_refl _) _
      have hcb : (wr.alloc (.cells #[.int .i64 (ps[k]).no, .int .u64 (ps[k]).lsn, .slice aS 480 cS] 33)).cell? ⟨wr.heap.size, 0, none⟩ = some (.int .i64 (ps[k]).no) := by rw [cell_of_row _ _ _ _ _ _ (heap_new wr _)]; rfl
      have HC := hid (pcontains_any (((HP.out.below hbr).below hwb).head (i := k) (by omega)) (by simp; omega) hcb hno)
      have HHAS := hid (fun wx (hb : Below w.heap.size w wx) => phas_any (HF.out.below hb) ((ps[k]).no : Int))
      have hhd : decide (0 ≤ ((ps[k]).no : Int) ∧ ((ps[k]).no : Int) < (np : Int)) = true := by simp; omega
      rw [hhd] at HHAS
      have HBR := hid (hbr.trans (hwb.mono hbr.size))
      have HN0 := hid (heap_new wr (.cells #[.int .i64 (ps[k]).no, .int .u64 (ps[k]).lsn, .slice aS 480 cS] 33))
      have HSZ := hid hbr.size
      generalize ps[k] = pk at *
      obtain ⟨wB, hwB⟩ : ∃ wB, wr.alloc (.cells #[.int .i64 pk.no, .int .u64 pk.lsn, .slice aS 480 cS] 33) = wB := ⟨_, rfl⟩
      rw [hwB] at HC HBR HN0
      clear c0 c1 c2 hs hpp hh hno hbr hwb hcb hin hhd hpok
      go_wp2_with (first
        | (go_at_call 28; refine HC.out.mono ?_; rintro e w2 ⟨rfl, hb2⟩; have HB2 := hid (HBR.out.trans (hb2.mono HBR.out.size)); have hn2 := (hb2.block _ (lt_of_heap HN0.out)).trans HN0.out; have e0 := cell_of_row w2 wr.heap.size 0 _ _ _ hn2; have e2 := cell_of_row w2 wr.heap.size 2 _ _ _ hn2; simp only [List.getElem?_toArray, List.getElem?_cons_succ, List.getElem?_cons_zero] at e0 e2; have HHA := hid (HHAS.out w2 HB2.out); clear hb2 HC hn2)
        | (go_at_call 30; refine HHA.out.mono ?_; rintro e w3 ⟨rfl, hw⟩; have hw' := hw.symm; clear hw; subst hw'; clear HHA))
      go_roundw
      case rel => exact ⟨k + 1, by omega, by go_num, HB2.out⟩
      case measure => simp [intOf]; omega
    · have HBR := hid hbr
      clear hbr
      go_wp2
      go_ret
      exact ⟨rfl, HBR.out⟩
end Go.Proofs.YtafopokcfkgjiaaDoor
