/-
  What disk.Crash gives.
-/
import Derived.Test.YthhlbhnogcfnjaaDoorDMarks
namespace Go.Proofs.YthhlbhnogcfnjaaDoor
open Go.RowKit Go.Shelf

attribute [local go_sem] Oper.semAt_some

/-- Of numbered Writes those that are kept. -/
def keptO (keep : List Int) (l : List (Nat × (Nat × List Int))) : List (Nat × List Int) := (l.filter fun x => decide ((x.1 : Int) ∈ keep)).map (·.2)
theorem keptO_items (keep : List Int) (ws : List (Nat × List Int)) : keptO keep (items ws) = kept keep ws := by
  have : ∀ k, keptO keep (itemsFrom k ws) = keptFrom keep k ws := by
    induction ws with
    | nil => intro k; rfl
    | cons x r ih =>
      intro k
      have := ih (k + 1)
      unfold keptO at this ⊢
      by_cases h : (k : Int) ∈ keep
      · simp [itemsFrom, keptFrom, h, ← this]
      · simp [itemsFrom, keptFrom, h, ← this]
  exact this 0
theorem keptO_yes {keep : List Int} {l : List (Nat × (Nat × List Int))} {x : Nat × (Nat × List Int)} (h : (x.1 : Int) ∈ keep) : keptO keep (l ++ [x]) = keptO keep l ++ [x.2] := by simp [keptO, h]
theorem keptO_no {keep : List Int} {l : List (Nat × (Nat × List Int))} {x : Nat × (Nat × List Int)} (h : ¬ (x.1 : Int) ∈ keep) : keptO keep (l ++ [x]) = keptO keep l := by simp [keptO, h]


/-- The marks, in a variable of their own. -/
structure Mk (Bk g wb len : Nat) (keep : List Int) (W : World) : Prop where
  var : W.heap[Bk]? = some (.cells #[.slice (some ⟨g, 0, none⟩) len len] 61 (0, 0))
  row : W.ownsRow wb 4 1 (.slice (some ⟨g, 0, none⟩) len len) len (marksL keep len)
theorem Mk.same {Bk g wb len : Nat} {keep : List Int} {W W' : World} (h : Mk Bk g wb len keep W) (hk : ∀ (k : Nat) c t f, W.heap[k]? = some (Obj.cells c t f) → t ≠ 67 → W'.heap[k]? = W.heap[k]?) : Mk Bk g wb len keep W' :=
  ⟨(hk _ _ _ _ h.var (by decide)).trans h.var, own_same h.row fun k hk' => by
    obtain ⟨c, hc⟩ := own_heap h.row hk'
    exact hk k _ _ _ hc (by decide)⟩

theorem turn_cells {W W' : World} {row : Option Nat} (hg : W.grownBy W' row) (hr : ∀ r, row = some r → ∃ o : Obj, W.heap[r]? = some o ∧ o.isCells = false) : ∀ (k : Nat) c t f, W.heap[k]? = some (Obj.cells c t f) → W'.heap[k]? = W.heap[k]? := fun k c t f hk => hg.block k (lt_of_heap hk) (fun e => by
    obtain ⟨o, ho, hc⟩ := hr k e.symm
    rw [hk] at ho
    injection ho with e1
    subst e1
    cases hc)

theorem Mk.at {Bk g wb len : Nat} {keep : List Int} {W : World} (h : Mk Bk g wb len keep W) {k : Nat} (hk : k < len) : W.cell? ⟨g, k, none⟩ = some (.bool (decide ((k : Int) ∈ keep))) := by
  rw [h.row.cellAt k (by omega)]
  simp [marksL, hk]

def CrI (w : World) (base B n : Nat) (d : Dk) (gl cl gn cn : Nat) (vw : Value) (Bx Bk g wb : Nat) (keep : List Int) (pre : List (It n d.wait.length)) (W : World) : Prop :=
  Fl w base B n d gl cl gn cn vw Bx (app d.last (keptO keep (pre.map (·.1)))) d.now W ∧ Mk Bk g wb d.wait.length keep W
def CrJ (w : World) (base B n : Nat) (d : Dk) (gl cl gn cn : Nat) (vw : Value) (Bx D : Nat) (L : List (List Int)) (pre : List (It n d.wait.length)) (W : World) : Prop :=
  Fl w base B n d gl cl gn cn vw Bx L (back L d.now (pre.map fun x => x.1.2)) W ∧ W.heap[D]? = some (.deferred (some []))



set_option maxRecDepth 100000 in
set_option maxHeartbeats 4000000 in
theorem crash_in {w : World} {base B n : Nat} {d : Dk} (h : DiskIs w base B n d) (hwl : d.wait.length ≤ 1000000) {v : Value} {keep : List Int} (hk : Ints w v keep) (hkl : keep.length ≤ 140737488355328) :
    CallsIn Fence.wide 9 Tryd.prog 11 #[.pointer (some ⟨B, 0, none⟩), v] w fun e w' => (∃ v', e = .returned v') ∧ DiskIs w' base B n (d.crash keep) ∧ Kd base w w' := by
  have hw : ∀ k, Fence.wide.fn k := fun _ => trivial
  have hf1 : Below w.heap.size w (w.alloc (.cells #[.pointer (some ⟨B, 0, none⟩)] 22)) := (Below.refl _ _).alloc (Nat.le_refl _) _
  have HM := hid (marks_any (hk.fresh hf1) d.wait.length hwl hkl)
  have hbase := h.base_le
  have H := hid h
  obtain ⟨ho, hn, hB, gl, cl, gn, cn, vw, hh, hne, c1, c2, c3⟩ := h
  obtain ⟨aw, cw, rfl, _⟩ := slice_of c3
  rw [List.length_map] at hh c3
  have hcw := cell_of_row _ B 2 _ _ _ ((hf1.block B (lt_of_heap hh)).trans hh)
  simp only [List.getElem?_toArray, List.getElem?_cons_succ, List.getElem?_cons_zero] at hcw
  clear hk
  have hmx : Tryd.prog.follows .mixedOrders = true := by kernel_rfl
  obtain ⟨Z0, hZ0⟩ : ∃ Z0, Z0 = wrA 0 nought := ⟨_, rfl⟩
  have hz := zero_wr
  have hsZ0 : Z0.size = 65 := by rw [hZ0]; exact wrA_size 0 sec_nought
  rw [← hZ0] at hz
  clear hZ0
  have hu : Tryd.prog.underlying 67 = some (.array 64 5) := Tryd.underlying67
  have hinf0 : ∀ s : List Int, Sec s → (Tryd.prog.info? 67).map (·.size) = some (secV s).length := fun s hs => by
    obtain ⟨i0, hi0, _, hz1, _⟩ := info_parts infoSec
    rw [hi0, secV_len hs]; simp [hz1]
  have HINF := hid hinf0
  have HU := hid hu
  clear hinf0 hu
  refine callsIn_of_wp_marks Tryd.func11 rfl trivial ?_ rfl
  simp only [Tryd.ntmps11, List.size_toArray, List.length_cons, List.length_nil, Nat.reduceAdd, Nat.reduceSub, Array.replicate_succ, Array.replicate_zero, List.push_toArray, List.append_toArray, List.nil_append, List.cons_append]
  gi_wp2_with (first | (gi_at_call 30; refine (callsIn_wide.2 HM.out).mono ?_; rintro e w2 ⟨g2, rfl, hown2, hb2⟩; have hx0 := (hb2.block w.heap.size (by simp)).trans (heap_new w _); have hcb : ∀ o, (w2.alloc o).cell? ⟨w.heap.size, 0, none⟩ = some (.pointer (some ⟨B, 0, none⟩)) := fun o => by { rw [World.cell?_alloc_lt _ _ _ (lt_of_heap hx0)]; exact cell_of_row w2 _ 0 _ _ _ hx0 }) | (gi_at_call 31; refine (waits_in _ _ _).mono ?_; rintro e w' ⟨rfl, rfl⟩))
  clear hcb
  obtain ⟨W0, hW0⟩ : ∃ W0, (w2.alloc (.cells #[.slice (some ⟨g2, 0, none⟩) d.wait.length d.wait.length] 61)).alloc (.cells #[.pointer (some ⟨B, 0, none⟩)] 22) = W0 := ⟨_, rfl⟩
  have hsz : W0.heap.size = w2.heap.size + 2 := by rw [← hW0]; simp
  have hF2 : Below w2.heap.size w2 W0 := by rw [← hW0]; exact ((Below.refl _ w2).alloc (Nat.le_refl _) _).alloc (by simp) _
  have hb2' : Below w.heap.size w w2 := hf1.trans (hb2.mono (by simp))
  have hF0 : Below w.heap.size w W0 := hb2'.trans (hF2.mono hb2'.size)
  have b0 := (hF2.block _ (lt_of_heap hx0)).trans hx0
  have bk : W0.heap[w2.heap.size]? = some (.cells #[.slice (some ⟨g2, 0, none⟩) d.wait.length d.wait.length] 61 (0, 0)) := by
    rw [← hW0, Below.heap_alloc _ _ _ (by simp)]; exact heap_new w2 _
  have b1 : W0.heap[w2.heap.size + 1]? = some (.cells #[.pointer (some ⟨B, 0, none⟩)] 22 (0, 0)) := by
    have := heap_new (w2.alloc (.cells #[.slice (some ⟨g2, 0, none⟩) d.wait.length d.wait.length] 61)) (.cells #[.pointer (some ⟨B, 0, none⟩)] 22)
    rw [World.size_alloc] at this
    rw [← hW0]; exact this
  have hs2 := hb2'.size
  rw [hW0]
  clear hW0 HM hcw
  have hwa := ho.waits
  have hFl : Fl w base B n d gl cl gn cn (.slice aw d.wait.length cw) w.heap.size d.last d.now W0 := ⟨b0, (hF0.block B (lt_of_heap hh)).trans hh, c1.below hF0, c2.below hF0, c3.below hF0, Kd.fresh hF0 hbase⟩
  have hMk : Mk w2.heap.size g2 (w.alloc (.cells #[.pointer (some ⟨B, 0, none⟩)] 22)).heap.size d.wait.length keep W0 := ⟨bk, own_below hown2 hF2⟩
  generalize (w.alloc (.cells #[.pointer (some ⟨B, 0, none⟩)] 22)).heap.size = wb at hMk
  refine wpIn_rangeFunc_ownH rfl (by decide) (gf := 48) (lb := #[.pointer (some ⟨w2.heap.size + 1, 0, none⟩)]) rfl trivial (enters_of Tryd.func48 (by kernel_rfl) rfl)
    (iter_stops (9 - 1) (by decide) (w2.heap.size + 1) B n base d.wait (.slice aw d.wait.length cw) W0 (cell_of_row W0 _ 0 _ _ _ b1) (cell_of_row W0 B 2 _ _ _ hFl.str) hFl.bw hwa hwl) (fun h k => Ks.trans h k) (fun W l o o' _ hl hc _ => Ks.putObj W l o o' hl hc) (Below.refl _ _) (fun _ => rfl)
    (CrI w base B n d gl cl gn cn (.slice aw d.wait.length cw) w.heap.size w2.heap.size g2 wb keep) (fun _ _ _ => False) ?hI ?hIx ?h0
    (fun x a' W => ∃ Bn, a' = { tmps := #[.pointer (some ⟨B, 0, none⟩), v, .pointer (some ⟨w.heap.size, 0, none⟩), undef, .pointer (some ⟨w2.heap.size, 0, none⟩), .int .i64 (x.1.1 : Int), .pointer (some ⟨Bn, 0, none⟩), undef, undef, v, .pointer (some ⟨B, 0, none⟩), .pointer (some ⟨B, 0, none⟩), .pointer (some ⟨B, 2, none⟩), .slice aw d.wait.length cw, .int .i64 (d.wait.length : Int), .slice (some ⟨g2, 0, none⟩) d.wait.length d.wait.length, .pointer (some ⟨B, 0, none⟩), .func (.func 48) #[] #[.pointer (some ⟨w2.heap.size + 1, 0, none⟩)], .int .i64 (x.1.1 : Int), .agg (wrA x.1.2.1 x.1.2.2), undef, undef, undef, undef, undef, undef, undef, undef, undef, undef, undef, undef, undef, undef, undef, undef, undef, undef, undef, undef, undef, undef, undef, undef, undef, undef, undef, undef, undef, undef, undef, undef, undef, undef, undef, undef, undef, undef], defers := [] } ∧ W.heap[Bn]? = some (.cells (wrA x.1.2.1 x.1.2.2) 69 (0, 0)))
    ?hAx ?assign ?body ?done ?stop
  case hI => exact fun s A B' row hs hg hrow => ⟨hs.1.turn hbase hg (fun r e => ⟨by have := (hrow r e).1; omega, (hrow r e).2⟩), hs.2.same (fun k c t f hk _ => turn_cells hg (fun r e => (hrow r e).2) k c t f hk)⟩
  case hIx => exact fun c s A B' row hs _ _ => hs
  case h0 => exact ⟨hFl, hMk⟩
  case hAx =>
    rintro x a' _ A B' row ⟨Bn, rfl, hBn⟩ hg hrow
    exact ⟨Bn, rfl, (turn_cells hg (fun r e => (hrow r e).2) _ _ _ _ hBn).trans hBn⟩
  case assign =>
    intro l pre x W K hI hK
    have hst := store_wr W Z0 (wrA x.1.2.1 x.1.2.2) hsZ0 (wrA_size _ x.2.2.2) (wrA_one _ _)
    have hszW : (wrA x.1.2.1 x.1.2.2).size = 65 := wrA_size _ x.2.2.2
    have hfr : Below W.heap.size W (W.alloc (.cells (wrA x.1.2.1 x.1.2.2) 69)) := (Below.refl _ W).alloc (Nat.le_refl _) _
    have HK := hid (hK _ _ ((KeepsOthers.alloc W _).from _) (Ks.fresh hfr) ⟨hI.1.fresh hbase hfr, hI.2.same (fun k _ _ _ hk _ => hfr.block k (lt_of_heap hk))⟩ ⟨W.heap.size, rfl, heap_new W _⟩)
    clear hK hI hfr
    obtain ⟨WX, hWX⟩ : ∃ WX, WX = wrA x.1.2.1 x.1.2.2 := ⟨_, rfl⟩
    dsimp only [It.vals]
    rw [← hWX] at hst hszW HK ⊢
    clear hWX
    gi_wp2
    exact HK.out
  case body =>
    rintro l pre x a' W _ _ ⟨hI, hM⟩ ⟨Bn, rfl, hBn⟩ hlt
    obtain ⟨hx0', hx1, hx2⟩ := x.2
    have hcv := cell_of_row W _ 0 _ _ _ hM.var
    simp only [List.getElem?_toArray, List.getElem?_cons_zero] at hcv
    have hca := hM.at hx0'
    have hxk : (x.1.1 : Int) < (d.wait.length : Int) := by omega
    by_cases hin : (x.1.1 : Int) ∈ keep
    · rw [decide_eq_true hin] at hca
      have hlen : (app d.last (keptO keep (pre.map (·.1)))).length = n := by rw [app_len]; exact ho.len
      obtain ⟨F1, ks, kf⟩ := hI.setLast hbase hne hlen hx1 hx2
      have e1 : app d.last (keptO keep ((pre ++ [x]).map (·.1))) = (app d.last (keptO keep (pre.map (·.1)))).set x.1.2.1 x.1.2.2 := by rw [List.map_append, List.map_cons, List.map_nil, keptO_yes hin]; exact app_snoc _ _ _
      have F1 : Hid (CrI w base B n d gl cl gn cn (.slice aw d.wait.length cw) w.heap.size w2.heap.size g2 wb keep (pre ++ [x]) (W.drew.setCells gl (x.1.2.1 * 64) (secV x.1.2.2))) := by
        unfold CrI; rw [e1]; exact ⟨F1, hM.same (fun k c t f hk ht => ks.keep k c t f hk ht)⟩
      clear e1
      have ht : W.drew.there gl (x.1.2.1 * 64) (secV x.1.2.2).toArray.size := by
        have := hI.bl.there (by simp [hlen]) (i := x.1.2.1) (by rw [List.length_map, hlen]; exact hx1)
        simpa [secV, hx2.1] using this
      have hr1 : W.rangeAt Bn 1 (secV x.1.2.2) := fun j v hv => by
        rw [cell_of_row _ _ _ _ _ _ hBn, Nat.add_comm 1 j]
        simpa using hv
      obtain ⟨cg, hcg⟩ := own_heap hI.bl.2 (k := gl) rfl
      have hnB : Bn ≠ gl := ne_of_type hBn hcg (by decide)
      have S0 := hid (And.intro (cell_of_row W _ 0 _ _ _ hI.box) (And.intro (cell_of_row W B 0 _ _ _ hI.str) (And.intro (cell_of_row W Bn 0 _ _ _ hBn) (And.intro hr1 ht))))
      have hBn1 := ks.keep _ _ _ _ hBn (by decide)
      have S1 := hid (And.intro (cell_of_row _ _ 0 _ _ _ F1.out.1.box) (And.intro (cell_of_row _ B 0 _ _ _ F1.out.1.str) (And.intro (cell_of_row _ Bn 0 _ _ _ (hBn1.trans hBn)) (And.intro (World.rangeAt_setCells_apart (w := W.drew) hr1 gl (x.1.2.1 * 64) (secV x.1.2.2) (.inl hnB)) (World.there_setCells ht gl (x.1.2.1 * 64) (secV x.1.2.2))))))
      have hu := HU.out
      have hinf := HINF.out _ hx2
      have hinf' : (Tryd.prog.info? 67).map (·.size) = some (secV x.1.2.2).toArray.size := by simpa using hinf
      have hxI : (x.1.2.1 : Int) < (n : Int) := by omega
      clear hz hI hM hBn hBn1 hr1 hcg hin
      gi_wp2
      refine wpIn_region_plain (S := fun W' => W'.cell? ⟨w.heap.size, 0, none⟩ = some (.pointer (some ⟨B, 0, none⟩)) ∧ W'.cell? ⟨B, 0, none⟩ = some (.slice (some ⟨gl, 0, none⟩) n cl) ∧ W'.cell? ⟨Bn, 0, none⟩ = some (.int .i64 (x.1.2.1 : Int)) ∧ W'.rangeAt Bn 1 (secV x.1.2.2) ∧ W'.there gl (x.1.2.1 * 64) (secV x.1.2.2).toArray.size) hmx (by kernel_rfl) S0.out (fun hHeld => ?_)
      refine wpAnyH_take (i := 0) (v := .pointer (some ⟨B, 0, none⟩)) rfl (by kernel_rfl) (by kernel_rfl) (by kernel_rfl) (fun _ _ _ h => h) (Or.inl ⟨by rfl, fun wx hS => by have hq := hS.1; clear hS; go_simp⟩) (by assumption) ?_
      simp only [List.getElem_toArray, List.getElem_cons_zero, Act.put, List.setIfInBounds_toArray, List.set_cons_zero, List.set_cons_succ]
      refine wpAnyH_take (i := 1) (v := .pointer (some ⟨B, 0, none⟩)) rfl (by kernel_rfl) (by kernel_rfl) (by kernel_rfl) (fun _ _ _ h => h) (Or.inl ⟨by rfl, fun wx hS => by rfl⟩) (by assumption) ?_
      simp only [List.getElem_toArray, List.getElem_cons_succ, List.getElem_cons_zero, Act.put, List.setIfInBounds_toArray, List.set_cons_zero, List.set_cons_succ]
      refine wpAnyH_take (i := 2) (v := .pointer (some ⟨B, 0, none⟩)) rfl (by kernel_rfl) (by kernel_rfl) (by kernel_rfl) (fun _ _ _ h => h) (Or.inl ⟨by rfl, fun wx hS => by go_simp⟩) (by assumption) ?_
      simp only [List.getElem_toArray, List.getElem_cons_succ, List.getElem_cons_zero, Act.put, List.setIfInBounds_toArray, List.set_cons_zero, List.set_cons_succ]
      refine wpAnyH_take (i := 3) (v := .slice (some ⟨gl, 0, none⟩) n cl) rfl (by kernel_rfl) (by kernel_rfl) (by kernel_rfl) (fun _ _ _ h => h) (Or.inl ⟨by rfl, fun wx hS => by have hq := hS.2.1; clear hS; go_simp⟩) (by assumption) ?_
      simp only [List.getElem_toArray, List.getElem_cons_succ, List.getElem_cons_zero, Act.put, List.setIfInBounds_toArray, List.set_cons_zero, List.set_cons_succ]
      refine wpAnyH_take (i := 4) (v := .pointer (some ⟨Bn, 0, none⟩)) rfl (by kernel_rfl) (by kernel_rfl) (by kernel_rfl) (fun _ _ _ h => h) (Or.inl ⟨by rfl, fun wx hS => by go_simp⟩) (by assumption) ?_
      simp only [List.getElem_toArray, List.getElem_cons_succ, List.getElem_cons_zero, Act.put, List.setIfInBounds_toArray, List.set_cons_zero, List.set_cons_succ]
      refine wpAnyH_take (i := 5) (v := .int .i64 (x.1.2.1 : Int)) rfl (by kernel_rfl) (by kernel_rfl) (by kernel_rfl) (fun _ _ _ h => h) (Or.inl ⟨by rfl, fun wx hS => by have hq := hS.2.2.1; clear hS; go_simp⟩) (by assumption) ?_
      simp only [List.getElem_toArray, List.getElem_cons_succ, List.getElem_cons_zero, Act.put, List.setIfInBounds_toArray, List.set_cons_zero, List.set_cons_succ]
      refine wpAnyH_take (i := 6) (v := .pointer (some ⟨Bn, 1, none⟩)) rfl (by kernel_rfl) (by kernel_rfl) (by kernel_rfl) (fun _ _ _ h => h) (Or.inl ⟨by rfl, fun wx hS => by go_simp⟩) (by assumption) ?_
      simp only [List.getElem_toArray, List.getElem_cons_succ, List.getElem_cons_zero, Act.put, List.setIfInBounds_toArray, List.set_cons_zero, List.set_cons_succ]
      refine wpAnyH_take (i := 7) (v := .agg (secV x.1.2.2).toArray) rfl (by kernel_rfl) (by kernel_rfl) (by kernel_rfl) (fun _ _ _ h => h) (yieldsIf_load_mid (by rfl) 67 (.tmp 30) rfl Bn 1 rfl (secV x.1.2.2) _ (fun _ hS => hS.2.2.2.1) hu rfl hinf) (by assumption) ?_
      simp only [List.getElem_toArray, List.getElem_cons_succ, List.getElem_cons_zero, Act.put, List.setIfInBounds_toArray, List.set_cons_zero, List.set_cons_succ]
      refine wpAnyH_take (i := 8) (v := .pointer (some ⟨gl, x.1.2.1 * 64, none⟩)) rfl (by kernel_rfl) (by kernel_rfl) (by kernel_rfl) (fun _ _ _ h => h) (Or.inl ⟨by rfl, fun wx hS => by go_simp⟩) (by assumption) ?_
      simp only [List.getElem_toArray, List.getElem_cons_succ, List.getElem_cons_zero, Act.put, List.setIfInBounds_toArray, List.set_cons_zero, List.set_cons_succ]
      refine wpAnyH_ready (rs := [9]) (by kernel_rfl) (by simp) ?_
      refine AllReadyH.cons rfl (fun K hK => ?_) AllReadyH.nil
      dsimp only [List.getElem_toArray, List.getElem_cons_succ, List.getElem_cons_zero]
      rw [if_pos (by rfl)]
      refine wp_store_mid 67 (.tmp 32) (.tmp 31) rfl gl (x.1.2.1 * 64) (secV x.1.2.2).toArray rfl rfl ht hinf' (all_oneCell_toArray (secV_one _)) ?_
      refine hK.out _ _ S1.out (fun _ => ?_)
      clear hK K
      refine wpAnyH_done (by kernel_rfl) ?_ _
      exact ⟨kf _, ks, F1.out⟩
    · rw [decide_eq_false hin] at hca
      have F1 : Hid (CrI w base B n d gl cl gn cn (.slice aw d.wait.length cw) w.heap.size w2.heap.size g2 wb keep (pre ++ [x]) W) := by
        unfold CrI; rw [List.map_append, List.map_cons, List.map_nil, keptO_no hin]; exact ⟨hI, hM⟩
      clear hz hI hM hBn hin
      gi_wp2
      exact ⟨KeepsFrom.refl _ _, Ks.refl _, F1.out⟩
  case stop => exact fun D c pre W _ _ hF _ => hF.elim
  case done =>
    rintro D ys W1 hD hS ⟨hI1, _⟩ hK
    obtain ⟨L, hL⟩ : ∃ L, L = app d.last (kept keep d.wait) := ⟨_, rfl⟩
    rw [hS, keptO_items, ← hL] at hI1
    have hLl : L.length = n := by rw [hL, app_len]; exact ho.len
    have hLs : ∀ s ∈ L, Sec s := by rw [hL]; exact app_secs ho.secs (fun x hx => (ho.waits x (kept_mem hx)).2)
    have HL := hid hL
    have hbx := cell_of_row W1 _ 0 _ _ _ hI1.box
    simp only [List.getElem?_toArray, List.getElem?_cons_zero] at hbx
    have hD1 : D < W1.heap.size := lt_of_heap hK
    clear hS hL hFl hMk b0 bk b1
    gi_wp2_with (gi_at_call 31; refine (waits_in _ _ _).mono ?_; rintro e w' ⟨rfl, rfl⟩)
    obtain ⟨W2, hW2⟩ : ∃ W2, W1.alloc (.cells #[.pointer (some ⟨B, 0, none⟩)] 22) = W2 := ⟨_, rfl⟩
    have hF3 : Below W1.heap.size W1 W2 := by rw [← hW2]; exact (Below.refl _ W1).alloc (Nat.le_refl _) _
    have b2 : W2.heap[W1.heap.size]? = some (.cells #[.pointer (some ⟨B, 0, none⟩)] 22 (0, 0)) := by rw [← hW2]; exact heap_new W1 _
    have hs3 : W2.heap.size = W1.heap.size + 1 := by rw [← hW2]; simp
    have hI2 := hI1.fresh hbase hF3
    have hK2 := (hF3.block D hD1).trans hK
    rw [hW2]
    clear hW2 hbx
    have hsW1 := hI1.kd.size
    refine wpIn_rangeFunc_ownH rfl (by decide) (gf := 48) (lb := #[.pointer (some ⟨W1.heap.size, 0, none⟩)]) rfl trivial (enters_of Tryd.func48 (by kernel_rfl) rfl)
      (iter_stops (9 - 1) (by decide) W1.heap.size B n base d.wait (.slice aw d.wait.length cw) W2 (cell_of_row W2 _ 0 _ _ _ b2) (cell_of_row W2 B 2 _ _ _ hI2.str) hI2.bw hwa hwl) (fun h k => Ks.trans h k) (fun W l o o' _ hl hc _ => Ks.putObj W l o o' hl hc) (Below.refl _ _) (fun _ => rfl)
      (CrJ w base B n d gl cl gn cn (.slice aw d.wait.length cw) w.heap.size D L) (fun _ _ _ => False) ?hI ?hIx ?h0
      (fun x a' W => ∃ Bn, a' = { tmps := #[.pointer (some ⟨B, 0, none⟩), v, .pointer (some ⟨w.heap.size, 0, none⟩), undef, .pointer (some ⟨w2.heap.size, 0, none⟩), undef, undef, undef, .pointer (some ⟨Bn, 0, none⟩), v, .pointer (some ⟨B, 0, none⟩), .pointer (some ⟨B, 0, none⟩), .pointer (some ⟨B, 2, none⟩), .slice aw d.wait.length cw, .int .i64 (d.wait.length : Int), .slice (some ⟨g2, 0, none⟩) d.wait.length d.wait.length, .pointer (some ⟨B, 0, none⟩), .func (.func 48) #[] #[.pointer (some ⟨w2.heap.size + 1, 0, none⟩)], undef, undef, undef, undef, undef, undef, undef, undef, undef, undef, undef, undef, undef, undef, undef, .pointer (some ⟨B, 0, none⟩), .func (.func 48) #[] #[.pointer (some ⟨W1.heap.size, 0, none⟩)], .int .i64 (x.1.1 : Int), .agg (wrA x.1.2.1 x.1.2.2), undef, undef, undef, undef, undef, undef, undef, undef, undef, undef, undef, undef, undef, undef, undef, undef, undef, undef, undef, undef, undef], defers := [] } ∧ W.heap[Bn]? = some (.cells (wrA x.1.2.1 x.1.2.2) 69 (0, 0)))
      ?hAx ?assign ?body ?done ?stop
    case hI => exact fun s A B' row hs hg hrow => ⟨hs.1.turn hbase hg (fun r e => ⟨by have := (hrow r e).1; omega, (hrow r e).2⟩), (hg.block D (lt_of_heap hs.2) (fun e => by have := (hrow D e.symm).1; omega)).trans hs.2⟩
    case hIx => exact fun c s A B' row hs _ _ => hs
    case h0 => exact ⟨hI2, hK2⟩
    case hAx =>
      rintro x a' _ A B' row ⟨Bn, rfl, hBn⟩ hg hrow
      exact ⟨Bn, rfl, (turn_cells hg (fun r e => (hrow r e).2) _ _ _ _ hBn).trans hBn⟩
    case assign =>
      intro l pre x W K hI hK'
      have hst := store_wr W Z0 (wrA x.1.2.1 x.1.2.2) hsZ0 (wrA_size _ x.2.2.2) (wrA_one _ _)
      have hszW : (wrA x.1.2.1 x.1.2.2).size = 65 := wrA_size _ x.2.2.2
      have hfr : Below W.heap.size W (W.alloc (.cells (wrA x.1.2.1 x.1.2.2) 69)) := (Below.refl _ W).alloc (Nat.le_refl _) _
      have HK := hid (hK' _ _ ((KeepsOthers.alloc W _).from _) (Ks.fresh hfr) ⟨hI.1.fresh hbase hfr, (hfr.block D (lt_of_heap hI.2)).trans hI.2⟩ ⟨W.heap.size, rfl, heap_new W _⟩)
      clear hK' hI hfr
      obtain ⟨WX, hWX⟩ : ∃ WX, WX = wrA x.1.2.1 x.1.2.2 := ⟨_, rfl⟩
      dsimp only [It.vals]
      rw [← hWX] at hst hszW HK ⊢
      clear hWX
      gi_wp2
      exact HK.out
    case body =>
      rintro l pre x a' W _ _ ⟨hI, hKD⟩ ⟨Bn, rfl, hBn⟩ hlt
      obtain ⟨hx0', hx1, hx2⟩ := x.2
      have hlen : (back L d.now (pre.map fun x => x.1.2)).length = n := by rw [back_len]; exact ho.now_len
      have hsL : Sec (L.getD x.1.2.1 []) := hLs _ (by simp [List.getD, hLl, hx1])
      obtain ⟨F1, ks, kf⟩ := hI.setNow hbase hne hlen hx1 hsL
      have e1 : back L d.now ((pre ++ [x]).map fun x => x.1.2) = (back L d.now (pre.map fun x => x.1.2)).set x.1.2.1 (L.getD x.1.2.1 []) := by rw [List.map_append]; exact back_snoc _ _ _ _
      have F1 : Hid (CrJ w base B n d gl cl gn cn (.slice aw d.wait.length cw) w.heap.size D L (pre ++ [x]) (W.drew.setCells gn (x.1.2.1 * 64) (secV (L.getD x.1.2.1 [])))) := by
        unfold CrJ; rw [e1]; exact ⟨F1, (kf 0).same D _ (Nat.zero_le _) hKD rfl⟩
      clear e1
      have ht : W.drew.there gn (x.1.2.1 * 64) (secV (L.getD x.1.2.1 [])).toArray.size := by
        have := hI.bn.there (by simp [hlen]) (i := x.1.2.1) (by rw [List.length_map, hlen]; exact hx1)
        rw [List.size_toArray, secV_len hsL]
        exact this
      have hr1 : W.rangeAt gl (x.1.2.1 * 64) (secV (L.getD x.1.2.1 [])) := by
        have := hI.bl.range (by simp [hLl]) (i := x.1.2.1) (by rw [List.length_map, hLl]; exact hx1)
        rw [getD_map_secV _ _ (by omega)] at this
        exact this
      have S0 := hid (And.intro (cell_of_row W _ 0 _ _ _ hI.box) (And.intro (cell_of_row W B 1 _ _ _ hI.str) (And.intro (cell_of_row W B 0 _ _ _ hI.str) (And.intro (cell_of_row W Bn 0 _ _ _ hBn) (And.intro hr1 ht)))))
      have hBn1 := ks.keep _ _ _ _ hBn (by decide)
      have S1 := hid (And.intro (cell_of_row _ _ 0 _ _ _ F1.out.1.box) (And.intro (cell_of_row _ B 1 _ _ _ F1.out.1.str) (And.intro (cell_of_row _ B 0 _ _ _ F1.out.1.str) (And.intro (cell_of_row _ Bn 0 _ _ _ (hBn1.trans hBn)) (And.intro (World.rangeAt_setCells_apart (w := W.drew) hr1 gn (x.1.2.1 * 64) (secV (L.getD x.1.2.1 [])) (.inl hne)) (World.there_setCells ht gn (x.1.2.1 * 64) (secV (L.getD x.1.2.1 []))))))))
      have hu := HU.out
      have hinf := HINF.out _ hsL
      have hinf' : (Tryd.prog.info? 67).map (·.size) = some (secV (L.getD x.1.2.1 [])).toArray.size := by simpa using hinf
      have hxI : (x.1.2.1 : Int) < (n : Int) := by omega
      clear hz hI hBn hBn1 hr1 hI1 hI2 hKD hK hK2 hLs
      gi_wp2
      refine wpIn_region_plain (S := fun W' => W'.cell? ⟨w.heap.size, 0, none⟩ = some (.pointer (some ⟨B, 0, none⟩)) ∧ W'.cell? ⟨B, 1, none⟩ = some (.slice (some ⟨gn, 0, none⟩) n cn) ∧ W'.cell? ⟨B, 0, none⟩ = some (.slice (some ⟨gl, 0, none⟩) n cl) ∧ W'.cell? ⟨Bn, 0, none⟩ = some (.int .i64 (x.1.2.1 : Int)) ∧ W'.rangeAt gl (x.1.2.1 * 64) (secV (L.getD x.1.2.1 [])) ∧ W'.there gn (x.1.2.1 * 64) (secV (L.getD x.1.2.1 [])).toArray.size) hmx (by kernel_rfl) S0.out (fun hHeld => ?_)
      refine wpAnyH_take (i := 0) (v := .pointer (some ⟨B, 0, none⟩)) rfl (by kernel_rfl) (by kernel_rfl) (by kernel_rfl) (fun _ _ _ h => h) (Or.inl ⟨by rfl, fun wx hS => by have hq := hS.1; clear hS; go_simp⟩) (by assumption) ?_
      simp only [List.getElem_toArray, List.getElem_cons_zero, Act.put, List.setIfInBounds_toArray, List.set_cons_zero, List.set_cons_succ]
      refine wpAnyH_take (i := 1) (v := .pointer (some ⟨B, 0, none⟩)) rfl (by kernel_rfl) (by kernel_rfl) (by kernel_rfl) (fun _ _ _ h => h) (Or.inl ⟨by rfl, fun wx hS => by rfl⟩) (by assumption) ?_
      simp only [List.getElem_toArray, List.getElem_cons_succ, List.getElem_cons_zero, Act.put, List.setIfInBounds_toArray, List.set_cons_zero, List.set_cons_succ]
      refine wpAnyH_take (i := 2) (v := .pointer (some ⟨B, 1, none⟩)) rfl (by kernel_rfl) (by kernel_rfl) (by kernel_rfl) (fun _ _ _ h => h) (Or.inl ⟨by rfl, fun wx hS => by go_simp⟩) (by assumption) ?_
      simp only [List.getElem_toArray, List.getElem_cons_succ, List.getElem_cons_zero, Act.put, List.setIfInBounds_toArray, List.set_cons_zero, List.set_cons_succ]
      refine wpAnyH_take (i := 3) (v := .slice (some ⟨gn, 0, none⟩) n cn) rfl (by kernel_rfl) (by kernel_rfl) (by kernel_rfl) (fun _ _ _ h => h) (Or.inl ⟨by rfl, fun wx hS => by have hq := hS.2.1; clear hS; go_simp⟩) (by assumption) ?_
      simp only [List.getElem_toArray, List.getElem_cons_succ, List.getElem_cons_zero, Act.put, List.setIfInBounds_toArray, List.set_cons_zero, List.set_cons_succ]
      refine wpAnyH_take (i := 4) (v := .pointer (some ⟨Bn, 0, none⟩)) rfl (by kernel_rfl) (by kernel_rfl) (by kernel_rfl) (fun _ _ _ h => h) (Or.inl ⟨by rfl, fun wx hS => by go_simp⟩) (by assumption) ?_
      simp only [List.getElem_toArray, List.getElem_cons_succ, List.getElem_cons_zero, Act.put, List.setIfInBounds_toArray, List.set_cons_zero, List.set_cons_succ]
      refine wpAnyH_take (i := 5) (v := .int .i64 (x.1.2.1 : Int)) rfl (by kernel_rfl) (by kernel_rfl) (by kernel_rfl) (fun _ _ _ h => h) (Or.inl ⟨by rfl, fun wx hS => by have hq := hS.2.2.2.1; clear hS; go_simp⟩) (by assumption) ?_
      simp only [List.getElem_toArray, List.getElem_cons_succ, List.getElem_cons_zero, Act.put, List.setIfInBounds_toArray, List.set_cons_zero, List.set_cons_succ]
      refine wpAnyH_take (i := 6) (v := .pointer (some ⟨B, 0, none⟩)) rfl (by kernel_rfl) (by kernel_rfl) (by kernel_rfl) (fun _ _ _ h => h) (Or.inl ⟨by rfl, fun wx hS => by have hq := hS.1; clear hS; go_simp⟩) (by assumption) ?_
      simp only [List.getElem_toArray, List.getElem_cons_succ, List.getElem_cons_zero, Act.put, List.setIfInBounds_toArray, List.set_cons_zero, List.set_cons_succ]
      refine wpAnyH_take (i := 7) (v := .pointer (some ⟨B, 0, none⟩)) rfl (by kernel_rfl) (by kernel_rfl) (by kernel_rfl) (fun _ _ _ h => h) (Or.inl ⟨by rfl, fun wx hS => by rfl⟩) (by assumption) ?_
      simp only [List.getElem_toArray, List.getElem_cons_succ, List.getElem_cons_zero, Act.put, List.setIfInBounds_toArray, List.set_cons_zero, List.set_cons_succ]
      refine wpAnyH_take (i := 8) (v := .pointer (some ⟨B, 0, none⟩)) rfl (by kernel_rfl) (by kernel_rfl) (by kernel_rfl) (fun _ _ _ h => h) (Or.inl ⟨by rfl, fun wx hS => by go_simp⟩) (by assumption) ?_
      simp only [List.getElem_toArray, List.getElem_cons_succ, List.getElem_cons_zero, Act.put, List.setIfInBounds_toArray, List.set_cons_zero, List.set_cons_succ]
      refine wpAnyH_take (i := 9) (v := .slice (some ⟨gl, 0, none⟩) n cl) rfl (by kernel_rfl) (by kernel_rfl) (by kernel_rfl) (fun _ _ _ h => h) (Or.inl ⟨by rfl, fun wx hS => by have hq := hS.2.2.1; clear hS; go_simp⟩) (by assumption) ?_
      simp only [List.getElem_toArray, List.getElem_cons_succ, List.getElem_cons_zero, Act.put, List.setIfInBounds_toArray, List.set_cons_zero, List.set_cons_succ]
      refine wpAnyH_take (i := 10) (v := .pointer (some ⟨Bn, 0, none⟩)) rfl (by kernel_rfl) (by kernel_rfl) (by kernel_rfl) (fun _ _ _ h => h) (Or.inl ⟨by rfl, fun wx hS => by go_simp⟩) (by assumption) ?_
      simp only [List.getElem_toArray, List.getElem_cons_succ, List.getElem_cons_zero, Act.put, List.setIfInBounds_toArray, List.set_cons_zero, List.set_cons_succ]
      refine wpAnyH_take (i := 11) (v := .int .i64 (x.1.2.1 : Int)) rfl (by kernel_rfl) (by kernel_rfl) (by kernel_rfl) (fun _ _ _ h => h) (Or.inl ⟨by rfl, fun wx hS => by have hq := hS.2.2.2.1; clear hS; go_simp⟩) (by assumption) ?_
      simp only [List.getElem_toArray, List.getElem_cons_succ, List.getElem_cons_zero, Act.put, List.setIfInBounds_toArray, List.set_cons_zero, List.set_cons_succ]
      refine wpAnyH_take (i := 12) (v := .pointer (some ⟨gl, x.1.2.1 * 64, none⟩)) rfl (by kernel_rfl) (by kernel_rfl) (by kernel_rfl) (fun _ _ _ h => h) (Or.inl ⟨by rfl, fun wx hS => by go_simp⟩) (by assumption) ?_
      simp only [List.getElem_toArray, List.getElem_cons_succ, List.getElem_cons_zero, Act.put, List.setIfInBounds_toArray, List.set_cons_zero, List.set_cons_succ]
      refine wpAnyH_take (i := 13) (v := .agg (secV (L.getD x.1.2.1 [])).toArray) rfl (by kernel_rfl) (by kernel_rfl) (by kernel_rfl) (fun _ _ _ h => h) (yieldsIf_load_mid (by rfl) 67 (.tmp 49) rfl gl (x.1.2.1 * 64) rfl (secV (L.getD x.1.2.1 [])) _ (fun _ hS => hS.2.2.2.2.1) hu rfl hinf) (by assumption) ?_
      simp only [List.getElem_toArray, List.getElem_cons_succ, List.getElem_cons_zero, Act.put, List.setIfInBounds_toArray, List.set_cons_zero, List.set_cons_succ]
      refine wpAnyH_take (i := 14) (v := .pointer (some ⟨gn, x.1.2.1 * 64, none⟩)) rfl (by kernel_rfl) (by kernel_rfl) (by kernel_rfl) (fun _ _ _ h => h) (Or.inl ⟨by rfl, fun wx hS => by go_simp⟩) (by assumption) ?_
      simp only [List.getElem_toArray, List.getElem_cons_succ, List.getElem_cons_zero, Act.put, List.setIfInBounds_toArray, List.set_cons_zero, List.set_cons_succ]
      refine wpAnyH_ready (rs := [15]) (by kernel_rfl) (by simp) ?_
      refine AllReadyH.cons rfl (fun K hK => ?_) AllReadyH.nil
      dsimp only [List.getElem_toArray, List.getElem_cons_succ, List.getElem_cons_zero]
      rw [if_pos (by rfl)]
      refine wp_store_mid 67 (.tmp 51) (.tmp 50) rfl gn (x.1.2.1 * 64) (secV (L.getD x.1.2.1 [])).toArray rfl rfl ht hinf' (all_oneCell_toArray (secV_one _)) ?_
      refine hK.out _ _ S1.out (fun _ => ?_)
      clear hK K
      refine wpAnyH_done (by kernel_rfl) ?_ _
      exact ⟨kf _, ks, F1.out⟩
    case stop => exact fun D c pre W _ _ hF _ => hF.elim
    case done =>
      rintro D2 ys2 W3 hD2 hS2 ⟨hI3, hKD⟩ hK3
      have e1 : ys2.map (fun x => x.1.2) = d.wait := by
        have : ys2.map (fun x => x.1.2) = (ys2.map (·.1)).map (·.2) := by rw [List.map_map]; rfl
        rw [this, hS2, items_snd]
      have e2 : back L d.now d.wait = L := by rw [HL.out]; exact back_all
      rw [e1, e2] at hI3
      obtain ⟨hDi, hKd, hc2, hf2, hot⟩ := hI3.close hbase hne hn hB hLl hLs ho
      obtain ⟨hDi4, hKd4⟩ := hDi.left (x := -1) (by omega) (by omega)
      have hcB4 := cell_of_row W3 B 4 _ _ _ hI3.str
      have hfB4 := frozen_of_row W3 B 4 _ _ hI3.str
      simp only [List.getElem?_toArray, List.getElem?_cons_succ, List.getElem?_cons_zero] at hcB4
      have hbx3 := cell_of_row W3 _ 0 _ _ _ hI3.box
      simp only [List.getElem?_toArray, List.getElem?_cons_zero] at hbx3
      have hBlt := lt_of_heap hh
      have hBx : B ≠ w.heap.size := by omega
      have hbx4 : (W3.setCell ⟨B, 2, none⟩ (.slice none 0 0)).cell? ⟨w.heap.size, 0, none⟩ = some (.pointer (some ⟨B, 0, none⟩)) := by
        rw [World.cell?_setCell_far _ _ _ _ hBx]; exact hbx3
      have hK4 := hKd4.others D2 _ (hot D2 _ hK3 rfl) (fun _ _ _ e => by cases e)
      have hKD4 := hKd4.others D _ (hot D _ hKD rfl) (fun _ _ _ e => by cases e)
      have HDI := hid hDi4
      have HKD := hid (hKd.trans hKd4)
      clear hz hI1 hI2 hI3 hDi hDi4 hKd hKd4 hot hS2 e1 e2 hLs hK hK2
      gi_wp2
      obtain ⟨W5, hW5⟩ : ∃ W5, (W3.setCell ⟨B, 2, none⟩ (.slice none 0 0)).setCell ⟨B, 4, none⟩ (.int .i64 (-1)) = W5 := ⟨_, rfl⟩
      rw [hW5] at HDI HKD hK4 hKD4 ⊢
      clear hW5
      have g6 := grownBy_putObj' W5 D2 (.deferred none)
      have hKD6 : (W5.putObj D2 (.deferred none)).heap[D]? = some (.deferred (some [])) := (g6.block D (lt_of_heap hKD4) (fun e => by injection e with e; omega)).trans hKD4
      have r6 : ∀ r, some D2 = some r → ∃ o : Obj, W5.heap[r]? = some o ∧ o.isCells = false := fun r e => by cases e; exact ⟨_, hK4, rfl⟩
      have r7 : ∀ r, some D = some r → ∃ o : Obj, (W5.putObj D2 (.deferred none)).heap[r]? = some o ∧ o.isCells = false := fun r e => by cases e; exact ⟨_, hKD6, rfl⟩
      refine ⟨by simp, .inl ⟨_, _, rfl, run_takeDeferred hK4, ?_⟩⟩
      refine ⟨by simp, .inl ⟨_, _, rfl, run_takeDeferred hKD6, ?_⟩⟩
      have e3 : d.crash keep = ⟨L, [], d.writes, -1⟩ := by rw [HL.out]; rfl
      rw [e3]
      refine ⟨.tuple #[], ?_, ⟨_, rfl⟩, (HDI.out.turn g6 r6).turn (grownBy_putObj' _ D (.deferred none)) r7, (HKD.out.turn hbase g6 (fun r e => by cases e; omega)).turn hbase (grownBy_putObj' _ D (.deferred none)) (fun r e => by cases e; omega)⟩
      simp [results, Tryd.f11, go_sem]


theorem crash_any {w : World} {base B n : Nat} {d : Dk} (h : DiskIs w base B n d) (hwl : d.wait.length ≤ 1000000) {v : Value} {keep : List Int} (hk : Ints w v keep) (hkl : keep.length ≤ 140737488355328) :
    Calls Tryd.prog 11 #[.pointer (some ⟨B, 0, none⟩), v] w fun e w' => (∃ v', e = .returned v') ∧ DiskIs w' base B n (d.crash keep) ∧ Kd base w w' := callsIn_wide.1 (crash_in h hwl hk hkl)

end Go.Proofs.YthhlbhnogcfnjaaDoor
