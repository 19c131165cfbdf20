/-
  What disk.Flush gives: the walk.
-/
import Derived.Test.YthhlbhnogcfnjaaDoorDFlush
namespace Go.Proofs.YthhlbhnogcfnjaaDoor
open Go.RowKit Go.Shelf

attribute [local go_sem] Oper.semAt_some

/-- Flush's invariant: so many of the Writes are done. -/
def FlI (w : World) (base B n : Nat) (d : Dk) (gl cl gn cn : Nat) (vw : Value) (Bx : Nat) (pre : List (It n d.wait.length)) (W : World) : Prop :=
  Fl w base B n d gl cl gn cn vw Bx (app d.last (pre.map fun x => x.1.2)) d.now W
theorem pre_secs {n len : Nat} (pre : List (It n len)) : ∀ x ∈ pre.map (fun x => x.1.2), Sec x.2 := by
  intro x hx
  obtain ⟨y, _, rfl⟩ := List.mem_map.1 hx
  exact y.2.2.2
theorem items_snd (ws : List (Nat × List Int)) : (items ws).map (·.2) = ws := by
  have : ∀ k, (itemsFrom k ws).map (·.2) = ws := by
    induction ws with
    | nil => intro k; rfl
    | cons x r ih => intro k; simp [itemsFrom, ih]
  exact this 0

theorem DiskIs.turn {W W' : World} {base B n : Nat} {d : Dk} {row : Option Nat} (h : DiskIs W base B n d) (hg : W.grownBy W' row) (hr : ∀ r, row = some r → ∃ o : Obj, W.heap[r]? = some o ∧ o.isCells = false) : DiskIs W' base B n d := by
  have key : ∀ k c t f, W.heap[k]? = some (Obj.cells c t f) → W'.heap[k]? = W.heap[k]? := fun k c t f hk => hg.block k (lt_of_heap hk) (fun e => by
    obtain ⟨o, ho, hc⟩ := hr k e.symm
    rw [hk] at ho
    injection ho with e1
    subst e1
    cases hc)
  have row' : ∀ (e : TypeId) (m : Nat) (v : Value) (bl : List (List Value)), Blocks W base e m v bl → Blocks W' base e m v bl := fun e m v bl hb => hb.same fun k hk => by
    obtain ⟨c, hc⟩ := own_heap hb.2 hk
    exact key k _ _ _ hc
  obtain ⟨ho, hn, hB, gl, cl, gn, cn, vw, hh, hne, h1, h2, h3⟩ := h
  exact ⟨ho, hn, hB, gl, cl, gn, cn, vw, (key _ _ _ _ hh).trans hh, hne, row' _ _ _ _ h1, row' _ _ _ _ h2, row' _ _ _ _ h3⟩
theorem Kd.turn {w W W' : World} {base : Nat} {row : Option Nat} (h : Kd base w W) (hb : base ≤ w.heap.size) (hg : W.grownBy W' row) (hr : ∀ r, row = some r → w.heap.size ≤ r) : Kd base w W' := by
  refine ⟨h.below.grown hg (by have := h.size; omega) (fun k e => by have := hr k e; omega), fun k c t f hk h1 h2 h3 => ?_, fun k o hk ho => ?_⟩
  · have e := h.keep k c t f hk h1 h2 h3
    exact (hg.block k (lt_of_heap (e.trans hk)) (fun e' => by have := hr k e'.symm; have := lt_of_heap hk; omega)).trans e
  · have e := h.others k o hk ho
    exact (hg.block k (lt_of_heap e) (fun e' => by have := hr k e'.symm; have := lt_of_heap hk; omega)).trans e

set_option maxRecDepth 100000 in
set_option maxHeartbeats 2000000 in
theorem flush_in {w : World} {base B n : Nat} {d : Dk} (h : DiskIs w base B n d) (hd : d.left ≠ 0) (hwl : d.wait.length ≤ 1000000) :
    CallsIn Fence.wide 9 Tryd.prog 27 #[.pointer (some ⟨B, 0, none⟩)] w fun e w' => e = .returned (.int .i64 0) ∧ DiskIs w' base B n d.flush ∧ Kd base w w' := by
  have hw : ∀ k, Fence.wide.fn k := fun _ => trivial
  have hf1 : Below w.heap.size w (w.alloc (.cells #[.pointer (some ⟨B, 0, none⟩)] 22)) := (Below.refl _ _).alloc (Nat.le_refl _) _
  have HD := hid (dead_any (h.below hf1))
  have hd2 : (d.left == 0) = false := by simpa using hd
  rw [hd2] at HD
  clear hd2
  have hbase := h.base_le
  have H := hid h
  have HDD := hid hd
  clear h hd
  refine callsIn_of_wp_marks Tryd.func27 rfl trivial ?_ rfl
  simp only [Tryd.ntmps27, List.size_toArray, List.length_cons, List.length_nil, Nat.reduceAdd, Nat.reduceSub, Array.replicate_succ, Array.replicate_zero, List.push_toArray, List.append_toArray, List.nil_append, List.cons_append]
  gi_wp2_with (first | (gi_at_call 20; refine (callsIn_wide.2 HD.out).mono ?_; rintro e w2 ⟨rfl, hw2⟩; subst hw2) | (gi_at_call 31; refine (waits_in _ _ _).mono ?_; rintro e w' ⟨rfl, rfl⟩))
  obtain ⟨W0, hW0⟩ : ∃ W0, (w.alloc (.cells #[.pointer (some ⟨B, 0, none⟩)] 22)).alloc (.cells #[.pointer (some ⟨B, 0, none⟩)] 22) = W0 := ⟨_, rfl⟩
  have hsz : W0.heap.size = w.heap.size + 2 := by rw [← hW0]; simp
  have hF0 : Below w.heap.size w W0 := by rw [← hW0]; exact ((Below.refl _ w).alloc (Nat.le_refl _) _).alloc (by simp) _
  have b0 : W0.heap[w.heap.size]? = some (.cells #[.pointer (some ⟨B, 0, none⟩)] 22 (0, 0)) := by
    rw [← hW0, Below.heap_alloc _ _ _ (by simp)]; exact heap_new w _
  have b1 : W0.heap[w.heap.size + 1]? = some (.cells #[.pointer (some ⟨B, 0, none⟩)] 22 (0, 0)) := by
    have := heap_new (w.alloc (.cells #[.pointer (some ⟨B, 0, none⟩)] 22)) (.cells #[.pointer (some ⟨B, 0, none⟩)] 22)
    rw [World.size_alloc] at this
    rw [← hW0]; exact this
  rw [hW0]
  clear hW0 HD
  obtain ⟨ho, hn, hB, gl, cl, gn, cn, vw, hh, hne, c1, c2, c3⟩ := H.out
  have hwa := ho.waits
  have hFl : Fl w base B n d gl cl gn cn vw w.heap.size d.last d.now W0 := ⟨b0, (hF0.block B (lt_of_heap hh)).trans hh, c1.below hF0, c2.below hF0, c3.below hF0, Kd.fresh hF0 hbase⟩
  have hmx : Tryd.prog.follows .mixedOrders = true := by kernel_rfl
  obtain ⟨Z0, hZ0⟩ : ∃ Z0, Z0 = wrA 0 nought := ⟨_, rfl⟩
  have hz := zero_wr
  have hsZ0 : Z0.size = 65 := by rw [hZ0]; exact wrA_size 0 sec_nought
  rw [← hZ0] at hz
  clear hZ0
  refine wpIn_rangeFunc_ownH rfl (by decide) (gf := 48) (lb := #[.pointer (some ⟨w.heap.size + 1, 0, none⟩)]) rfl trivial (enters_of Tryd.func48 (by kernel_rfl) rfl)
    (iter_stops (9 - 1) (by decide) (w.heap.size + 1) B n base d.wait vw W0 (cell_of_row W0 _ 0 _ _ _ b1) (cell_of_row W0 B 2 _ _ _ hFl.str) hFl.bw hwa hwl) (fun h k => Ks.trans h k) (fun W l o o' _ hl hc _ => Ks.putObj W l o o' hl hc) (Below.refl _ _) (fun _ => rfl)
    (FlI w base B n d gl cl gn cn vw w.heap.size) (fun _ _ _ => False) ?hI ?hIx ?h0
    (fun x a' W => ∃ Bn, a' = { tmps := #[.pointer (some ⟨B, 0, none⟩), .pointer (some ⟨w.heap.size, 0, none⟩), .int .i64 0, undef, .pointer (some ⟨Bn, 0, none⟩), .pointer (some ⟨B, 0, none⟩), .bool false, .pointer (some ⟨B, 0, none⟩), .func (.func 48) #[] #[.pointer (some ⟨w.heap.size + 1, 0, none⟩)], .int .i64 x.1.1, .agg (wrA x.1.2.1 x.1.2.2), undef, undef, undef, undef, undef, undef, undef, undef, undef, undef, undef, undef, undef, undef], defers := [] } ∧ W.heap[Bn]? = some (.cells (wrA x.1.2.1 x.1.2.2) 69 (0, 0)))
    ?hAx ?assign ?body ?done ?stop
  case hI => exact fun s A B' row hs hg hrow => hs.turn hbase hg (fun r e => ⟨by have := (hrow r e).1; omega, (hrow r e).2⟩)
  case hIx => exact fun c s A B' row hs _ _ => hs
  case h0 => exact hFl
  case hAx =>
    rintro x a' _ A B' row ⟨Bn, rfl, hBn⟩ hg hrow
    refine ⟨Bn, rfl, (hg.block Bn (lt_of_heap hBn) (fun e => ?_)).trans hBn⟩
    obtain ⟨_, o, ho', hc⟩ := hrow Bn e.symm
    rw [hBn] at ho'
    injection ho' with e1
    subst e1
    cases hc
  case assign =>
    intro l pre x W K hI hK
    have hst := store_wr W Z0 (wrA x.1.2.1 x.1.2.2) hsZ0 (wrA_size _ x.2.2.2) (wrA_one _ _)
    have hszW : (wrA x.1.2.1 x.1.2.2).size = 65 := wrA_size _ x.2.2.2
    have hfr : Below W.heap.size W (W.alloc (.cells (wrA x.1.2.1 x.1.2.2) 69)) := (Below.refl _ W).alloc (Nat.le_refl _) _
    have HK := hid (hK _ _ ((KeepsOthers.alloc W _).from _) (Ks.fresh hfr) (hI.fresh hbase hfr) ⟨W.heap.size, rfl, heap_new W _⟩)
    clear hK hI hfr
    obtain ⟨WX, hWX⟩ : ∃ WX, WX = wrA x.1.2.1 x.1.2.2 := ⟨_, rfl⟩
    dsimp only [It.vals]
    rw [← hWX] at hst hszW HK ⊢
    clear hWX
    gi_wp2
    exact HK.out
  case body =>
    rintro l pre x a' W _ _ hI ⟨Bn, rfl, hBn⟩ hlt
    obtain ⟨hx0, hx1, hx2⟩ := x.2
    have hlen : (app d.last (pre.map fun x => x.1.2)).length = n := by rw [app_len]; exact ho.len
    obtain ⟨F1, ks, kf⟩ := hI.setLast hbase hne hlen hx1 hx2
    have e1 : app d.last ((pre ++ [x]).map fun x => x.1.2) = (app d.last (pre.map fun x => x.1.2)).set x.1.2.1 x.1.2.2 := by rw [List.map_append]; exact app_snoc _ _ _
    have F1 : Hid (FlI w base B n d gl cl gn cn vw w.heap.size (pre ++ [x]) (W.drew.setCells gl (x.1.2.1 * 64) (secV x.1.2.2))) := by
      unfold FlI; rw [e1]; exact F1
    clear e1
    have ht : W.drew.there gl (x.1.2.1 * 64) (secV x.1.2.2).toArray.size := by
      have := hI.bl.there (by simp [hlen]) (i := x.1.2.1) (by rw [List.length_map, hlen]; exact hx1)
      simpa [secV, hx2.1] using this
    have hr1 : W.rangeAt Bn 1 (secV x.1.2.2) := fun j v hv => by
      rw [cell_of_row _ _ _ _ _ _ hBn, Nat.add_comm 1 j]
      simpa using hv
    have hgl := (hI.bl.2.lt gl rfl).2
    obtain ⟨cg, hcg⟩ := own_heap hI.bl.2 (k := gl) rfl
    have hnB : Bn ≠ gl := ne_of_type hBn hcg (by decide)
    have S0 := hid (And.intro (cell_of_row W _ 0 _ _ _ hI.box) (And.intro (cell_of_row W B 0 _ _ _ hI.str) (And.intro (cell_of_row W Bn 0 _ _ _ hBn) (And.intro hr1 ht))))
    have hBn1 := ks.keep _ _ _ _ hBn (by decide)
    have S1 := hid (And.intro (cell_of_row _ _ 0 _ _ _ F1.out.box) (And.intro (cell_of_row _ B 0 _ _ _ F1.out.str) (And.intro (cell_of_row _ Bn 0 _ _ _ (hBn1.trans hBn)) (And.intro (World.rangeAt_setCells_apart (w := W.drew) hr1 gl (x.1.2.1 * 64) (secV x.1.2.2) (.inl hnB)) (World.there_setCells ht gl (x.1.2.1 * 64) (secV x.1.2.2))))))
    have hu : Tryd.prog.underlying 67 = some (.array 64 5) := Tryd.underlying67
    have hinf : (Tryd.prog.info? 67).map (·.size) = some (secV x.1.2.2).length := by
      obtain ⟨i0, hi0, _, hz1, _⟩ := info_parts infoSec
      rw [hi0, secV_len hx2]; simp [hz1]
    have hinf' : (Tryd.prog.info? 67).map (·.size) = some (secV x.1.2.2).toArray.size := by simpa using hinf
    have hxI : (x.1.2.1 : Int) < (n : Int) := by omega
    clear hz hI hBn hBn1 hr1 hcg
    gi_wp2
    refine wpIn_region_plain (S := fun W' => W'.cell? ⟨w.heap.size, 0, none⟩ = some (.pointer (some ⟨B, 0, none⟩)) ∧ W'.cell? ⟨B, 0, none⟩ = some (.slice (some ⟨gl, 0, none⟩) n cl) ∧ W'.cell? ⟨Bn, 0, none⟩ = some (.int .i64 (x.1.2.1 : Int)) ∧ W'.rangeAt Bn 1 (secV x.1.2.2) ∧ W'.there gl (x.1.2.1 * 64) (secV x.1.2.2).toArray.size) hmx (by kernel_rfl) S0.out (fun hHeld => ?_)
    refine wpAnyH_take (i := 0) (v := .pointer (some ⟨B, 0, none⟩)) rfl (by kernel_rfl) (by kernel_rfl) (by kernel_rfl) (fun _ _ _ h => h) (Or.inl ⟨by rfl, fun wx hS => by have hq := hS.1; clear hS; go_simp⟩) (by assumption) ?_
    simp only [List.getElem_toArray, List.getElem_cons_zero, Act.put, List.setIfInBounds_toArray, List.set_cons_zero, List.set_cons_succ]
    refine wpAnyH_take (i := 1) (v := .pointer (some ⟨B, 0, none⟩)) rfl (by kernel_rfl) (by kernel_rfl) (by kernel_rfl) (fun _ _ _ h => h) (Or.inl ⟨by rfl, fun wx hS => by rfl⟩) (by assumption) ?_
    simp only [List.getElem_toArray, List.getElem_cons_succ, List.getElem_cons_zero, Act.put, List.setIfInBounds_toArray, List.set_cons_zero, List.set_cons_succ]
    refine wpAnyH_take (i := 2) (v := .pointer (some ⟨B, 0, none⟩)) rfl (by kernel_rfl) (by kernel_rfl) (by kernel_rfl) (fun _ _ _ h => h) (Or.inl ⟨by rfl, fun wx hS => by go_simp⟩) (by assumption) ?_
    simp only [List.getElem_toArray, List.getElem_cons_succ, List.getElem_cons_zero, Act.put, List.setIfInBounds_toArray, List.set_cons_zero, List.set_cons_succ]
    refine wpAnyH_take (i := 3) (v := .slice (some ⟨gl, 0, none⟩) n cl) rfl (by kernel_rfl) (by kernel_rfl) (by kernel_rfl) (fun _ _ _ h => h) (Or.inl ⟨by rfl, fun wx hS => by have hq := hS.2.1; clear hS; go_simp⟩) (by assumption) ?_
    simp only [List.getElem_toArray, List.getElem_cons_succ, List.getElem_cons_zero, Act.put, List.setIfInBounds_toArray, List.set_cons_zero, List.set_cons_succ]
    refine wpAnyH_take (i := 4) (v := .pointer (some ⟨Bn, 0, none⟩)) rfl (by kernel_rfl) (by kernel_rfl) (by kernel_rfl) (fun _ _ _ h => h) (Or.inl ⟨by rfl, fun wx hS => by go_simp⟩) (by assumption) ?_
    simp only [List.getElem_toArray, List.getElem_cons_succ, List.getElem_cons_zero, Act.put, List.setIfInBounds_toArray, List.set_cons_zero, List.set_cons_succ]
    refine wpAnyH_take (i := 5) (v := .int .i64 (x.1.2.1 : Int)) rfl (by kernel_rfl) (by kernel_rfl) (by kernel_rfl) (fun _ _ _ h => h) (Or.inl ⟨by rfl, fun wx hS => by have hq := hS.2.2.1; clear hS; go_simp⟩) (by assumption) ?_
    simp only [List.getElem_toArray, List.getElem_cons_succ, List.getElem_cons_zero, Act.put, List.setIfInBounds_toArray, List.set_cons_zero, List.set_cons_succ]
    refine wpAnyH_take (i := 6) (v := .pointer (some ⟨Bn, 1, none⟩)) rfl (by kernel_rfl) (by kernel_rfl) (by kernel_rfl) (fun _ _ _ h => h) (Or.inl ⟨by rfl, fun wx hS => by go_simp⟩) (by assumption) ?_
    simp only [List.getElem_toArray, List.getElem_cons_succ, List.getElem_cons_zero, Act.put, List.setIfInBounds_toArray, List.set_cons_zero, List.set_cons_succ]
    refine wpAnyH_take (i := 7) (v := .agg (secV x.1.2.2).toArray) rfl (by kernel_rfl) (by kernel_rfl) (by kernel_rfl) (fun _ _ _ h => h) (yieldsIf_load_mid (by rfl) 67 (.tmp 17) rfl Bn 1 rfl (secV x.1.2.2) _ (fun _ hS => hS.2.2.2.1) hu rfl hinf) (by assumption) ?_
    simp only [List.getElem_toArray, List.getElem_cons_succ, List.getElem_cons_zero, Act.put, List.setIfInBounds_toArray, List.set_cons_zero, List.set_cons_succ]
    refine wpAnyH_take (i := 8) (v := .pointer (some ⟨gl, x.1.2.1 * 64, none⟩)) rfl (by kernel_rfl) (by kernel_rfl) (by kernel_rfl) (fun _ _ _ h => h) (Or.inl ⟨by rfl, fun wx hS => by go_simp⟩) (by assumption) ?_
    simp only [List.getElem_toArray, List.getElem_cons_succ, List.getElem_cons_zero, Act.put, List.setIfInBounds_toArray, List.set_cons_zero, List.set_cons_succ]
    refine wpAnyH_ready (rs := [9]) (by kernel_rfl) (by simp) ?_
    refine AllReadyH.cons rfl (fun K hK => ?_) AllReadyH.nil
    dsimp only [List.getElem_toArray, List.getElem_cons_succ, List.getElem_cons_zero]
    rw [if_pos (by rfl)]
    refine wp_store_mid 67 (.tmp 19) (.tmp 18) rfl gl (x.1.2.1 * 64) (secV x.1.2.2).toArray rfl rfl ht hinf' (all_oneCell_toArray (secV_one _)) ?_
    refine hK.out _ _ S1.out (fun _ => ?_)
    clear hK K
    refine wpAnyH_done (by kernel_rfl) ?_ _
    exact ⟨kf _, ks, F1.out⟩
  case done =>
    rintro D ys W hD hS hI hK
    have e1 : app d.last (ys.map fun x => x.1.2) = d.now := by
      have : ys.map (fun x => x.1.2) = (ys.map (·.1)).map (·.2) := by rw [List.map_map]; rfl
      rw [this, hS, items_snd]; rfl
    unfold FlI at hI
    rw [e1] at hI
    obtain ⟨hDi, hKd, hc2, hf2, hot⟩ := hI.close hbase hne hn hB ho.now_len ho.now_secs ho
    have HBU := hid (burn_any hDi HDD.out)
    have HKd := hid hKd
    have hK1 := hot D _ hK rfl
    have hbx := cell_of_row W _ 0 _ _ _ hI.box
    have hbx2 : (W.setCell ⟨B, 2, none⟩ (.slice none 0 0)).cell? ⟨w.heap.size, 0, none⟩ = some (.pointer (some ⟨B, 0, none⟩)) := by
      rw [World.cell?_setCell_far _ _ _ _ (show B ≠ w.heap.size by have := lt_of_heap hh; omega)]; exact hbx
    simp only [List.getElem?_toArray, List.getElem?_cons_zero] at hbx
    clear hz hI e1 hDi hKd hot hS
    gi_wp2_with (gi_at_call 45; refine (callsIn_wide.2 HBU.out).mono ?_; rintro e w7 ⟨⟨v7, rfl⟩, hdi7, hkd7⟩)
    have hK7 := hkd7.others D _ hK1 (fun _ _ _ e => by cases e)
    have hrow : ∀ r, some D = some r → ∃ o : Obj, w7.heap[r]? = some o ∧ o.isCells = false := fun r e => by cases e; exact ⟨_, hK7, rfl⟩
    refine ⟨by simp, .inl ⟨_, _, rfl, run_takeDeferred hK7, ?_⟩⟩
    refine ⟨.int .i64 0, ?_, rfl, hdi7.turn (grownBy_putObj' _ D (.deferred none)) hrow, (HKd.out.trans hkd7).turn hbase (grownBy_putObj' _ D (.deferred none)) (fun r e => by cases e; omega)⟩
    simp [results, Tryd.f27, go_sem]
  case stop => exact fun D c pre W _ _ hF _ => hF.elim
theorem flush_any {w : World} {base B n : Nat} {d : Dk} (h : DiskIs w base B n d) (hd : d.left ≠ 0) (hwl : d.wait.length ≤ 1000000) :
    Calls Tryd.prog 27 #[.pointer (some ⟨B, 0, none⟩)] w fun e w' => e = .returned (.int .i64 0) ∧ DiskIs w' base B n d.flush ∧ Kd base w w' := callsIn_wide.1 (flush_in h hd hwl)
end Go.Proofs.YthhlbhnogcfnjaaDoor
