/-
  What disk.Write gives: the walk.
-/
import Derived.Test.YthhlbhnogcfnjaaDoorMC
namespace Go.Proofs.YthhlbhnogcfnjaaDoor
open Go.RowKit

theorem put_lit (l : List Value) (ds : List Deferred) (k : Nat) (v : Value) : Act.put { tmps := l.toArray, defers := ds } (some k) v = { tmps := (l.set k v).toArray, defers := ds } := by
  simp [Act.put]

set_option maxRecDepth 8000 in
set_option maxHeartbeats 800000 in
theorem write_any {w : World} {base B n : Nat} {d : Dk} (h : DiskIs w base B n d) {i : Nat} (hi : i < n) (hd : d.left ≠ 0) {v : Value} {s : List Int} (hs : Sec s) (hv : Has w v s) (hwl : d.wait.length ≤ 1000000) (hwr : d.writes ≤ 1000000000) :
    Calls Tryd.prog 25 #[.pointer (some ⟨B, 0, none⟩), .int .i64 i, v] w fun e w' => e = .returned (.int .i64 0) ∧ DiskIs w' base B n (d.write i s) ∧ Kd base w w' := by
  have HH := hid (has_any h i)
  have hd' : decide (0 ≤ (i : Int) ∧ (i : Int) < (n : Int)) = true := by simp; omega
  have HD := hid (dead_any h)
  have hd2 : (d.left == 0) = false := by simpa using hd
  rw [hd'] at HH
  rw [hd2] at HD
  clear hd' hd2
  have hw0 := h.ok.w0
  obtain ⟨gn, cn, vw, k1, k2, k3, hgn, hBg, hrest⟩ := write_mem h hi hs hd hwl hwr
  have HDD := hid hd
  clear hd
  obtain ⟨b, off, cap, rfl, hcap, hc⟩ := hv
  rw [hs.1] at hcap hc ⊢
  have hcp := (copy_wr (w := w) (i := (i : Int)) hs hc (cap := cap))
  have hl64 := fun wx hx => load_mid_wr wx w.heap.size i hs hx
  have HBS := hid (build_waits i hs)
  clear hc h
  obtain ⟨Z0, hZ0⟩ : ∃ Z0, Z0 = wrA 0 nought := ⟨_, rfl⟩
  have hz := zero_wr
  have hne0 : ¬ Z0 = #[] := by rw [hZ0]; simp
  have hst := store_wr w Z0 (wrA i nought) (by rw [hZ0]; exact wrA_size 0 sec_nought) (wrA_size _ sec_nought) (wrA_one _ _)
  obtain ⟨Z, hZ⟩ : ∃ Z, Z = wrA i nought := ⟨_, rfl⟩
  have hset : Z0.setIfInBounds 0 (.int .i64 (i : Int)) = Z := by rw [hZ, hZ0]; simp
  have hsZ : Z.size = 65 := by rw [hZ]; exact wrA_size _ sec_nought
  rw [← hZ] at hst hcp
  rw [← hZ0] at hz
  clear hZ0 hZ
  obtain ⟨W, hW⟩ : ∃ W, W = wrA i s := ⟨_, rfl⟩
  rw [← hW] at hcp k1 k2 k3 hrest HBS hl64
  obtain ⟨w1, hw1⟩ : ∃ w1, w.alloc (.cells W 69) = w1 := ⟨_, rfl⟩
  rw [hw1] at hcp k1 k2 k3 hrest
  have hc1s : (w1.drew.setCells gn (i * 64) (secV s)).cell? ⟨B, 1, none⟩ = some (.slice (some ⟨gn, 0, none⟩) n cn) := by
    rw [World.cell?_setCells_out gn _ _ _ ⟨B, 1, none⟩ (fun e => absurd e hBg)]; exact k1
  have hr1s : (w1.drew.setCells gn (i * 64) (secV s)).rangeAt w.heap.size 1 (secV s) := World.rangeAt_setCells_apart k2 _ _ _ (.inl (by omega))
  have ht1s : (w1.drew.setCells gn (i * 64) (secV s)).there gn (i * 64) 64 := World.there_setCells k3 _ _ _
  have K1 := hid (And.intro k1 (And.intro k2 k3))
  have K2 := hid (And.intro hc1s (And.intro hr1s ht1s))
  have HR := hid hrest
  have HL := hid hl64
  clear hc1s hr1s ht1s k1 k2 k3 hrest hl64
  have hiI : (i : Int) < (n : Int) := by omega
  go_enter Tryd.func25, Tryd.ntmps25
  go_wp2_with (first | (go_at_call 44; refine HH.out.mono ?_; rintro e w2 ⟨rfl, hw⟩; have hw' := hw.symm; clear hw; subst hw') | (go_at_call 20; refine HD.out.mono ?_; rintro e w2 ⟨rfl, hw⟩; have hw' := hw.symm; clear hw; subst hw'))
  have hu : Tryd.prog.underlying 67 = some (.array 64 5) := Tryd.underlying67
  have hlen : (secV s).length = 64 := by simp [secV, hs.1]
  have hinf : (Tryd.prog.info? 67).map (·.size) = some (secV s).length := by
    obtain ⟨i0, hi0, _, hz1, _⟩ := info_parts infoSec
    rw [hi0, hlen]; simp [hz1]
  have hone := secV_one s
  go_region_held3 (fun w' => w'.cell? ⟨B, 1, none⟩ = some (.slice (some ⟨gn, 0, none⟩) n cn) ∧ w'.rangeAt w.heap.size 1 (secV s) ∧ w'.there gn (i * 64) 64) (first | exact K1.out | exact K2.out) (fail)
  obtain ⟨w2, hw2⟩ : ∃ w2, w1.drew.setCells gn (i * 64) (secV s) = w2 := ⟨_, rfl⟩
  rw [hw2]
  obtain ⟨hc2, hr2, g, cap', w4, hrun, hcB, hfB, hcW, hfW, hDisk, hKd⟩ := HR.out _ rfl
  rw [hw2] at hc2 hr2 hrun
  have HDi := hid hDisk
  have HKd := hid hKd
  have HRU := hid hrun
  clear hu hlen hinf hone hw2 hst hset hcp hz hne0 hsZ hDisk hKd hrun
  have HBU := hid (burn_any HDi.out HDD.out)
  have hmx : Tryd.prog.follows .mixedOrders = true := by kernel_rfl
  have hc2a : (w2.drew.alloc (.cells W 69)).cell? ⟨B, 2, none⟩ = some vw := by
    rw [World.cell?_alloc_lt _ _ _ (show B < w2.drew.heap.size from lt_of_cell hc2)]; exact hc2
  go_wp2
  refine wp_region_noPanic ?_
  refine wp_region_any hmx ?_
  change wpAny _ _ _ _ _ _ _ w2.drew
  refine wpAny_take (i := 0) (v := .pointer (some ⟨B, 0, none⟩)) rfl (by kernel_rfl) (by kernel_rfl) (by kernel_rfl) (fun _ _ _ h => h) (Or.inl ⟨by rfl, fun wx => by rfl⟩) ?_
  simp only [List.getElem_toArray, List.getElem_cons_zero, Act.put, List.setIfInBounds_toArray, List.set_cons_zero, List.set_cons_succ]
  refine wpAny_take (i := 1) (v := .pointer (some ⟨B, 0, none⟩)) rfl (by kernel_rfl) (by kernel_rfl) (by kernel_rfl) (fun _ _ _ h => h) (Or.inl ⟨by rfl, fun wx => by rfl⟩) ?_
  simp only [List.getElem_toArray, List.getElem_cons_succ, List.getElem_cons_zero, Act.put, List.setIfInBounds_toArray, List.set_cons_zero, List.set_cons_succ]
  refine wpAny_take (i := 2) (v := .pointer (some ⟨B, 0, none⟩)) rfl (by kernel_rfl) (by kernel_rfl) (by kernel_rfl) (fun _ _ _ h => h) (Or.inl ⟨by rfl, fun wx => by rfl⟩) ?_
  simp only [List.getElem_toArray, List.getElem_cons_succ, List.getElem_cons_zero, Act.put, List.setIfInBounds_toArray, List.set_cons_zero, List.set_cons_succ]
  refine wpAny_take (i := 3) (v := .pointer (some ⟨B, 2, none⟩)) rfl (by kernel_rfl) (by kernel_rfl) (by kernel_rfl) (fun _ _ _ h => h) (Or.inl ⟨by rfl, fun wx => by go_simp⟩) ?_
  simp only [List.getElem_toArray, List.getElem_cons_succ, List.getElem_cons_zero, Act.put, List.setIfInBounds_toArray, List.set_cons_zero, List.set_cons_succ]
  refine wpAny_ready (rs := [4, 5]) (by kernel_rfl) (by simp) ?_
  refine AllReady.cons rfl (fun K hK => ?_) ?_
  · dsimp only [List.getElem_toArray, List.getElem_cons_succ, List.getElem_cons_zero]
    refine step_run (v := vw) (w' := w2.drew) rfl ?_ (hK _ _ ?_)
    · exact exec_load 44 (.tmp 36) rfl rfl (load_waits _ _ _ hc2)
    clear hK K
    simp only [Act.put, List.setIfInBounds_toArray, List.set_cons_zero, List.set_cons_succ]
    refine wpAny_ready (rs := [5]) (by kernel_rfl) (by simp) ?_
    refine AllReady.cons rfl (fun K hK => ?_) AllReady.nil
    dsimp only [List.getElem_toArray, List.getElem_cons_succ, List.getElem_cons_zero]
    refine step_run (v := .agg W) (w' := w2.drew) rfl ?_ (hK _ _ ?_)
    · exact exec_load 69 (.tmp 7) rfl rfl (HL.out _ hr2)
    clear hK K
    simp only [Act.put, List.setIfInBounds_toArray, List.set_cons_zero, List.set_cons_succ]
    refine wpAny_ready (rs := [6]) (by kernel_rfl) (by simp) ?_
    refine AllReady.cons rfl (fun K hK => ?_) AllReady.nil
    dsimp only [List.getElem_toArray, List.getElem_cons_succ, List.getElem_cons_zero]
    refine step_run (v := .slice (some ⟨w2.drew.heap.size, 0, none⟩) 1 1) (w' := w2.drew.alloc (.cells W 69)) rfl ?_ (hK _ _ ?_)
    · exact exec_buildSlice 44 1 0 (.tmp 38) rfl rfl (HBS.out _)
    clear hK K
    simp only [Act.put, List.setIfInBounds_toArray, List.set_cons_zero, List.set_cons_succ]
    refine wpAny_ready (rs := [7]) (by kernel_rfl) (by simp) ?_
    refine AllReady.cons rfl (fun K hK => ?_) AllReady.nil
    dsimp only [List.getElem_toArray, List.getElem_cons_succ, List.getElem_cons_zero]
    refine step_run (v := .slice (some ⟨g, 0, none⟩) (d.wait.length + 1) cap') (w' := w4) rfl ?_ (hK _ _ ?_)
    · exact exec_append (v := vw) (u := .slice (some ⟨w2.drew.heap.size, 0, none⟩) 1 1) (.tmp 37) (.tmp 39) 44 rfl rfl rfl HRU.out
    clear hK K
    simp only [Act.put, List.setIfInBounds_toArray, List.set_cons_zero, List.set_cons_succ]
    refine wpAny_take (i := 8) (v := .pointer (some ⟨B, 0, none⟩)) rfl (by kernel_rfl) (by kernel_rfl) (by kernel_rfl) (fun _ _ _ h => h) (Or.inl ⟨by rfl, fun wx => by rfl⟩) ?_
    simp only [List.getElem_toArray, List.getElem_cons_succ, List.getElem_cons_zero, Act.put, List.setIfInBounds_toArray, List.set_cons_zero, List.set_cons_succ]
    refine wpAny_take (i := 9) (v := .pointer (some ⟨B, 2, none⟩)) rfl (by kernel_rfl) (by kernel_rfl) (by kernel_rfl) (fun _ _ _ h => h) (Or.inl ⟨by rfl, fun wx => by go_simp⟩) ?_
    simp only [List.getElem_toArray, List.getElem_cons_succ, List.getElem_cons_zero, Act.put, List.setIfInBounds_toArray, List.set_cons_zero, List.set_cons_succ]
    refine wpAny_ready (rs := [10]) (by kernel_rfl) (by simp) ?_
    refine AllReady.cons rfl (fun K hK => ?_) AllReady.nil
    go_simp
    refine hK _ _ ?_
    clear hK K
    refine wpAny_done (by kernel_rfl) ?_ _
    refine NoPanic.normal ?_
    go_wp2_with (go_at_call 45; refine HBU.out.mono ?_; rintro e w7 ⟨⟨v7, rfl⟩, hdi7, hkd7⟩)
    go_ret
    exact ⟨rfl, hdi7, HKd.out.trans hkd7⟩
  refine AllReady.cons rfl (fun K hK => ?_) AllReady.nil
  dsimp only [List.getElem_toArray, List.getElem_cons_succ, List.getElem_cons_zero]
  refine step_run (v := .agg W) (w' := w2.drew) rfl ?_ (hK _ _ ?_)
  · exact exec_load 69 (.tmp 7) rfl rfl (HL.out _ hr2)
  clear hK K
  simp only [Act.put, List.setIfInBounds_toArray, List.set_cons_zero, List.set_cons_succ]
  refine wpAny_ready (rs := [4, 6]) (by kernel_rfl) (by simp) ?_
  refine AllReady.cons rfl (fun K hK => ?_) ?_
  · dsimp only [List.getElem_toArray, List.getElem_cons_succ, List.getElem_cons_zero]
    refine step_run (v := vw) (w' := w2.drew) rfl ?_ (hK _ _ ?_)
    · exact exec_load 44 (.tmp 36) rfl rfl (load_waits _ _ _ hc2)
    clear hK K
    simp only [Act.put, List.setIfInBounds_toArray, List.set_cons_zero, List.set_cons_succ]
    refine wpAny_ready (rs := [6]) (by kernel_rfl) (by simp) ?_
    refine AllReady.cons rfl (fun K hK => ?_) AllReady.nil
    dsimp only [List.getElem_toArray, List.getElem_cons_succ, List.getElem_cons_zero]
    refine step_run (v := .slice (some ⟨w2.drew.heap.size, 0, none⟩) 1 1) (w' := w2.drew.alloc (.cells W 69)) rfl ?_ (hK _ _ ?_)
    · exact exec_buildSlice 44 1 0 (.tmp 38) rfl rfl (HBS.out _)
    clear hK K
    simp only [Act.put, List.setIfInBounds_toArray, List.set_cons_zero, List.set_cons_succ]
    refine wpAny_ready (rs := [7]) (by kernel_rfl) (by simp) ?_
    refine AllReady.cons rfl (fun K hK => ?_) AllReady.nil
    dsimp only [List.getElem_toArray, List.getElem_cons_succ, List.getElem_cons_zero]
    refine step_run (v := .slice (some ⟨g, 0, none⟩) (d.wait.length + 1) cap') (w' := w4) rfl ?_ (hK _ _ ?_)
    · exact exec_append (v := vw) (u := .slice (some ⟨w2.drew.heap.size, 0, none⟩) 1 1) (.tmp 37) (.tmp 39) 44 rfl rfl rfl HRU.out
    clear hK K
    simp only [Act.put, List.setIfInBounds_toArray, List.set_cons_zero, List.set_cons_succ]
    refine wpAny_take (i := 8) (v := .pointer (some ⟨B, 0, none⟩)) rfl (by kernel_rfl) (by kernel_rfl) (by kernel_rfl) (fun _ _ _ h => h) (Or.inl ⟨by rfl, fun wx => by rfl⟩) ?_
    simp only [List.getElem_toArray, List.getElem_cons_succ, List.getElem_cons_zero, Act.put, List.setIfInBounds_toArray, List.set_cons_zero, List.set_cons_succ]
    refine wpAny_take (i := 9) (v := .pointer (some ⟨B, 2, none⟩)) rfl (by kernel_rfl) (by kernel_rfl) (by kernel_rfl) (fun _ _ _ h => h) (Or.inl ⟨by rfl, fun wx => by go_simp⟩) ?_
    simp only [List.getElem_toArray, List.getElem_cons_succ, List.getElem_cons_zero, Act.put, List.setIfInBounds_toArray, List.set_cons_zero, List.set_cons_succ]
    refine wpAny_ready (rs := [10]) (by kernel_rfl) (by simp) ?_
    refine AllReady.cons rfl (fun K hK => ?_) AllReady.nil
    go_simp
    refine hK _ _ ?_
    clear hK K
    refine wpAny_done (by kernel_rfl) ?_ _
    refine NoPanic.normal ?_
    go_wp2_with (go_at_call 45; refine HBU.out.mono ?_; rintro e w7 ⟨⟨v7, rfl⟩, hdi7, hkd7⟩)
    go_ret
    exact ⟨rfl, hdi7, HKd.out.trans hkd7⟩
  refine AllReady.cons rfl (fun K hK => ?_) AllReady.nil
  dsimp only [List.getElem_toArray, List.getElem_cons_succ, List.getElem_cons_zero]
  refine step_run (v := .slice (some ⟨w2.drew.heap.size, 0, none⟩) 1 1) (w' := w2.drew.alloc (.cells W 69)) rfl ?_ (hK _ _ ?_)
  · exact exec_buildSlice 44 1 0 (.tmp 38) rfl rfl (HBS.out _)
  clear hK K
  simp only [Act.put, List.setIfInBounds_toArray, List.set_cons_zero, List.set_cons_succ]
  refine wpAny_ready (rs := [4]) (by kernel_rfl) (by simp) ?_
  refine AllReady.cons rfl (fun K hK => ?_) AllReady.nil
  dsimp only [List.getElem_toArray, List.getElem_cons_succ, List.getElem_cons_zero]
  refine step_run (v := vw) (w' := w2.drew.alloc (.cells W 69)) rfl ?_ (hK _ _ ?_)
  · exact exec_load 44 (.tmp 36) rfl rfl (load_waits _ _ _ hc2a)
  clear hK K
  simp only [Act.put, List.setIfInBounds_toArray, List.set_cons_zero, List.set_cons_succ]
  refine wpAny_ready (rs := [7]) (by kernel_rfl) (by simp) ?_
  refine AllReady.cons rfl (fun K hK => ?_) AllReady.nil
  dsimp only [List.getElem_toArray, List.getElem_cons_succ, List.getElem_cons_zero]
  refine step_run (v := .slice (some ⟨g, 0, none⟩) (d.wait.length + 1) cap') (w' := w4) rfl ?_ (hK _ _ ?_)
  · exact exec_append (v := vw) (u := .slice (some ⟨w2.drew.heap.size, 0, none⟩) 1 1) (.tmp 37) (.tmp 39) 44 rfl rfl rfl HRU.out
  clear hK K
  simp only [Act.put, List.setIfInBounds_toArray, List.set_cons_zero, List.set_cons_succ]
  refine wpAny_take (i := 8) (v := .pointer (some ⟨B, 0, none⟩)) rfl (by kernel_rfl) (by kernel_rfl) (by kernel_rfl) (fun _ _ _ h => h) (Or.inl ⟨by rfl, fun wx => by rfl⟩) ?_
  simp only [List.getElem_toArray, List.getElem_cons_succ, List.getElem_cons_zero, Act.put, List.setIfInBounds_toArray, List.set_cons_zero, List.set_cons_succ]
  refine wpAny_take (i := 9) (v := .pointer (some ⟨B, 2, none⟩)) rfl (by kernel_rfl) (by kernel_rfl) (by kernel_rfl) (fun _ _ _ h => h) (Or.inl ⟨by rfl, fun wx => by go_simp⟩) ?_
  simp only [List.getElem_toArray, List.getElem_cons_succ, List.getElem_cons_zero, Act.put, List.setIfInBounds_toArray, List.set_cons_zero, List.set_cons_succ]
  refine wpAny_ready (rs := [10]) (by kernel_rfl) (by simp) ?_
  refine AllReady.cons rfl (fun K hK => ?_) AllReady.nil
  go_simp
  refine hK _ _ ?_
  clear hK K
  refine wpAny_done (by kernel_rfl) ?_ _
  refine NoPanic.normal ?_
  go_wp2_with (go_at_call 45; refine HBU.out.mono ?_; rintro e w7 ⟨⟨v7, rfl⟩, hdi7, hkd7⟩)
  go_ret
  exact ⟨rfl, hdi7, HKd.out.trans hkd7⟩
end Go.Proofs.YthhlbhnogcfnjaaDoor
