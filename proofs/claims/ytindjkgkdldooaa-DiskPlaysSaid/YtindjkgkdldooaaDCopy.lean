/-
  What disk.Copy gives.
-/
import Derived.Test.YtindjkgkdldooaaDAwake
namespace Go.Proofs.Ytindjkgkdldooaa
open Go.RowKit

theorem cloneS_any {w : World} {base g n cap : Nat} {bl : List (List Value)} (h : Blocks w base 62 64 (.slice (some ⟨g, 0, none⟩) n cap) bl) (hn : n = bl.length) (h1 : 1 ≤ n) (hl : n ≤ 65536) (hone : ∀ b ∈ bl, ∀ u ∈ b, u.oneCell' = true) :
    Calls Try.prog 31 #[.slice (some ⟨g, 0, none⟩) n cap] w fun e w' => ∃ g' c', e = .returned (.slice (some ⟨g', 0, none⟩) n c') ∧ Blocks w' w.heap.size 62 64 (.slice (some ⟨g', 0, none⟩) n c') bl ∧ Below w.heap.size w w' := by
  obtain ⟨i0, hi, hz0, hz1, hz2⟩ := info_parts infoSec
  have hb0 : Below w.heap.size w (w.alloc (.cells #[] 62)) := (Below.refl _ _).alloc (Nat.le_refl _) _
  have hbl := h.below hb0
  have hlen : bl.flatten.length = n * 64 := by rw [flatten_len bl h.1, hn]
  have hcells : ∀ j u, bl.flatten[j]? = some u → (w.alloc (.cells #[] 62)).cell? ((⟨g, 0, none⟩ : Addr).add j) = some u := hbl.2.cells rfl
  have hone' : ∀ u ∈ bl.flatten, u.oneCell' = true := fun u hu => by
    obtain ⟨b, hb, hub⟩ := List.mem_flatten.1 hu
    exact hone b hb u hub
  have hnil : ∀ (wx : World) (a : Option Addr) (n c : Nat), (binOp .eql 56 (.slice a n c) (.slice none 0 0)).run Try.prog wx = .ok (.bool a.isNone) wx := fun wx a n c => Lib.run_eql_slice_nil wx _ _ a n c 0 0 Try.underlying56
  have hown : (w.alloc (.cells #[] 62)).ownsRow w.heap.size 62 64 (.slice (some ⟨w.heap.size, 0, none⟩) 0 0) 0 [] := World.ownsRow_lit w #[] 0 (Nat.le_refl _) (by unfold maxLen; omega) (by simp)
  have HOW := hid hown
  have HCE := hid hcells
  have HH := hid h
  clear hown hcells h hbl
  go_enter Try.func31, Try.ntmps31
  go_wp2_with (at_builtin; refine wpList_append_own _ rfl (.tmp 5) (.tmp 6) 56 rfl w.heap.size 62 i0 _ 64 64 Try.underlying56 hi hz0 hz1 hz2 rfl (by decide) (.slice (some ⟨w.heap.size, 0, none⟩) 0 0) 0 [] rfl HOW.out ⟨g, 0, none⟩ n cap bl.flatten rfl hlen HCE.out hone' (by unfold maxLen; omega) (by omega) (by simp) ?_; intro v2 w2 hown2 hgrow2 _; have hB2 : Below w.heap.size w w2 := hb0.grown hgrow2 (by simp) (own_base HOW.out); have HO2 := hid hown2; clear hown2 hgrow2)
  go_ret
  have ho := HO2.out
  rw [Nat.zero_add, List.nil_append] at ho
  obtain ⟨g', c', rfl⟩ : ∃ g' c', v2 = .slice (some ⟨g', 0, none⟩) n c' := by
    rcases ho.2 with ⟨_, h0⟩ | ⟨g', c', _, rfl, _⟩
    · omega
    · exact ⟨g', c', rfl⟩
  exact ⟨g', c', rfl, ⟨HH.out.1, by rw [← hn]; exact ho⟩, hB2⟩
theorem cloneW_any {w : World} {base : Nat} {v : Value} {bl : List (List Value)} (h : Blocks w base 64 65 v bl) (hl : bl.length ≤ 1000000) (hone : ∀ b ∈ bl, ∀ u ∈ b, u.oneCell' = true) :
    Calls Try.prog 32 #[v] w fun e w' => ∃ v', e = .returned v' ∧ Blocks w' w.heap.size 64 65 v' bl ∧ Below w.heap.size w w' := by
  obtain ⟨i0, hi, hz0, hz1, hz2⟩ := info_parts infoWr
  have hnil : ∀ (wx : World) (a : Option Addr) (n c : Nat), (binOp .eql 57 (.slice a n c) (.slice none 0 0)).run Try.prog wx = .ok (.bool a.isNone) wx := fun wx a n c => Lib.run_eql_slice_nil wx _ _ a n c 0 0 Try.underlying57
  rcases h.2.2 with ⟨rfl, h0⟩ | ⟨g, cap, cur, rfl, _⟩
  · have hbl : bl = [] := List.eq_nil_of_length_eq_zero h0
    subst hbl
    clear h
    go_enter Try.func32, Try.ntmps32
    go_wp2
    go_ret
    exact ⟨_, rfl, ⟨fun b hb => by simp at hb, by simpa using World.ownsRow_nil _ _ _ _⟩, Below.refl _ _⟩
  · have hb0 : Below w.heap.size w (w.alloc (.cells #[] 64)) := (Below.refl _ _).alloc (Nat.le_refl _) _
    have hbl := h.below hb0
    have hlen : bl.flatten.length = bl.length * 65 := flatten_len bl h.1
    have hcells : ∀ j u, bl.flatten[j]? = some u → (w.alloc (.cells #[] 64)).cell? ((⟨g, 0, none⟩ : Addr).add j) = some u := hbl.2.cells rfl
    have hone' : ∀ u ∈ bl.flatten, u.oneCell' = true := fun u hu => by
      obtain ⟨b, hb, hub⟩ := List.mem_flatten.1 hu
      exact hone b hb u hub
    have hown : (w.alloc (.cells #[] 64)).ownsRow w.heap.size 64 65 (.slice (some ⟨w.heap.size, 0, none⟩) 0 0) 0 [] := World.ownsRow_lit w #[] 0 (Nat.le_refl _) (by unfold maxLen; omega) (by simp)
    have HOW := hid hown
    have HCE := hid hcells
    have HH := hid h
    clear hown hcells h hbl
    obtain ⟨n, hn⟩ : ∃ n, n = bl.length := ⟨_, rfl⟩
    rw [← hn] at hl hlen ⊢
    go_enter Try.func32, Try.ntmps32
    go_wp2_with (at_builtin; refine wpList_append_own _ rfl (.tmp 5) (.tmp 6) 57 rfl w.heap.size 64 i0 _ 65 72 Try.underlying57 hi hz0 hz1 hz2 (wrA_size 0 sec_nought) (by decide) (.slice (some ⟨w.heap.size, 0, none⟩) 0 0) 0 [] rfl HOW.out ⟨g, 0, none⟩ n cap bl.flatten rfl hlen HCE.out hone' (by unfold maxLen; omega) (by omega) (by simp) ?_; intro v2 w2 hown2 hgrow2 _; have hB2 : Below w.heap.size w w2 := hb0.grown hgrow2 (by simp) (own_base HOW.out); have HO2 := hid hown2; clear hown2 hgrow2)
    go_ret
    have ho := HO2.out
    rw [Nat.zero_add, List.nil_append] at ho
    exact ⟨_, rfl, ⟨HH.out.1, by rw [← hn]; exact ho⟩, hB2⟩

theorem copy_is {w W : World} {n : Nat} {d : Dk} {gl cl gn cn : Nat} {vw : Value} (ho : d.Ok n) (hn : 8 ≤ n ∧ n ≤ 65536) (hb : Below w.heap.size w W) (hne : gl ≠ gn)
    (h1 : Blocks W w.heap.size 62 64 (.slice (some ⟨gl, 0, none⟩) n cl) (d.last.map secV)) (h2 : Blocks W w.heap.size 62 64 (.slice (some ⟨gn, 0, none⟩) n cn) (d.now.map secV)) (h3 : Blocks W w.heap.size 64 65 vw (d.wait.map wrV)) :
    DiskIs (W.alloc (.cells #[.slice (some ⟨gl, 0, none⟩) n cl, .slice (some ⟨gn, 0, none⟩) n cn, vw, .int .i64 d.writes, .int .i64 d.left] 59)) w.heap.size W.heap.size n d ∧ Below w.heap.size w (W.alloc (.cells #[.slice (some ⟨gl, 0, none⟩) n cl, .slice (some ⟨gn, 0, none⟩) n cn, vw, .int .i64 d.writes, .int .i64 d.left] 59)) := by
  have hf : Below W.heap.size W (W.alloc (.cells #[.slice (some ⟨gl, 0, none⟩) n cl, .slice (some ⟨gn, 0, none⟩) n cn, vw, .int .i64 d.writes, .int .i64 d.left] 59)) := (Below.refl _ W).alloc (Nat.le_refl _) _
  exact ⟨⟨ho, hn, hb.size, gl, cl, gn, cn, vw, heap_new W _, hne, h1.below hf, h2.below hf, h3.below hf⟩, hb.trans (hf.mono hb.size)⟩
theorem secs_one (l : List (List Int)) : ∀ b ∈ l.map secV, ∀ u ∈ b, u.oneCell' = true := fun b hb u hu => by
  obtain ⟨s, _, rfl⟩ := List.mem_map.1 hb
  exact secV_one s u hu
theorem wrs_one (l : List (Nat × List Int)) : ∀ b ∈ l.map wrV, ∀ u ∈ b, u.oneCell' = true := fun b hb u hu => by
  obtain ⟨s, _, rfl⟩ := List.mem_map.1 hb
  exact wrV_one s u hu

set_option maxRecDepth 8000 in
set_option maxHeartbeats 4000000 in
theorem copy_any {w : World} {base B n : Nat} {d : Dk} (h : DiskIs w base B n d) (hwl : d.wait.length ≤ 1000000) :
    Calls Try.prog 11 #[.pointer (some ⟨B, 0, none⟩)] w fun e w' => ∃ B', e = .returned (.pointer (some ⟨B', 0, none⟩)) ∧ DiskIs w' w.heap.size B' n d ∧ Below w.heap.size w w' := by
  obtain ⟨ho, hn, hB, gl, cl, gn, cn, vw, hh, hne, b1, b2, b3⟩ := h
  have HO := hid ho
  have hs : ∀ wx : World, Below w.heap.size w wx → wx.heap[B]? = _ := fun wx hb => (hb.block B (lt_of_heap hh)).trans hh
  have hS : ∀ wx : World, Below w.heap.size w wx → wx.cell? ⟨B, 0, none⟩ = some (.slice (some ⟨gl, 0, none⟩) n cl) ∧ wx.cell? ⟨B, 1, none⟩ = some (.slice (some ⟨gn, 0, none⟩) n cn) ∧ wx.cell? ⟨B, 2, none⟩ = some vw ∧ wx.cell? ⟨B, 3, none⟩ = some (.int .i64 d.writes) ∧ wx.cell? ⟨B, 4, none⟩ = some (.int .i64 d.left) := fun wx hb =>
    ⟨cell_of_row wx B 0 _ _ _ (hs wx hb), cell_of_row wx B 1 _ _ _ (hs wx hb), cell_of_row wx B 2 _ _ _ (hs wx hb), cell_of_row wx B 3 _ _ _ (hs wx hb), cell_of_row wx B 4 _ _ _ (hs wx hb)⟩
  have HS := hid hS
  have HL : Hid (∀ wx : World, Below w.heap.size w wx → Calls Try.prog 31 #[.slice (some ⟨gl, 0, none⟩) n cl] wx fun e w' => ∃ g' c', e = .returned (.slice (some ⟨g', 0, none⟩) n c') ∧ Blocks w' wx.heap.size 62 64 (.slice (some ⟨g', 0, none⟩) n c') (d.last.map secV) ∧ Below wx.heap.size wx w' ∧ Below w.heap.size w w') := hid (fun wx hb => (cloneS_any (b1.below hb) (by rw [List.length_map, ho.len]) (by omega) hn.2 (secs_one _)).mono (fun _ _ ⟨g', c', he, hB, hb'⟩ => ⟨g', c', he, hB, hb', hb.trans (hb'.mono hb.size)⟩))
  have HNW : Hid (∀ wx : World, Below w.heap.size w wx → Calls Try.prog 31 #[.slice (some ⟨gn, 0, none⟩) n cn] wx fun e w' => ∃ g' c', e = .returned (.slice (some ⟨g', 0, none⟩) n c') ∧ Blocks w' wx.heap.size 62 64 (.slice (some ⟨g', 0, none⟩) n c') (d.now.map secV) ∧ Below wx.heap.size wx w' ∧ Below w.heap.size w w') := hid (fun wx hb => (cloneS_any (b2.below hb) (by rw [List.length_map, ho.now_len]) (by omega) hn.2 (secs_one _)).mono (fun _ _ ⟨g', c', he, hB, hb'⟩ => ⟨g', c', he, hB, hb', hb.trans (hb'.mono hb.size)⟩))
  have HW : Hid (∀ wx : World, Below w.heap.size w wx → Calls Try.prog 32 #[vw] wx fun e w' => ∃ v', e = .returned v' ∧ Blocks w' wx.heap.size 64 65 v' (d.wait.map wrV) ∧ Below wx.heap.size wx w' ∧ Below w.heap.size w w') := hid (fun wx hb => (cloneW_any (b3.below hb) (by rw [List.length_map]; exact hwl) (wrs_one _)).mono (fun _ _ ⟨v', he, hB, hb'⟩ => ⟨v', he, hB, hb', hb.trans (hb'.mono hb.size)⟩))
  have hlt := lt_of_heap hh
  have HNN := hid hn
  have hgne := hne
  obtain ⟨aw, cw, rfl, _⟩ := slice_of b3
  clear ho hs hS b1 b2 b3 hh hn hne hwl
  have hF0 : Below w.heap.size w w.drew := (Below.refl _ w).drew
  have hdz : w.drew.heap.size = w.heap.size := rfl
  rw [List.length_map] at HS HW
  go_enter Try.func11, Try.ntmps11
  go_wp2
  go_region_held (fun w' => w'.cell? ⟨B, 0, none⟩ = some (.slice (some ⟨gl, 0, none⟩) n cl) ∧ w'.cell? ⟨B, 1, none⟩ = some (.slice (some ⟨gn, 0, none⟩) n cn) ∧ w'.cell? ⟨B, 2, none⟩ = some (.slice aw d.wait.length cw) ∧ w'.cell? ⟨B, 3, none⟩ = some (.int .i64 d.writes) ∧ w'.cell? ⟨B, 4, none⟩ = some (.int .i64 d.left)) (first | exact HS.out _ hF0 | exact HS.out _ hFL | exact HS.out _ hFN | exact HS.out _ hFW | exact HS.out _ (hFL.alloc hFL.size _) | exact HS.out _ (hFN.alloc hFN.size _) | exact HS.out _ (hFW.alloc hFW.size _)) (first
    | (go_at_call_of 31 (Value.slice (some ⟨gl, 0, none⟩) n cl); refine (HL.out _ (by assumption)).mono ?_
       rintro e wL ⟨gL, cL, rfl, hBL, hbL, hFL⟩)
    | (go_at_call_of 31 (Value.slice (some ⟨gn, 0, none⟩) n cn); refine (HNW.out _ (by assumption)).mono ?_
       rintro e wN ⟨gN, cN, rfl, hBN, hbN, hFN⟩)
    | (go_at_call 32; refine (HW.out _ (by assumption)).mono ?_
       rintro e wW ⟨vW, rfl, hBW, hbW, hFW⟩; obtain ⟨aW, cW, rfl, _⟩ := slice_of hBW))
  all_goals
    have a1 := hBL.2.lt gL rfl
    have a2 := hBN.2.lt gN rfl
    have a3 := hbL.size
    have a4 := hbN.size
    have a5 := hbW.size
    have a6 := hFL.size
    have a7 := hFN.size
    have a8 := hFW.size
    clear HS HL HNW HW
    go_wp2
    go_ret
    rw [List.length_map] at hBW
    exact ⟨_, rfl, copy_is HO.out HNN.out hFW (by omega) (((hBL.below hbN).below hbW).mono (by omega)) ((hBN.below hbW).mono (by omega)) (hBW.mono (by omega))⟩
end Go.Proofs.Ytindjkgkdldooaa
