/-
  Layer 17: draft's plan of its own, with a node more.
-/
import Derived.Test.YtdjbjadaldndcaaGreatN2
namespace Go.Proofs.YtdjbjadaldndcaaGreat
open Go.RowKit Go.Shelf Go.Sort Go.Maps

theorem box2_cell {W : World} {B : Nat} {nv ev : Value} (h : W.heap[B]? = some (.cells #[nv, ev] 25 (0, 0))) : W.cell? ⟨B, 0, none⟩ = some nv ∧ W.cell? ⟨B, 1, none⟩ = some ev ∧ W.frozen? ⟨B, 0, none⟩ = false ∧ W.frozen? ⟨B, 1, none⟩ = false := by
  refine ⟨?_, ?_, ?_, ?_⟩ <;> simp [World.cell?, World.frozen?, h]

set_option maxRecDepth 100000 in
set_option maxHeartbeats 1600000 in
theorem cloneN_row {w : World} {b off n cap : Nat} {ao : Option Addr} {xs : List NR} (h : NdE w b off n ao xs) (h0 : n = 0 → ao = none) :
    Calls Tryz.prog 51 #[.slice ao n cap] w fun e w' => (∃ v', e = .returned v' ∧ NdRow w' w.heap.size v' xs) ∧ Below w.heap.size w w' := by
  have hnil : ∀ (wx : World) (a : Option Addr) (n c : Nat), (binOp .eql 22 (.slice a n c) (.slice none 0 0)).run Tryz.prog wx = .ok (.bool a.isNone) wx := fun wx a n c => Lib.run_eql_slice_nil wx _ _ a n c 0 0 Tryz.underlying22
  have hn := h.len
  have hl := h.few
  by_cases hz : n = 0
  · obtain rfl := h0 hz
    subst hz
    obtain rfl : xs = [] := List.eq_nil_of_length_eq_zero hn
    clear h
    go_enter Tryz.func51, Tryz.ntmps51
    go_wp2
    go_ret
    exact ⟨⟨_, rfl, NdRow.nil _ _⟩, Below.refl _ _⟩
  · obtain rfl := h.at' (by omega)
    obtain ⟨i0, hi, hz0, hz1, hz2⟩ := info_parts infoNd
    have hb0 : Below w.heap.size w (w.alloc (.cells #[] 29)) := (Below.refl _ _).alloc (Nat.le_refl _) _
    have hcells : ∀ j u, (ncs xs)[j]? = some u → (w.alloc (.cells #[] 29)).cell? ((⟨b, off, none⟩ : Addr).add j) = some u := fun j u hu => by
      have h1 := h.vals j u hu
      exact (hb0.cell (World.block_lt_of_cell? w _ h1)).trans h1
    have hown : (w.alloc (.cells #[] 29)).ownsRow w.heap.size 29 4 (.slice (some ⟨w.heap.size, 0, none⟩) 0 0) 0 [] := World.ownsRow_lit w #[] 0 (Nat.le_refl _) (by unfold maxLen; omega) (by simp)
    have hlen' : (ncs xs).length = n * 4 := by rw [ncs_len, hn]
    have HOW := hid hown
    have HCE := hid hcells
    have HN := hid hn
    clear hown hcells h hn
    go_enter Tryz.func51, Tryz.ntmps51
    go_wp2_with (at_builtin; refine wpList_append_own _ rfl (.tmp 5) (.tmp 6) 22 rfl w.heap.size 29 i0 _ 4 32 Tryz.underlying22 hi hz0 hz1 hz2 rfl (by decide) (.slice (some ⟨w.heap.size, 0, none⟩) 0 0) 0 [] rfl HOW.out ⟨b, off, none⟩ n cap (ncs xs) rfl hlen' HCE.out ncs_one (by unfold maxLen; omega) (by omega) (by simp) ?_; intro v2 w2 hown2 hgrow2 _; have hB2 : Below w.heap.size w w2 := hb0.grown hgrow2 (by simp) (fun k hk => (HOW.out.lt k hk).1); have HO2 := hid hown2; clear hown2 hgrow2)
    go_ret
    have ho := HO2.out
    rw [Nat.zero_add, List.nil_append] at ho
    have hlx := HN.out
    refine ⟨⟨_, rfl, ?_⟩, hB2⟩
    unfold NdRow
    rw [hlx]
    exact ho

set_option maxRecDepth 100000 in
set_option maxHeartbeats 1600000 in
theorem cloneE_nil (w : World) (ec : Nat) : Calls Tryz.prog 77 #[.slice none 0 ec] w fun e w' => e = .returned (.slice none 0 0) ∧ w' = w := by
  have hnil : ∀ (wx : World) (a : Option Addr) (n c : Nat), (binOp .eql 23 (.slice a n c) (.slice none 0 0)).run Tryz.prog wx = .ok (.bool a.isNone) wx := fun wx a n c => Lib.run_eql_slice_nil wx _ _ a n c 0 0 Tryz.underlying23
  go_enter Tryz.func77, Tryz.ntmps77
  go_wp2
  go_ret
  exact ⟨rfl, rfl⟩

set_option maxRecDepth 100000 in
set_option maxHeartbeats 1600000 in
theorem nodeIDs_any {w : World} {nb noff nl nc : Nat} {no : Option Addr} {ns : List NR} (hd : NdE w nb noff nl no ns) (ev : Value) :
    Calls Tryz.prog 35 #[plV (.slice no nl nc) ev] w fun e w' => (∃ v, e = .returned v ∧ NRow w' w.heap.size v (ns.map (·.id))) ∧ Below w.heap.size w w' := by
  obtain ⟨wP, hwP⟩ : ∃ wP, w.alloc (.cells #[.slice no nl nc, ev] 25) = wP := ⟨_, rfl⟩
  have hbP : Below w.heap.size w wP := by rw [← hwP]; exact (Below.refl _ w).alloc (Nat.le_refl _) _
  have hhP : wP.heap[w.heap.size]? = some (.cells #[.slice no nl nc, ev] 25 (0, 0)) := by rw [← hwP]; exact World.alloc_heap_new w _
  have c0 : wP.cell? ⟨w.heap.size, 0, none⟩ = some (.slice no nl nc) := by simp [World.cell?, hhP]
  have HI := hid (idsN_any (cap := nc) (hd.below hbP))
  have HB := hid hbP
  clear hd hbP hhP
  go_enter Tryz.func35, Tryz.ntmps35
  go_wp2_with (go_at_call 74; refine HI.out.mono ?_; rintro e w1 ⟨⟨v, rfl, hv⟩, hb1⟩; have H1 := hid (And.intro (nrow_toBase hv HB.out.size) (HB.out.trans (hb1.mono HB.out.size))); clear HI hv hb1)
  go_ret
  exact ⟨⟨_, rfl, H1.out.1⟩, H1.out.2⟩

set_option maxRecDepth 100000 in
set_option maxHeartbeats 3200000 in
theorem ofBare_any {w : World} {nb noff nl nc ec : Nat} {no : Option Addr} {ns : List NR} (hd : NdE w nb noff nl no ns) (h0 : nl = 0 → no = none) :
    Calls Tryz.prog 37 #[plV (.slice no nl nc) (.slice none 0 ec)] w fun e w' => (∃ v, e = .returned (plV v (.slice none 0 0)) ∧ NdRow w' w.heap.size v ns) ∧ Below w.heap.size w w' := by
  obtain ⟨wP, hwP⟩ : ∃ wP, w.alloc (.cells #[.slice no nl nc, .slice none 0 ec] 25) = wP := ⟨_, rfl⟩
  have hbP : Below w.heap.size w wP := by rw [← hwP]; exact (Below.refl _ w).alloc (Nat.le_refl _) _
  have hhP : wP.heap[w.heap.size]? = some (.cells #[.slice no nl nc, .slice none 0 ec] 25 (0, 0)) := by rw [← hwP]; exact World.alloc_heap_new w _
  obtain ⟨wR, hwR⟩ : ∃ wR, wP.alloc (.cells #[.slice none 0 0, .slice none 0 0] 25) = wR := ⟨_, rfl⟩
  have hbR : Below wP.heap.size wP wR := by rw [← hwR]; exact (Below.refl _ wP).alloc (Nat.le_refl _) _
  have hhR : wR.heap[wP.heap.size]? = some (.cells #[.slice none 0 0, .slice none 0 0] 25 (0, 0)) := by rw [← hwR]; exact World.alloc_heap_new wP _
  have hhP' := (hbR.block _ (lt_of_heap hhP)).trans hhP
  obtain ⟨c0, c1, c2, c3⟩ := box2_cell hhP'
  obtain ⟨r0, r1, r2, r3⟩ := box2_cell hhR
  have hb : Below w.heap.size w wR := hbP.trans (hbR.mono hbP.size)
  have HN := hid (fun W (hW : Below w.heap.size w W) => cloneN_row (cap := nc) (hd.below hW) h0)
  have HE := hid (fun W c => cloneE_nil W c)
  have HB := hid (And.intro hb (And.intro hhP' (And.intro hhR (show w.heap.size < wP.heap.size from lt_of_heap hhP))))
  clear hd hbP hhP hbR hhR hhP' hb
  go_enter Tryz.func37, Tryz.ntmps37
  go_wp2
  go_region_with (first
    | (go_at_call 51; refine (HN.out _ HB.out.1.drew).mono ?_; rintro e w1 ⟨⟨v, rfl, hv⟩, hb1⟩; obtain ⟨vo, vc, hve, hvc, hvg⟩ := hv.form; subst hve; have HX1 := hid (box2_cell ((hb1.block _ (show w.heap.size < wR.drew.heap.size from lt_of_heap HB.out.2.1)).trans HB.out.2.1)); obtain ⟨x0, x1, x2, x3⟩ := HX1.out; have H1 := hid (And.intro hv (And.intro hb1 hvg)); clear hv hb1 hvc hvg)
    | (go_at_call 77; refine (HE.out _ _).mono ?_; rintro e w2 ⟨rfl, hw⟩; rw [hw]; clear hw w2))
  all_goals (
    obtain ⟨hrow, hbw, hvg⟩ := H1.out
    have hP1 : w1.heap[w.heap.size]? = some (.cells #[.slice no nl nc, .slice none 0 ec] 25 (0, 0)) := (hbw.block _ (show w.heap.size < wR.drew.heap.size from lt_of_heap HB.out.2.1)).trans HB.out.2.1
    have hR1 : w1.heap[wP.heap.size]? = some (.cells #[.slice none 0 0, .slice none 0 0] 25 (0, 0)) := (hbw.block _ (show wP.heap.size < wR.drew.heap.size from lt_of_heap HB.out.2.2.1)).trans HB.out.2.2.1
    have hne : w.heap.size ≠ wP.heap.size := Nat.ne_of_lt HB.out.2.2.2
    have hbP0 : w.heap.size ≤ wP.heap.size ∧ ∀ g, (Value.slice vo ns.length vc).ownBlock = some g → g ≠ wP.heap.size := ⟨Nat.le_of_lt HB.out.2.2.2, fun g hg => by have q1 := (hrow.lt hg).2; have q2 := lt_of_heap HB.out.2.2.1; have q : wR.drew.heap.size = wR.heap.size := rfl; omega⟩
    obtain ⟨V, hV⟩ : ∃ V, (w1.setCell ⟨w.heap.size, 0, none⟩ (.slice vo ns.length vc)).setCell ⟨w.heap.size, 1, none⟩ (.slice none 0 0) = V := ⟨_, rfl⟩
    have hPV : V.heap[w.heap.size]? = some (.cells #[.slice vo ns.length vc, .slice none 0 0] 25 (0, 0)) := by rw [← hV]; exact set1 (set1 hP1 _) _
    have hO : ∀ k, k ≠ w.heap.size → V.heap[k]? = w1.heap[k]? := fun k hk => by rw [← hV]; exact (Below.heap_setCell _ _ _ k hk).trans (Below.heap_setCell _ _ _ k hk)
    have hRV := (hO _ (Ne.symm hne)).trans hR1
    have hrV : NdRow V w.heap.size (.slice vo ns.length vc) ns := (hrow.toBase HB.out.1.size).same fun g hg => hO g (by have := (hrow.lt hg).2; have := lt_of_heap HB.out.2.1; intro e; subst e; have q : wR.drew.heap.size = wR.heap.size := rfl; omega)
    have hbV : Below w.heap.size w V := by rw [← hV]; exact ((HB.out.1.trans (((Below.refl _ wR).drew.trans hbw).mono HB.out.1.size)).setCell (Nat.le_refl _) _).setCell (Nat.le_refl _) _
    obtain ⟨v0, v1, v2, v3⟩ := box2_cell hPV
    obtain ⟨s0, s1, s2, s3⟩ := box2_cell hRV
    rw [hV]
    have HE2 := hid (And.intro hrV (And.intro hbV (And.intro hRV hbP0)))
    clear hV hP1 hR1 hPV hRV hO hrV hbV hrow hbw hvg HX1 x0 x1 x2 x3 c0 c1 c2 c3 r0 r1 r2 r3 H1 HN HE
    go_wp2
    go_loopw [3, 4, 16] (fun _ _ iv wr => iv = .int .i64 0 ∧ wr = V) (fun _ _ _ _ => 0)
    case atStart => exact ⟨rfl, rfl⟩
    case round =>
      obtain ⟨rfl, hwr⟩ := hrel
      rw [hwr]
      clear hwr
      go_wp2
      obtain ⟨hrV, hbV, hRV, hle, hgg⟩ := HE2.out
      obtain ⟨U, hU⟩ : ∃ U, (V.setCell ⟨wP.heap.size, 0, none⟩ (.slice vo ns.length vc)).setCell ⟨wP.heap.size, 1, none⟩ (.slice none 0 0) = U := ⟨_, rfl⟩
      have hRU : U.heap[wP.heap.size]? = some (.cells #[.slice vo ns.length vc, .slice none 0 0] 25 (0, 0)) := by rw [← hU]; exact set1 (set1 hRV _) _
      have hO2 : ∀ k, k ≠ wP.heap.size → U.heap[k]? = V.heap[k]? := fun k hk => by rw [← hU]; exact (Below.heap_setCell _ _ _ k hk).trans (Below.heap_setCell _ _ _ k hk)
      have hbU : Below w.heap.size w U := by rw [← hU]; exact (hbV.setCell hle _).setCell hle _
      have hrU := hrV.same fun g hg => hO2 g (hgg g hg)
      obtain ⟨u0, u1, _, _⟩ := box2_cell hRU
      rw [hU]
      clear hU hRU hO2 hrV hRV hbV
      (try simp only [Exit.inBlock, Exit.then])
      refine bodyPost_ret (v := plV (.slice vo ns.length vc) (.slice none 0 0)) (by simp [results, Tryz.results37, go_sem, u0, u1]) rfl ?_
      exact ⟨⟨_, rfl, hrU⟩, hbU⟩)
end Go.Proofs.YtdjbjadaldndcaaGreat
