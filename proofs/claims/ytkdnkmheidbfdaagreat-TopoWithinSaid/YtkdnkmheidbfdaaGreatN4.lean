/-
  Layer 17: draft's plan of its own, with a node more.
-/
import Derived.Test.YtkdnkmheidbfdaaGreatN2
import Derived.Deep.CutRange
import Derived.Test.YtkdnkmheidbfdaaGreatMB
namespace Go.Proofs.YtkdnkmheidbfdaaGreat
open Go.RowKit Go.Shelf Go.Sort Go.Maps

theorem box2_cell {W : World} {B : Nat} {nv ev : Value} (h : W.heap[B]? = some (.cells #[nv, ev] 32 (0, 0))) : W.cell? ⟨B, 0, none⟩ = some nv ∧ W.cell? ⟨B, 1, none⟩ = some ev ∧ W.frozen? ⟨B, 0, none⟩ = false ∧ W.frozen? ⟨B, 1, none⟩ = false := by
  refine ⟨?_, ?_, ?_, ?_⟩ <;> simp [World.cell?, World.frozen?, h]

set_option maxRecDepth 100000 in
set_option maxHeartbeats 1600000 in
theorem cloneN_row {w : World} {b off n cap : Nat} {ao : Option Addr} {xs : List NR} (h : NdE w b off n ao xs) (h0 : n = 0 → ao = none) :
    Calls Tryz.prog 37 #[.slice ao n cap] w fun e w' => (∃ v', e = .returned v' ∧ NdRow w' w.heap.size v' xs) ∧ Below w.heap.size w w' := by
  have hnil : ∀ (wx : World) (a : Option Addr) (n c : Nat), (binOp .eql 26 (.slice a n c) (.slice none 0 0)).run Tryz.prog wx = .ok (.bool a.isNone) wx := fun wx a n c => Lib.run_eql_slice_nil wx _ _ a n c 0 0 Tryz.underlying26
  have hn := h.len
  have hl := h.few
  by_cases hz : n = 0
  · obtain rfl := h0 hz
    subst hz
    obtain rfl : xs = [] := List.eq_nil_of_length_eq_zero hn
    clear h
    go_enter Tryz.func37, Tryz.ntmps37
    go_wp2
    go_ret
    exact ⟨⟨_, rfl, NdRow.nil _ _⟩, Below.refl _ _⟩
  · obtain rfl := h.at' (by omega)
    obtain ⟨i0, hi, hz0, hz1, hz2⟩ := info_parts infoNd
    have hb0 : Below w.heap.size w (w.alloc (.cells #[] 25)) := (Below.refl _ _).alloc (Nat.le_refl _) _
    have hcells : ∀ j u, (ncs xs)[j]? = some u → (w.alloc (.cells #[] 25)).cell? ((⟨b, off, none⟩ : Addr).add j) = some u := fun j u hu => by
      have h1 := h.vals j u hu
      exact (hb0.cell (World.block_lt_of_cell? w _ h1)).trans h1
    have hown : (w.alloc (.cells #[] 25)).ownsRow w.heap.size 25 4 (.slice (some ⟨w.heap.size, 0, none⟩) 0 0) 0 [] := World.ownsRow_lit w #[] 0 (Nat.le_refl _) (by unfold maxLen; omega) (by simp)
    have hlen' : (ncs xs).length = n * 4 := by rw [ncs_len, hn]
    have HOW := hid hown
    have HCE := hid hcells
    have HN := hid hn
    clear hown hcells h hn
    go_enter Tryz.func37, Tryz.ntmps37
    go_wp2_with (at_builtin; refine wpList_append_own _ rfl (.tmp 5) (.tmp 6) 26 rfl w.heap.size 25 i0 _ 4 32 Tryz.underlying26 hi hz0 hz1 hz2 rfl (by decide) (.slice (some ⟨w.heap.size, 0, none⟩) 0 0) 0 [] rfl HOW.out ⟨b, off, none⟩ n cap (ncs xs) rfl hlen' HCE.out ncs_one (by unfold maxLen; omega) (by omega) (by simp) ?_; intro v2 w2 hown2 hgrow2 _; have hB2 : Below w.heap.size w w2 := hb0.grown hgrow2 (by simp) (fun k hk => (HOW.out.lt k hk).1); have HO2 := hid hown2; clear hown2 hgrow2)
    go_ret
    have ho := HO2.out
    rw [Nat.zero_add, List.nil_append] at ho
    have hlx := HN.out
    refine ⟨⟨_, rfl, ?_⟩, hB2⟩
    unfold NdRow
    rw [hlx]
    exact ho

set_option maxRecDepth 100000 in
set_option maxHeartbeats 1600000 in
theorem cloneE_nil (w : World) (ec : Nat) : Calls Tryz.prog 38 #[.slice none 0 ec] w fun e w' => e = .returned (.slice none 0 0) ∧ w' = w := by
  have hnil : ∀ (wx : World) (a : Option Addr) (n c : Nat), (binOp .eql 30 (.slice a n c) (.slice none 0 0)).run Tryz.prog wx = .ok (.bool a.isNone) wx := fun wx a n c => Lib.run_eql_slice_nil wx _ _ a n c 0 0 Tryz.underlying30
  go_enter Tryz.func38, Tryz.ntmps38
  go_wp2
  go_ret
  exact ⟨rfl, rfl⟩

set_option maxRecDepth 100000 in
set_option maxHeartbeats 1600000 in
theorem nodeIDs_any {w : World} {nb noff nl nc : Nat} {no : Option Addr} {ns : List NR} (hd : NdE w nb noff nl no ns) (ev : Value) :
    Calls Tryz.prog 14 #[plV (.slice no nl nc) ev] w fun e w' => (∃ v, e = .returned v ∧ NRow w' w.heap.size v (ns.map (·.id))) ∧ Below w.heap.size w w' := by
  obtain ⟨wP, hwP⟩ : ∃ wP, w.alloc (.cells #[.slice no nl nc, ev] 32) = wP := ⟨_, rfl⟩
  have hbP : Below w.heap.size w wP := by rw [← hwP]; exact (Below.refl _ w).alloc (Nat.le_refl _) _
  have hhP : wP.heap[w.heap.size]? = some (.cells #[.slice no nl nc, ev] 32 (0, 0)) := by rw [← hwP]; exact World.alloc_heap_new w _
  have c0 : wP.cell? ⟨w.heap.size, 0, none⟩ = some (.slice no nl nc) := by simp [World.cell?, hhP]
  have HI := hid (idsN_any (cap := nc) (hd.below hbP))
  have HB := hid hbP
  clear hd hbP hhP
  go_enter Tryz.func14, Tryz.ntmps14
  go_wp2_with (go_at_call 34; refine HI.out.mono ?_; rintro e w1 ⟨⟨v, rfl, hv⟩, hb1⟩; have H1 := hid (And.intro (nrow_toBase hv HB.out.size) (HB.out.trans (hb1.mono HB.out.size))); clear HI hv hb1)
  go_ret
  exact ⟨⟨_, rfl, H1.out.1⟩, H1.out.2⟩

set_option maxRecDepth 100000 in
set_option maxHeartbeats 3200000 in
theorem ofBare_any {w : World} {nb noff nl nc ec : Nat} {no : Option Addr} {ns : List NR} (hd : NdE w nb noff nl no ns) (h0 : nl = 0 → no = none) :
    Calls Tryz.prog 16 #[plV (.slice no nl nc) (.slice none 0 ec)] w fun e w' => (∃ v, e = .returned (plV v (.slice none 0 0)) ∧ NdRow w' w.heap.size v ns) ∧ Below w.heap.size w w' := by
  obtain ⟨wP, hwP⟩ : ∃ wP, w.alloc (.cells #[.slice no nl nc, .slice none 0 ec] 32) = wP := ⟨_, rfl⟩
  have hbP : Below w.heap.size w wP := by rw [← hwP]; exact (Below.refl _ w).alloc (Nat.le_refl _) _
  have hhP : wP.heap[w.heap.size]? = some (.cells #[.slice no nl nc, .slice none 0 ec] 32 (0, 0)) := by rw [← hwP]; exact World.alloc_heap_new w _
  obtain ⟨wR, hwR⟩ : ∃ wR, wP.alloc (.cells #[.slice none 0 0, .slice none 0 0] 32) = wR := ⟨_, rfl⟩
  have hbR : Below wP.heap.size wP wR := by rw [← hwR]; exact (Below.refl _ wP).alloc (Nat.le_refl _) _
  have hhR : wR.heap[wP.heap.size]? = some (.cells #[.slice none 0 0, .slice none 0 0] 32 (0, 0)) := by rw [← hwR]; exact World.alloc_heap_new wP _
  have hhP' := (hbR.block _ (lt_of_heap hhP)).trans hhP
  obtain ⟨c0, c1, c2, c3⟩ := box2_cell hhP'
  obtain ⟨r0, r1, r2, r3⟩ := box2_cell hhR
  have hb : Below w.heap.size w wR := hbP.trans (hbR.mono hbP.size)
  have HN := hid (fun W (hW : Below w.heap.size w W) => cloneN_row (cap := nc) (hd.below hW) h0)
  have HE := hid (fun W c => cloneE_nil W c)
  have HB := hid (And.intro hb (And.intro hhP' (And.intro hhR (show w.heap.size < wP.heap.size from lt_of_heap hhP))))
  clear hd hbP hhP hbR hhR hhP' hb
  go_enter Tryz.func16, Tryz.ntmps16
  go_wp2
  go_region_with (first
    | (go_at_call 37; refine (HN.out _ HB.out.1.drew).mono ?_; rintro e w1 ⟨⟨v, rfl, hv⟩, hb1⟩; obtain ⟨vo, vc, hve, hvc, hvg⟩ := hv.form; subst hve; have HX1 := hid (box2_cell ((hb1.block _ (show w.heap.size < wR.drew.heap.size from lt_of_heap HB.out.2.1)).trans HB.out.2.1)); obtain ⟨x0, x1, x2, x3⟩ := HX1.out; have H1 := hid (And.intro hv (And.intro hb1 hvg)); clear hv hb1 hvc hvg)
    | (go_at_call 38; refine (HE.out _ _).mono ?_; rintro e w2 ⟨rfl, hw⟩; rw [hw]; clear hw w2))
  all_goals (
    obtain ⟨hrow, hbw, hvg⟩ := H1.out
    have hP1 : w1.heap[w.heap.size]? = some (.cells #[.slice no nl nc, .slice none 0 ec] 32 (0, 0)) := (hbw.block _ (show w.heap.size < wR.drew.heap.size from lt_of_heap HB.out.2.1)).trans HB.out.2.1
    have hR1 : w1.heap[wP.heap.size]? = some (.cells #[.slice none 0 0, .slice none 0 0] 32 (0, 0)) := (hbw.block _ (show wP.heap.size < wR.drew.heap.size from lt_of_heap HB.out.2.2.1)).trans HB.out.2.2.1
    have hne : w.heap.size ≠ wP.heap.size := Nat.ne_of_lt HB.out.2.2.2
    have hbP0 : w.heap.size ≤ wP.heap.size ∧ ∀ g, (Value.slice vo ns.length vc).ownBlock = some g → g ≠ wP.heap.size := ⟨Nat.le_of_lt HB.out.2.2.2, fun g hg => by have q1 := (hrow.lt hg).2; have q2 := lt_of_heap HB.out.2.2.1; have q : wR.drew.heap.size = wR.heap.size := rfl; omega⟩
    obtain ⟨V, hV⟩ : ∃ V, (w1.setCell ⟨w.heap.size, 0, none⟩ (.slice vo ns.length vc)).setCell ⟨w.heap.size, 1, none⟩ (.slice none 0 0) = V := ⟨_, rfl⟩
    have hPV : V.heap[w.heap.size]? = some (.cells #[.slice vo ns.length vc, .slice none 0 0] 32 (0, 0)) := by rw [← hV]; exact set1 (set1 hP1 _) _
    have hO : ∀ k, k ≠ w.heap.size → V.heap[k]? = w1.heap[k]? := fun k hk => by rw [← hV]; exact (Below.heap_setCell _ _ _ k hk).trans (Below.heap_setCell _ _ _ k hk)
    have hRV := (hO _ (Ne.symm hne)).trans hR1
    have hrV : NdRow V w.heap.size (.slice vo ns.length vc) ns := (hrow.toBase HB.out.1.size).same fun g hg => hO g (by have := (hrow.lt hg).2; have := lt_of_heap HB.out.2.1; intro e; subst e; have q : wR.drew.heap.size = wR.heap.size := rfl; omega)
    have hbV : Below w.heap.size w V := by rw [← hV]; exact ((HB.out.1.trans (((Below.refl _ wR).drew.trans hbw).mono HB.out.1.size)).setCell (Nat.le_refl _) _).setCell (Nat.le_refl _) _
    obtain ⟨v0, v1, v2, v3⟩ := box2_cell hPV
    obtain ⟨s0, s1, s2, s3⟩ := box2_cell hRV
    rw [hV]
    have HE2 := hid (And.intro hrV (And.intro hbV (And.intro hRV hbP0)))
    clear hV hP1 hR1 hPV hRV hO hrV hbV hrow hbw hvg HX1 x0 x1 x2 x3 c0 c1 c2 c3 r0 r1 r2 r3 H1 HN HE
    go_wp2
    go_loopw [3, 4, 16] (fun _ _ iv wr => iv = .int .i64 0 ∧ wr = V) (fun _ _ _ _ => 0)
    case atStart => exact ⟨rfl, rfl⟩
    case round =>
      obtain ⟨rfl, hwr⟩ := hrel
      rw [hwr]
      clear hwr
      go_wp2
      obtain ⟨hrV, hbV, hRV, hle, hgg⟩ := HE2.out
      obtain ⟨U, hU⟩ : ∃ U, (V.setCell ⟨wP.heap.size, 0, none⟩ (.slice vo ns.length vc)).setCell ⟨wP.heap.size, 1, none⟩ (.slice none 0 0) = U := ⟨_, rfl⟩
      have hRU : U.heap[wP.heap.size]? = some (.cells #[.slice vo ns.length vc, .slice none 0 0] 32 (0, 0)) := by rw [← hU]; exact set1 (set1 hRV _) _
      have hO2 : ∀ k, k ≠ wP.heap.size → U.heap[k]? = V.heap[k]? := fun k hk => by rw [← hU]; exact (Below.heap_setCell _ _ _ k hk).trans (Below.heap_setCell _ _ _ k hk)
      have hbU : Below w.heap.size w U := by rw [← hU]; exact (hbV.setCell hle _).setCell hle _
      have hrU := hrV.same fun g hg => hO2 g (hgg g hg)
      obtain ⟨u0, u1, _, _⟩ := box2_cell hRU
      rw [hU]
      clear hU hRU hO2 hrV hRV hbV
      (try simp only [Exit.inBlock, Exit.then])
      refine bodyPost_ret (v := plV (.slice vo ns.length vc) (.slice none 0 0)) (by simp [results, Tryz.results16, go_sem, u0, u1]) rfl ?_
      exact ⟨⟨_, rfl, hrU⟩, hbU⟩)
end Go.Proofs.YtkdnkmheidbfdaaGreat

namespace Go.Proofs.YtkdnkmheidbfdaaGreat
open Go.RowKit Go.Shelf Go.Sort Go.Maps

set_option maxRecDepth 100000 in
set_option maxHeartbeats 3200000 in
theorem withNode_any {w : World} {base n cap : Nat} {ao : Option Addr} {xs : List NR} (h : NdRow w base (.slice ao n cap) xs) (hn : xs.length = n) (hb : base ≤ w.heap.size) (hl : n ≤ 1000) (x : NR) (hx : ∀ y ∈ xs, y.id ≤ x.id) :
    Calls Tryz.prog 15 #[plV (.slice ao n cap) (.slice none 0 0), nrV x] w fun e w' => (∃ v, e = .returned (plV v (.slice none 0 0)) ∧ NdRow w' base v (xs ++ [x])) ∧ Below base w w' := by
  obtain ⟨wP, hwP⟩ : ∃ wP, w.alloc (.cells #[.slice ao n cap, .slice none 0 0] 32) = wP := ⟨_, rfl⟩
  have hbP : Below w.heap.size w wP := by rw [← hwP]; exact (Below.refl _ w).alloc (Nat.le_refl _) _
  have hhP : wP.heap[w.heap.size]? = some (.cells #[.slice ao n cap, .slice none 0 0] 32 (0, 0)) := by rw [← hwP]; exact World.alloc_heap_new w _
  obtain ⟨wQ, hwQ⟩ : ∃ wQ, wP.alloc (nrO x) = wQ := ⟨_, rfl⟩
  have hbQ : Below wP.heap.size wP wQ := by rw [← hwQ]; exact (Below.refl _ wP).alloc (Nat.le_refl _) _
  have hhQ : wQ.heap[wP.heap.size]? = some (nrO x) := by rw [← hwQ]; exact World.alloc_heap_new wP _
  obtain ⟨wR, hwR⟩ : ∃ wR, wQ.alloc (.cells #[.slice none 0 0, .slice none 0 0] 32) = wR := ⟨_, rfl⟩
  have hbR : Below wQ.heap.size wQ wR := by rw [← hwR]; exact (Below.refl _ wQ).alloc (Nat.le_refl _) _
  have hhR : wR.heap[wQ.heap.size]? = some (.cells #[.slice none 0 0, .slice none 0 0] 32 (0, 0)) := by rw [← hwR]; exact World.alloc_heap_new wQ _
  have l1 : w.heap.size < wP.heap.size := lt_of_heap hhP
  have l2 : wP.heap.size < wQ.heap.size := lt_of_heap hhQ
  have l3 : wQ.heap.size < wR.heap.size := lt_of_heap hhR
  have hhQ' := (hbR.block _ l2).trans hhQ
  have hhP' := (hbR.block _ (by omega)).trans ((hbQ.block _ l1).trans hhP)
  obtain ⟨c0, c1, c2, c3⟩ := box2_cell hhP'
  obtain ⟨q0, q1, q2, q3⟩ := nr_cells hhQ'
  simp only [Nat.zero_add] at q1 q2 q3
  have hbw : Below w.heap.size w wR := hbP.trans ((hbQ.mono hbP.size).trans (hbR.mono (Nat.le_trans hbP.size hbQ.size)))
  have HI := hid (insertN_any (h.below hbw) hn (by omega) hl x hx)
  have HB := hid (And.intro hbw (And.intro hhP' (And.intro hhR (And.intro l1 (And.intro l2 l3)))))
  have hL : (xs ++ [x]).length = n + 1 := by rw [List.length_append, hn]; rfl
  have HG := hid (show ∀ k, (Value.slice ao n cap).ownBlock = some k → k < w.heap.size from fun k hk => (h.lt hk).1)
  clear hbP hhP hbQ hhQ hbR hhR hhQ' hhP' h hx hbw
  go_enter Tryz.func15, Tryz.ntmps15
  go_wp2_with (go_at_call 36; refine HI.out.mono ?_; rintro e w1 ⟨⟨v, rfl, hv, hk1⟩, hb1⟩; obtain ⟨vo, vc, hve, hvc, hvg⟩ := hv.form; rw [hL] at hve hvc hvg; subst hve; have hne : ∀ k, w.heap.size ≤ k → (Value.slice ao n cap).ownBlock ≠ some k := (fun k hk e => by have := HG.out k e; omega); have hP1 := (hk1.keep w.heap.size (by omega) (hne _ (Nat.le_refl _))).trans HB.out.2.1; have hR1 := (hk1.keep wQ.heap.size (by omega) (hne _ (by omega))).trans HB.out.2.2.1; clear c0 c1 c2 c3 q0 q1 q2 q3; obtain ⟨c0, c1, c2, c3⟩ := box2_cell hP1; obtain ⟨r0, r1, r2, r3⟩ := box2_cell hR1; have e1 : ¬ w.heap.size = wQ.heap.size := (by omega); have e2 : ¬ wQ.heap.size = w.heap.size := (by omega); have H1 := hid (And.intro hv (And.intro hb1 (And.intro hP1 (And.intro hR1 hk1)))); clear HI hv hb1 hk1 hvc hvg hne hP1 hR1)
  obtain ⟨hv, hb1, hP1, hR1, hk1⟩ := H1.out
  obtain ⟨V, hV⟩ : ∃ V, w1.setCell ⟨w.heap.size, 0, none⟩ (.slice vo (n + 1) vc) = V := ⟨_, rfl⟩
  obtain ⟨U, hU⟩ : ∃ U, (V.setCell ⟨wQ.heap.size, 0, none⟩ (.slice vo (n + 1) vc)).setCell ⟨wQ.heap.size, 1, none⟩ (.slice none 0 0) = U := ⟨_, rfl⟩
  have hO : ∀ k, k ≠ w.heap.size → V.heap[k]? = w1.heap[k]? := fun k hk => by rw [← hV]; exact Below.heap_setCell _ _ _ k hk
  have hRU : U.heap[wQ.heap.size]? = some (.cells #[.slice vo (n + 1) vc, .slice none 0 0] 32 (0, 0)) := by rw [← hU]; exact set1 (set1 ((hO _ e2).trans hR1) _) _
  have hO2 : ∀ k, k ≠ wQ.heap.size → U.heap[k]? = V.heap[k]? := fun k hk => by rw [← hU]; exact (Below.heap_setCell _ _ _ k hk).trans (Below.heap_setCell _ _ _ k hk)
  have hbw := HB.out.1
  have hq : base ≤ wQ.heap.size := by omega
  have hbU : Below base w U := by rw [← hU, ← hV]; exact ((((hbw.mono hb).trans hb1).setCell hb _).setCell hq _).setCell hq _
  have hrU : NdRow U base (.slice vo (n + 1) vc) (xs ++ [x]) := hv.same fun g hg => (hO2 g (by rcases hk1.own g hg with q | q; have := HG.out g q; omega; omega)).trans (hO g (by rcases hk1.own g hg with q | q; have := HG.out g q; omega; omega))
  obtain ⟨u0, u1, _, _⟩ := box2_cell hRU
  rw [hV, hU]
  clear hU hV hRU hO hO2 hv hb1 hP1 hR1 hk1
  (try simp only [Exit.inBlock, Exit.then])
  refine bodyPost_ret (v := plV (.slice vo (n + 1) vc) (.slice none 0 0)) (by simp [results, Tryz.results15, go_sem, u0, u1]) rfl ?_
  exact ⟨⟨_, rfl, hrU⟩, hbU⟩
end Go.Proofs.YtkdnkmheidbfdaaGreat

namespace Go.Proofs.YtkdnkmheidbfdaaGreat
open Go.RowKit Go.Shelf Go.Sort Go.Maps

theorem nr_box {W : World} {b : Nat} {n : NR} (h : W.heap[b]? = some (nrO n)) : (W.cell? ⟨b, 0, none⟩ = some (.int .i64 n.id) ∧ W.cell? ⟨b, 1, none⟩ = some (.int .i64 n.x) ∧ W.cell? ⟨b, 2, none⟩ = some (.int .i64 n.y) ∧ W.cell? ⟨b, 3, none⟩ = some (.int .i64 n.fc)) ∧ ∀ j, W.frozen? ⟨b, j, none⟩ = false := by
  refine ⟨⟨?_, ?_, ?_, ?_⟩, fun j => ?_⟩ <;> simp [World.cell?, World.frozen?, h]

set_option maxRecDepth 100000 in
set_option maxHeartbeats 6400000 in
theorem addNode_bare {w : World} {nb noff nl nc ec : Nat} {no : Option Addr} {ns : List NR} (hd : NdE w nb noff nl no ns) (h0 : nl = 0 → no = none) (hi : ∀ x ∈ ns, -1000000 ≤ x.id ∧ x.id ≤ 1000000) (hr : RiseN ns) {qx qy : Int} (hq : okP qx qy = true) (ht : ns.any (atN qx qy) = false) (hl : nl < 200) (hu : ∀ y ∈ ns, y.id ≤ unL (ns.map (·.id))) :
    Calls Tryz.prog 6 #[plV (.slice no nl nc) (.slice none 0 ec), pv qx qy] w fun e w' => (∃ v, e = .returned (.tuple #[plV v (.slice none 0 0), .int .i64 (unL (ns.map (·.id))), .int .i64 0]) ∧ NdRow w' w.heap.size v (ns ++ [⟨unL (ns.map (·.id)), qx, qy, 0⟩])) ∧ Below w.heap.size w w' := by
  obtain ⟨wP, hwP⟩ : ∃ wP, w.alloc (.cells #[.slice no nl nc, .slice none 0 ec] 32) = wP := ⟨_, rfl⟩
  have hbP : Below w.heap.size w wP := by rw [← hwP]; exact (Below.refl _ w).alloc (Nat.le_refl _) _
  have hhP : wP.heap[w.heap.size]? = some (.cells #[.slice no nl nc, .slice none 0 ec] 32 (0, 0)) := by rw [← hwP]; exact World.alloc_heap_new w _
  obtain ⟨wQ, hwQ⟩ : ∃ wQ, wP.alloc (.cells #[.int .i64 qx, .int .i64 qy] 23) = wQ := ⟨_, rfl⟩
  have hbQ : Below wP.heap.size wP wQ := by rw [← hwQ]; exact (Below.refl _ wP).alloc (Nat.le_refl _) _
  have hhQ : wQ.heap[wP.heap.size]? = some (.cells #[.int .i64 qx, .int .i64 qy] 23 (0, 0)) := by rw [← hwQ]; exact World.alloc_heap_new wP _
  obtain ⟨wR, hwR⟩ : ∃ wR, wQ.alloc (.cells #[.slice none 0 0, .slice none 0 0] 32) = wR := ⟨_, rfl⟩
  have hbR : Below wQ.heap.size wQ wR := by rw [← hwR]; exact (Below.refl _ wQ).alloc (Nat.le_refl _) _
  have hhR : wR.heap[wQ.heap.size]? = some (.cells #[.slice none 0 0, .slice none 0 0] 32 (0, 0)) := by rw [← hwR]; exact World.alloc_heap_new wQ _
  have l1 : w.heap.size < wP.heap.size := lt_of_heap hhP
  have l2 : wP.heap.size < wQ.heap.size := lt_of_heap hhQ
  have l3 : wQ.heap.size < wR.heap.size := lt_of_heap hhR
  have hhQ' := (hbR.block _ l2).trans hhQ
  have hhP' := (hbR.block _ (by omega)).trans ((hbQ.block _ l1).trans hhP)
  have BX : ∀ W, Below wR.heap.size wR W → W.heap[w.heap.size]? = some (.cells #[.slice no nl nc, .slice none 0 ec] 32 (0, 0)) ∧ W.heap[wP.heap.size]? = some (.cells #[.int .i64 qx, .int .i64 qy] 23 (0, 0)) ∧ W.heap[wQ.heap.size]? = some (.cells #[.slice none 0 0, .slice none 0 0] 32 (0, 0)) := fun W hW => ⟨(hW.block _ (by omega)).trans hhP', (hW.block _ (by omega)).trans hhQ', (hW.block _ (by omega)).trans hhR⟩
  have HS := hid (show ∀ W, Below wR.heap.size wR W → W.cell? ⟨w.heap.size, 0, none⟩ = some (.slice no nl nc) ∧ W.cell? ⟨w.heap.size, 1, none⟩ = some (.slice none 0 ec) ∧ W.cell? ⟨wP.heap.size, 0, none⟩ = some (.int .i64 qx) ∧ W.cell? ⟨wP.heap.size, 1, none⟩ = some (.int .i64 qy) from fun W hW => by
    obtain ⟨b1, b2, _⟩ := BX W hW
    exact ⟨(box2_cell b1).1, (box2_cell b1).2.1, by simp [World.cell?, b2], by simp [World.cell?, b2]⟩)
  obtain ⟨c0, c1, _, _⟩ := box2_cell hhP'
  have q0 : wR.cell? ⟨wP.heap.size, 0, none⟩ = some (.int .i64 qx) := by simp [World.cell?, hhQ']
  have q1 : wR.cell? ⟨wP.heap.size, 1, none⟩ = some (.int .i64 qy) := by simp [World.cell?, hhQ']
  have hbw : Below w.heap.size w wR := hbP.trans ((hbQ.mono hbP.size).trans (hbR.mono (Nat.le_trans hbP.size hbQ.size)))
  have HB := hid (And.intro hbw BX)
  have HOK := hid (fun W => ok_any qx qy W)
  rw [hq] at HOK
  have HFA := hid (fun W (hW : Below wR.heap.size wR W) => topoFaceAt_bare (ec := ec) (nc := nc) (hd.below (hbw.trans (hW.mono hbw.size))) h0 hi hr qx qy)
  rw [ht] at HFA
  have HNI := hid (fun W (hW : Below wR.heap.size wR W) => (nodeIDs_any (nc := nc) (hd.below (hbw.trans (hW.mono hbw.size))) (.slice none 0 ec)).mono (R' := fun e w' => (∃ v, e = .returned v ∧ NRow w' W.heap.size v (ns.map (·.id))) ∧ Below wR.heap.size wR w' ∧ Below W.heap.size W w') fun e w' h => ⟨h.1, hW.trans (h.2.mono hW.size), h.2⟩)
  have HUN := hid (fun W v (hW : Below wR.heap.size wR W) (hv : Nums W v (ns.map (·.id))) => (unused_any hv (by rw [List.length_map, hd.len]; omega)).mono (R' := fun e w' => e = .returned (.int .i64 (unL (ns.map (·.id)))) ∧ Below wR.heap.size wR w' ∧ Below W.heap.size W w') fun e w' h => ⟨h.1, hW.trans (h.2.mono hW.size), h.2⟩)
  have HOF := hid (fun W (hW : Below wR.heap.size wR W) => ofBare_any (ec := ec) (nc := nc) (hd.below (hbw.trans (hW.mono hbw.size))) h0)
  have hlen := hd.len
  obtain ⟨I, hI⟩ : ∃ I, unL (ns.map (·.id)) = I := ⟨_, rfl⟩
  rw [hI] at HUN hu ⊢
  have HU := hid hu
  have hl200 : ¬ (200 : Int) ≤ (nl : Int) := by omega
  generalize ns.map (·.id) = IDS at HNI HUN
  clear hd hi hr hbP hhP hbQ hhQ hbR hhR hhQ' hhP' BX hbw hq ht hu hI
  go_enter Tryz.func6, Tryz.ntmps6
  go_wp2_with (first
    | (go_at_call 11; refine (HOK.out _).mono ?_; rintro e w1 ⟨rfl, hb1⟩; have H1 := hid hb1; have d0 := cell_below c0 hb1 (lt_of_cell c0); have d1 := cell_below c1 hb1 (lt_of_cell c1); have p0 := cell_below q0 hb1 (lt_of_cell q0); have p1 := cell_below q1 hb1 (lt_of_cell q1); clear HOK hb1 c0 c1 q0 q1)
    | (go_at_call 12; refine (HFA.out _ H1.out).mono ?_; rintro e w2 ⟨rfl, hb2⟩; have H2 := hid (H1.out.trans (hb2.mono H1.out.size)); have e0 := cell_below d0 hb2 (lt_of_cell d0); have e1 := cell_below d1 hb2 (lt_of_cell d1); have r0 := cell_below p0 hb2 (lt_of_cell p0); have r1 := cell_below p1 hb2 (lt_of_cell p1); clear HFA hb2 d0 d1 p0 p1))
  go_cut [9] from 28 to 33 (fun s9 wx => ∃ bn, s9 = .pointer (some ⟨bn, 0, none⟩) ∧ Hid (wx.heap[bn]? = some (nrO ⟨I, qx, qy, 0⟩) ∧ wR.heap.size ≤ bn ∧ Below wR.heap.size wR wx))
  case first =>
    go_region_held (fun w' => w'.cell? ⟨w.heap.size, 0, none⟩ = some (.slice no nl nc) ∧ w'.cell? ⟨w.heap.size, 1, none⟩ = some (.slice none 0 ec) ∧ w'.cell? ⟨wP.heap.size, 0, none⟩ = some (.int .i64 qx) ∧ w'.cell? ⟨wP.heap.size, 1, none⟩ = some (.int .i64 qy)) (first | exact ⟨e0, e1, r0, r1⟩ | exact HS.out _ H2.out.drew | exact HS.out _ (H2.out.drew.alloc H2.out.size _) | exact HS.out _ H3.out.2 | exact HS.out _ (H3.out.2.alloc H3.out.2.size _) | exact HS.out _ H4.out | exact HS.out _ (H4.out.alloc H4.out.size _) | exact HS.out _ ((((H4.out.setCell HL.out _).setCell HL.out _).setCell HL.out _).setCell HL.out _) | exact HS.out _ (((((H4.out.alloc H4.out.size _).setCell H4.out.size _).setCell H4.out.size _).setCell H4.out.size _).setCell H4.out.size _)) (first
      | (go_at_call 14; refine (HNI.out w2.drew H2.out.drew).mono ?_; rintro e w3 ⟨⟨v, rfl, hv⟩, hb3, hc3⟩; obtain ⟨vo, vc, hve⟩ := hv.form; subst hve; have H3 := hid (And.intro hv.nums hb3); obtain ⟨f0, f1, _, _⟩ := box2_cell (HB.out.2 _ hb3).1; clear hv hb3 hc3)
      | (go_at_call 14; refine (HNI.out (w2.drew.alloc (nrO ⟨0, 0, 0, 0⟩)) (H2.out.drew.alloc H2.out.size _)).mono ?_; rintro e w3 ⟨⟨v, rfl, hv⟩, hb3, hc3⟩; obtain ⟨vo, vc, hve⟩ := hv.form; subst hve; have H3 := hid (And.intro hv.nums hb3); have hZ := hid ((hc3.block w2.heap.size (by simp)).trans (World.alloc_heap_new w2.drew _)); clear hv hb3 hc3)
      | (go_at_call 13; refine (HUN.out w3 _ H3.out.2 H3.out.1).mono ?_; rintro e w4 ⟨rfl, hb4, hc4⟩; have H4 := hid hb4; (first | (have hY := (hc4.block w2.heap.size (lt_of_heap hZ.out)).trans hZ.out; obtain ⟨⟨z0, z1, z2, z3⟩, zf⟩ := nr_box hY; have HY := hid hY; have HL := hid H2.out.size; clear hY) | skip); clear hb4 hc4)
      | (go_at_call 13; refine (HUN.out (w3.alloc (nrO ⟨0, 0, 0, 0⟩)) _ (H3.out.2.alloc H3.out.2.size _) (H3.out.1.below ((Below.refl _ w3).alloc (Nat.le_refl _) _))).mono ?_; rintro e w4 ⟨rfl, hb4, hc4⟩; have H4 := hid hb4; have hY := (hc4.block w3.heap.size (by simp)).trans (World.alloc_heap_new w3 _); obtain ⟨⟨z0, z1, z2, z3⟩, zf⟩ := nr_box hY; have HY := hid hY; have HL := hid H3.out.2.size; clear hY hb4 hc4))
    all_goals (go_wp2; go_meet)
    · exact ⟨_, rfl, hid ⟨World.alloc_heap_new _ _, H4.out.size, H4.out.alloc H4.out.size _⟩⟩
    · exact ⟨_, rfl, hid ⟨set1 (set1 (set1 (set1 HY.out _) _) _) _, HL.out, (((H4.out.setCell HL.out _).setCell HL.out _).setCell HL.out _).setCell HL.out _⟩⟩
    · exact ⟨_, rfl, hid ⟨set1 (set1 (set1 (set1 HY.out _) _) _) _, HL.out, (((H4.out.setCell HL.out _).setCell HL.out _).setCell HL.out _).setCell HL.out _⟩⟩
  case rest =>
    obtain ⟨bn, rfl, hN⟩ := hcut
    have hbc := hN.out.2.2
    have hbnl : bn < wc.heap.size := lt_of_heap hN.out.1
    obtain ⟨b1, b2, b3⟩ := HB.out.2 wc hbc
    have SS : ∀ W : World, W.heap[w.heap.size]? = some (.cells #[.slice no nl nc, .slice none 0 ec] 32 (0, 0)) → W.heap[bn]? = some (nrO ⟨I, qx, qy, 0⟩) → W.cell? ⟨w.heap.size, 0, none⟩ = some (.slice no nl nc) ∧ W.cell? ⟨w.heap.size, 1, none⟩ = some (.slice none 0 ec) ∧ W.cell? ⟨bn, 0, none⟩ = some (.int .i64 I) ∧ W.cell? ⟨bn, 1, none⟩ = some (.int .i64 qx) ∧ W.cell? ⟨bn, 2, none⟩ = some (.int .i64 qy) ∧ W.cell? ⟨bn, 3, none⟩ = some (.int .i64 0) := fun W h1 h2 => ⟨(box2_cell h1).1, (box2_cell h1).2.1, (nr_box h2).1⟩
    have hwl : w.heap.size < wc.heap.size := Nat.lt_of_lt_of_le (Nat.lt_trans l1 (Nat.lt_trans l2 l3)) hbc.size
    have hQl : wQ.heap.size < wc.heap.size := Nat.lt_of_lt_of_le l3 hbc.size
    have hge := hN.out.2.1
    have HS1 := hid (fun (W : World) (hW : Below wc.heap.size wc W) => SS W ((hW.block _ hwl).trans b1) ((hW.block _ hbnl).trans hN.out.1))
    have HS2 := hid (fun (W : World) (x y : Value) (hW : Below wc.heap.size wc W) => SS ((W.setCell ⟨wQ.heap.size, 0, none⟩ x).setCell ⟨wQ.heap.size, 1, none⟩ y) ((Below.heap_setCell _ _ _ _ (show w.heap.size ≠ wQ.heap.size by omega)).trans ((Below.heap_setCell _ _ _ _ (show w.heap.size ≠ wQ.heap.size by omega)).trans ((hW.block _ hwl).trans b1))) ((Below.heap_setCell _ _ _ _ (show bn ≠ wQ.heap.size by omega)).trans ((Below.heap_setCell _ _ _ _ (show bn ≠ wQ.heap.size by omega)).trans ((hW.block _ hbnl).trans hN.out.1))))
    obtain ⟨s0, s1, s2, s3, s4, s5⟩ := SS wc b1 hN.out.1
    have HO := hid (HOF.out wc.drew hbc.drew)
    have HBC := hid (And.intro hbc (And.intro b3 hQl))
    have hL : (ns ++ [(⟨I, qx, qy, 0⟩ : NR)]).length = nl + 1 := by rw [List.length_append, hlen]; rfl
    clear SS hN b1 b2 b3 hbc HOF
    go_wp2
    go_region_held (fun w' => w'.cell? ⟨w.heap.size, 0, none⟩ = some (.slice no nl nc) ∧ w'.cell? ⟨w.heap.size, 1, none⟩ = some (.slice none 0 ec) ∧ w'.cell? ⟨bn, 0, none⟩ = some (.int .i64 I) ∧ w'.cell? ⟨bn, 1, none⟩ = some (.int .i64 qx) ∧ w'.cell? ⟨bn, 2, none⟩ = some (.int .i64 qy) ∧ w'.cell? ⟨bn, 3, none⟩ = some (.int .i64 0)) (first | with_reducible exact HS2.out _ _ _ H6.out.2 | with_reducible exact HS1.out _ H6.out.2 | with_reducible exact HS1.out _ H5.out.2 | exact ⟨s0, s1, s2, s3, s4, s5⟩) (first
      | (go_at_call 16; refine HO.out.mono ?_; rintro e w5 ⟨⟨v, rfl, hv⟩, hb5⟩; obtain ⟨vo, vc, hve, hvc, hvg⟩ := hv.form; rw [hlen] at hve; subst hve; have H5 := hid (And.intro hv (show Below wc.heap.size wc w5 from (Below.refl _ wc).drew.trans hb5)); clear hv hb5 hvc hvg HO)
      | (go_at_call 15; refine (withNode_any H5.out.1 hlen H5.out.2.size (by omega) ⟨I, qx, qy, 0⟩ HU.out).mono ?_; rintro e w6 ⟨⟨v, rfl, hv⟩, hb6⟩; obtain ⟨uo, uc, hve, huc, hug⟩ := hv.form; rw [hL] at hve; subst hve; have H6 := hid (And.intro hv (show Below wc.heap.size wc w6 from H5.out.2.trans hb6)); have hh6 := ((H5.out.2.trans hb6).block _ HBC.out.2.2).trans HBC.out.2.1; obtain ⟨t0, t1, t2, t3⟩ := box2_cell hh6; have HT := hid hh6; clear hv hb6 huc hug hh6))
    go_wp2
    obtain ⟨hv6, hb6⟩ := H6.out
    have hqw : w.heap.size ≤ wQ.heap.size := by omega
    have hwc : w.heap.size ≤ wc.drew.heap.size := Nat.le_of_lt hwl
    obtain ⟨U, hU⟩ : ∃ U, (w6.setCell ⟨wQ.heap.size, 0, none⟩ (.slice uo (nl + 1) uc)).setCell ⟨wQ.heap.size, 1, none⟩ (.slice none 0 0) = U := ⟨_, rfl⟩
    have hUU : U.heap[wQ.heap.size]? = some (.cells #[.slice uo (nl + 1) uc, .slice none 0 0] 32 (0, 0)) := by rw [← hU]; exact set1 (set1 HT.out _) _
    have hO : ∀ k, k ≠ wQ.heap.size → U.heap[k]? = w6.heap[k]? := fun k hk => by rw [← hU]; exact (Below.heap_setCell _ _ _ k hk).trans (Below.heap_setCell _ _ _ k hk)
    have hbU : Below w.heap.size w U := by rw [← hU]; exact ((HB.out.1.trans ((HBC.out.1.trans (hb6.mono HBC.out.1.size)).mono HB.out.1.size)).setCell hqw _).setCell hqw _
    have hrU : NdRow U w.heap.size (.slice uo (nl + 1) uc) (ns ++ [⟨I, qx, qy, 0⟩]) := (hv6.toBase hwc).same fun g hg => hO g (by have q1 : wc.heap.size ≤ g := (hv6.lt hg).2; omega)
    obtain ⟨u0, u1, _, _⟩ := box2_cell hUU
    rw [hU]
    clear hU hUU hO hv6 hb6
    (try simp only [Exit.inBlock, Exit.then])
    refine bodyPost_ret (v := .tuple #[plV (.slice uo (nl + 1) uc) (.slice none 0 0), .int .i64 I, .int .i64 0]) (by simp [results, Tryz.results6, go_sem, u0, u1]) rfl ?_
    exact ⟨⟨_, rfl, hrU⟩, hbU⟩
end Go.Proofs.YtkdnkmheidbfdaaGreat
