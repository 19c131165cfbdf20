/-
  Layer 17: draft's WithNode behind all others; topo's AddNode to a plan without edges.
-/
import Derived.Test.YtdjbjadaldndcaaGreatTAdd
namespace Go.Proofs.YtdjbjadaldndcaaGreat
open Go.RowKit Go.Shelf Go.Sort Go.Maps

set_option maxRecDepth 100000 in
set_option maxHeartbeats 3200000 in
theorem withNode_any {w : World} {base n cap : Nat} {ao : Option Addr} {xs : List NR} (h : NdRow w base (.slice ao n cap) xs) (hn : xs.length = n) (hb : base ≤ w.heap.size) (hl : n ≤ 1000) (x : NR) (hx : ∀ y ∈ xs, y.id ≤ x.id) :
    Calls Tryz.prog 36 #[plV (.slice ao n cap) (.slice none 0 0), nrV x] w fun e w' => (∃ v, e = .returned (plV v (.slice none 0 0)) ∧ NdRow w' base v (xs ++ [x])) ∧ Below base w w' := by
  obtain ⟨wP, hwP⟩ : ∃ wP, w.alloc (.cells #[.slice ao n cap, .slice none 0 0] 25) = wP := ⟨_, rfl⟩
  have hbP : Below w.heap.size w wP := by rw [← hwP]; exact (Below.refl _ w).alloc (Nat.le_refl _) _
  have hhP : wP.heap[w.heap.size]? = some (.cells #[.slice ao n cap, .slice none 0 0] 25 (0, 0)) := by rw [← hwP]; exact World.alloc_heap_new w _
  obtain ⟨wQ, hwQ⟩ : ∃ wQ, wP.alloc (nrO x) = wQ := ⟨_, rfl⟩
  have hbQ : Below wP.heap.size wP wQ := by rw [← hwQ]; exact (Below.refl _ wP).alloc (Nat.le_refl _) _
  have hhQ : wQ.heap[wP.heap.size]? = some (nrO x) := by rw [← hwQ]; exact World.alloc_heap_new wP _
  obtain ⟨wR, hwR⟩ : ∃ wR, wQ.alloc (.cells #[.slice none 0 0, .slice none 0 0] 25) = wR := ⟨_, rfl⟩
  have hbR : Below wQ.heap.size wQ wR := by rw [← hwR]; exact (Below.refl _ wQ).alloc (Nat.le_refl _) _
  have hhR : wR.heap[wQ.heap.size]? = some (.cells #[.slice none 0 0, .slice none 0 0] 25 (0, 0)) := by rw [← hwR]; exact World.alloc_heap_new wQ _
  have l1 : w.heap.size < wP.heap.size := lt_of_heap hhP
  have l2 : wP.heap.size < wQ.heap.size := lt_of_heap hhQ
  have l3 : wQ.heap.size < wR.heap.size := lt_of_heap hhR
  have hhQ' := (hbR.block _ l2).trans hhQ
  have hhP' := (hbR.block _ (by omega)).trans ((hbQ.block _ l1).trans hhP)
  obtain ⟨c0, c1, c2, c3⟩ := box2_cell hhP'
  obtain ⟨q0, q1, q2, q3⟩ := nr_cells hhQ'
  simp only [Nat.zero_add] at q1 q2 q3
  have hbw : Below w.heap.size w wR := hbP.trans ((hbQ.mono hbP.size).trans (hbR.mono (Nat.le_trans hbP.size hbQ.size)))
  have HI := hid (insertN_any (h.below hbw) hn (by omega) hl x hx)
  have HB := hid (And.intro hbw (And.intro hhP' (And.intro hhR (And.intro l1 (And.intro l2 l3)))))
  have hL : (xs ++ [x]).length = n + 1 := by rw [List.length_append, hn]; rfl
  have HG := hid (show ∀ k, (Value.slice ao n cap).ownBlock = some k → k < w.heap.size from fun k hk => (h.lt hk).1)
  clear hbP hhP hbQ hhQ hbR hhR hhQ' hhP' h hx hbw
  go_enter Tryz.func36, Tryz.ntmps36
  go_wp2_with (go_at_call 76; refine HI.out.mono ?_; rintro e w1 ⟨⟨v, rfl, hv, hk1⟩, hb1⟩; obtain ⟨vo, vc, hve, hvc, hvg⟩ := hv.form; rw [hL] at hve hvc hvg; subst hve; have hne : ∀ k, w.heap.size ≤ k → (Value.slice ao n cap).ownBlock ≠ some k := (fun k hk e => by have := HG.out k e; omega); have hP1 := (hk1.keep w.heap.size (by omega) (hne _ (Nat.le_refl _))).trans HB.out.2.1; have hR1 := (hk1.keep wQ.heap.size (by omega) (hne _ (by omega))).trans HB.out.2.2.1; clear c0 c1 c2 c3 q0 q1 q2 q3; obtain ⟨c0, c1, c2, c3⟩ := box2_cell hP1; obtain ⟨r0, r1, r2, r3⟩ := box2_cell hR1; have e1 : ¬ w.heap.size = wQ.heap.size := (by omega); have e2 : ¬ wQ.heap.size = w.heap.size := (by omega); have H1 := hid (And.intro hv (And.intro hb1 (And.intro hP1 (And.intro hR1 hk1)))); clear HI hv hb1 hk1 hvc hvg hne hP1 hR1)
  obtain ⟨hv, hb1, hP1, hR1, hk1⟩ := H1.out
  obtain ⟨V, hV⟩ : ∃ V, w1.setCell ⟨w.heap.size, 0, none⟩ (.slice vo (n + 1) vc) = V := ⟨_, rfl⟩
  obtain ⟨U, hU⟩ : ∃ U, (V.setCell ⟨wQ.heap.size, 0, none⟩ (.slice vo (n + 1) vc)).setCell ⟨wQ.heap.size, 1, none⟩ (.slice none 0 0) = U := ⟨_, rfl⟩
  have hO : ∀ k, k ≠ w.heap.size → V.heap[k]? = w1.heap[k]? := fun k hk => by rw [← hV]; exact Below.heap_setCell _ _ _ k hk
  have hRU : U.heap[wQ.heap.size]? = some (.cells #[.slice vo (n + 1) vc, .slice none 0 0] 25 (0, 0)) := by rw [← hU]; exact set1 (set1 ((hO _ e2).trans hR1) _) _
  have hO2 : ∀ k, k ≠ wQ.heap.size → U.heap[k]? = V.heap[k]? := fun k hk => by rw [← hU]; exact (Below.heap_setCell _ _ _ k hk).trans (Below.heap_setCell _ _ _ k hk)
  have hbw := HB.out.1
  have hq : base ≤ wQ.heap.size := by omega
  have hbU : Below base w U := by rw [← hU, ← hV]; exact ((((hbw.mono hb).trans hb1).setCell hb _).setCell hq _).setCell hq _
  have hrU : NdRow U base (.slice vo (n + 1) vc) (xs ++ [x]) := hv.same fun g hg => (hO2 g (by rcases hk1.own g hg with q | q; have := HG.out g q; omega; omega)).trans (hO g (by rcases hk1.own g hg with q | q; have := HG.out g q; omega; omega))
  obtain ⟨u0, u1, _, _⟩ := box2_cell hRU
  rw [hV, hU]
  clear hU hV hRU hO hO2 hv hb1 hP1 hR1 hk1
  (try simp only [Exit.inBlock, Exit.then])
  refine bodyPost_ret (v := plV (.slice vo (n + 1) vc) (.slice none 0 0)) (by simp [results, Tryz.results36, go_sem, u0, u1]) rfl ?_
  exact ⟨⟨_, rfl, hrU⟩, hbU⟩
end Go.Proofs.YtdjbjadaldndcaaGreat
