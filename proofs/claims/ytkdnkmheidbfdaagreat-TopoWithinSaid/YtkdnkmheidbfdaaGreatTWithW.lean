/-
  Layer 17: TopoWithin, the walk.
-/
import Derived.BigGuardPart
import Derived.Deep.RegionWith
import Derived.Test.YtkdnkmheidbfdaaGreatN7
import Derived.Test.YtkdnkmheidbfdaaGreatTMoveE
import Derived.Test.YtkdnkmheidbfdaaGreatNB
import Derived.Test.YtkdnkmheidbfdaaGreatN3
namespace Go.Proofs.YtkdnkmheidbfdaaGreat
open Go.RowKit Go.Shelf Go.Sort Go.Maps

set_option maxRecDepth 100000 in
set_option maxHeartbeats 6400000 in
theorem within_rim (x y u v : Int) {i j k m : Nat} (hi : bits .and .i64 x 31 = (i : Int)) (hj : bits .and .i64 y 31 = (j : Int)) (hk : bits .and .i64 u 31 = (k : Int)) (hm : bits .and .i64 v 31 = (m : Int)) (hi32 : i < 32) (hj32 : j < 32) (hk32 : k < 32) (hm32 : m < 32) (hfa : whF ((i : Int) - 5) ((j : Int) - 5) = -1) (w : World) :
    Calls Tryz.prog 3 #[.int .i64 x, .int .i64 y, .int .i64 u, .int .i64 v] w fun e w' => e = .returned (.bool true) ∧ Below w.heap.size w w' := by
  have oka := chk_ok i hi32 j hj32
  have okb := chk_ok k hk32 m hm32
  have tka := wi_taken hi32 hj32
  have tkb := wi_taken hk32 hm32
  have fca := fun g ht => wi_face hi32 hj32 g ht
  have fcb := fun g ht => wi_face hk32 hm32 g ht
  obtain ⟨ax, hax⟩ : ∃ ax, (i : Int) - 5 = ax := ⟨_, rfl⟩
  obtain ⟨ay, hay⟩ : ∃ ay, (j : Int) - 5 = ay := ⟨_, rfl⟩
  obtain ⟨bx, hbx⟩ : ∃ bx, (k : Int) - 5 = bx := ⟨_, rfl⟩
  obtain ⟨by', hby⟩ : ∃ by', (m : Int) - 5 = by' := ⟨_, rfl⟩
  simp only [hax, hay] at oka tka fca hfa
  simp only [hbx, hby] at okb tkb fcb
  have hwi : IntKind.i64.wrap ((i : Int) - 5) = ax := by rw [IntKind.wrap_i64]; omega
  have hwj : IntKind.i64.wrap ((j : Int) - 5) = ay := by rw [IntKind.wrap_i64]; omega
  have hwk : IntKind.i64.wrap ((k : Int) - 5) = bx := by rw [IntKind.wrap_i64]; omega
  have hwm : IntKind.i64.wrap ((m : Int) - 5) = by' := by rw [IntKind.wrap_i64]; omega
  clear hax hay hbx hby hi32 hj32 hk32 hm32
  obtain ⟨wN, hwN⟩ : ∃ wN, w.alloc (.cells #[.int .i64 1, .int .i64 0, .int .i64 0, .int .i64 (-1)] 25) = wN := ⟨_, rfl⟩
  have hbwN : Below w.heap.size w wN := by rw [← hwN]; exact (Below.refl _ w).alloc (Nat.le_refl _) _
  have hhwN : wN.heap[w.heap.size]? = some (.cells #[.int .i64 1, .int .i64 0, .int .i64 0, .int .i64 (-1)] 25 (0, 0)) := by rw [← hwN]; exact World.alloc_heap_new w _
  obtain ⟨wL, hwL⟩ : ∃ wL, wN.alloc (.cells #[.int .i64 0, .int .i64 0, .int .i64 20, .int .i64 0, .int .i64 20, .int .i64 20, .int .i64 0, .int .i64 20, .int .i64 0, .int .i64 0] 23) = wL := ⟨_, rfl⟩
  have hbwL : Below wN.heap.size wN wL := by rw [← hwL]; exact (Below.refl _ wN).alloc (Nat.le_refl _) _
  have hhwL : wL.heap[wN.heap.size]? = some (.cells #[.int .i64 0, .int .i64 0, .int .i64 20, .int .i64 0, .int .i64 20, .int .i64 20, .int .i64 0, .int .i64 20, .int .i64 0, .int .i64 0] 23 (0, 0)) := by rw [← hwL]; exact World.alloc_heap_new wN _
  obtain ⟨wE, hwE⟩ : ∃ wE, wL.alloc (.cells #[.int .i64 1, .int .i64 1, .int .i64 1, .slice (some ⟨wN.heap.size, 0, none⟩) 5 5, .int .i64 4, .int .i64 0] 29) = wE := ⟨_, rfl⟩
  have hbwE : Below wL.heap.size wL wE := by rw [← hwE]; exact (Below.refl _ wL).alloc (Nat.le_refl _) _
  have hhwE : wE.heap[wL.heap.size]? = some (.cells #[.int .i64 1, .int .i64 1, .int .i64 1, .slice (some ⟨wN.heap.size, 0, none⟩) 5 5, .int .i64 4, .int .i64 0] 29 (0, 0)) := by rw [← hwE]; exact World.alloc_heap_new wL _
  obtain ⟨wQ, hwQ⟩ : ∃ wQ, wE.alloc (.cells #[.slice (some ⟨w.heap.size, 0, none⟩) 1 1, .slice (some ⟨wL.heap.size, 0, none⟩) 1 1] 32) = wQ := ⟨_, rfl⟩
  have hbwQ : Below wE.heap.size wE wQ := by rw [← hwQ]; exact (Below.refl _ wE).alloc (Nat.le_refl _) _
  have hhwQ : wQ.heap[wE.heap.size]? = some (.cells #[.slice (some ⟨w.heap.size, 0, none⟩) 1 1, .slice (some ⟨wL.heap.size, 0, none⟩) 1 1] 32 (0, 0)) := by rw [← hwQ]; exact World.alloc_heap_new wE _
  obtain ⟨wA, hwA⟩ : ∃ wA, wQ.alloc (.cells #[.int .i64 ax, .int .i64 ay] 23) = wA := ⟨_, rfl⟩
  have hbwA : Below wQ.heap.size wQ wA := by rw [← hwA]; exact (Below.refl _ wQ).alloc (Nat.le_refl _) _
  have hhwA : wA.heap[wQ.heap.size]? = some (.cells #[.int .i64 ax, .int .i64 ay] 23 (0, 0)) := by rw [← hwA]; exact World.alloc_heap_new wQ _
  obtain ⟨wB, hwB⟩ : ∃ wB, wA.alloc (.cells #[.int .i64 bx, .int .i64 by'] 23) = wB := ⟨_, rfl⟩
  have hbwB : Below wA.heap.size wA wB := by rw [← hwB]; exact (Below.refl _ wA).alloc (Nat.le_refl _) _
  have hhwB : wB.heap[wA.heap.size]? = some (.cells #[.int .i64 bx, .int .i64 by'] 23 (0, 0)) := by rw [← hwB]; exact World.alloc_heap_new wA _
  have l1 : w.heap.size < wN.heap.size := lt_of_heap hhwN
  have l2 : wN.heap.size < wL.heap.size := lt_of_heap hhwL
  have l3 : wL.heap.size < wE.heap.size := lt_of_heap hhwE
  have l4 : wE.heap.size < wQ.heap.size := lt_of_heap hhwQ
  have l5 : wQ.heap.size < wA.heap.size := lt_of_heap hhwA
  have l6 : wA.heap.size < wB.heap.size := lt_of_heap hhwB
  have tA : Below wA.heap.size wA wB := hbwB
  have tQ : Below wQ.heap.size wQ wB := hbwA.trans (tA.mono hbwA.size)
  have tE : Below wE.heap.size wE wB := hbwQ.trans (tQ.mono hbwQ.size)
  have tL : Below wL.heap.size wL wB := hbwE.trans (tE.mono hbwE.size)
  have tN : Below wN.heap.size wN wB := hbwL.trans (tL.mono hbwL.size)
  have tw : Below w.heap.size w wB := hbwN.trans (tN.mono hbwN.size)
  have hN := wi_nde ((tN.block _ l1).trans hhwN)
  have hE := wi_ple ((tE.block _ l3).trans hhwE) ((tL.block _ l2).trans hhwL)
  have hPA := (tA.block _ l5).trans hhwA
  have c0 : wB.cell? ⟨wE.heap.size, 0, none⟩ = some (.slice (some ⟨w.heap.size, 0, none⟩) 1 1) := (box2_cell ((tQ.block _ l4).trans hhwQ)).1
  have c1 : wB.cell? ⟨wE.heap.size, 1, none⟩ = some (.slice (some ⟨wL.heap.size, 0, none⟩) 1 1) := (box2_cell ((tQ.block _ l4).trans hhwQ)).2.1
  have HS := hid (show ∀ W, Below wB.heap.size wB W → (W.cell? ⟨wQ.heap.size, 0, none⟩ = some (.int .i64 ax) ∧ W.cell? ⟨wQ.heap.size, 1, none⟩ = some (.int .i64 ay)) ∧ W.cell? ⟨wA.heap.size, 0, none⟩ = some (.int .i64 bx) ∧ W.cell? ⟨wA.heap.size, 1, none⟩ = some (.int .i64 by') from fun W hW => by
    have q1 := (hW.block _ (Nat.lt_trans l5 l6)).trans hPA
    have q2 := (hW.block _ l6).trans hhwB
    exact ⟨⟨by simp [World.cell?, q1], by simp [World.cell?, q1]⟩, by simp [World.cell?, q2], by simp [World.cell?, q2]⟩)
  obtain ⟨⟨a0, a1⟩, b0, b1⟩ := HS.out wB (Below.refl _ _)
  have hF1 := wi_plf wN.heap.size
  have HWA := hid (fun W => where_any ax ay W)
  have HTW := hid tw
  have HAW := hid (fun W => topoAwake_any W)
  rw [hfa] at tka HWA
  have HAD := hid (addNode_taken (cap := 1) (nc := 1) hE hN (fun e => by omega) wiN_ids wiN_rise hF1.pts hF1.out hF1.few oka tka)
  clear tA tQ tE tL tN tw hN hE hPA hF1 hbwN hhwN hbwL hhwL hbwE hhwE hbwQ hhwQ hbwA hhwA hbwB hhwB oka okb hfa tka tkb fca fcb
  go_enter Tryz.func3, Tryz.ntmps3
  go_upto_region 6 with (go_at_call 6; refine HAD.out.mono ?_; rintro e w1 ⟨rfl, hb1⟩; have H1 := hid hb1; clear HAD hb1)
  obtain ⟨W2, hW2⟩ : ∃ W2, w1.alloc (.cells #[.slice none 0 0, .slice none 0 0] 32) = W2 := ⟨_, rfl⟩
  have hb2 : Below wB.heap.size wB W2 := by rw [← hW2]; exact H1.out.alloc H1.out.size _
  rw [hW2]
  have H2 := hid hb2
  clear a0 a1 b0 b1 c0 c1 hW2
  obtain ⟨⟨a0, a1⟩, b0, b1⟩ := HS.out W2 hb2
  clear hb2
  go_wp2_with (first
    | (go_at_call 5; refine (HWA.out _).mono ?_; rintro e w3 ⟨rfl, hb3⟩; have H3 := hid (H2.out.trans (hb3.mono H2.out.size)); clear hb3 a0 a1 b0 b1; obtain ⟨⟨a0, a1⟩, b0, b1⟩ := HS.out _ H3.out)
    | (go_at_call 7; refine (HAW.out _).mono ?_; rintro e w4 ⟨rfl, hb4⟩; have H4 := hid (H3.out.trans (hb4.mono H3.out.size)); clear hb4))
  go_ret
  exact ⟨rfl, HTW.out.trans (H4.out.mono HTW.out.size)⟩

set_option maxRecDepth 100000 in
set_option maxHeartbeats 6400000 in
theorem within_far (x y u v : Int) {i j k m : Nat} (hi : bits .and .i64 x 31 = (i : Int)) (hj : bits .and .i64 y 31 = (j : Int)) (hk : bits .and .i64 u 31 = (k : Int)) (hm : bits .and .i64 v 31 = (m : Int)) (hi32 : i < 32) (hj32 : j < 32) (hk32 : k < 32) (hm32 : m < 32) (hfa : ¬ whF ((i : Int) - 5) ((j : Int) - 5) < 0) (hfb : whF ((k : Int) - 5) ((m : Int) - 5) < 0) (w : World) :
    Calls Tryz.prog 3 #[.int .i64 x, .int .i64 y, .int .i64 u, .int .i64 v] w fun e w' => e = .returned (.bool true) ∧ Below w.heap.size w w' := by
  have oka := chk_ok i hi32 j hj32
  have okb := chk_ok k hk32 m hm32
  have tka := wi_taken hi32 hj32
  have tkb := wi_taken hk32 hm32
  have fca := fun g ht => wi_face hi32 hj32 g ht
  have fcb := fun g ht => wi_face hk32 hm32 g ht
  obtain ⟨ax, hax⟩ : ∃ ax, (i : Int) - 5 = ax := ⟨_, rfl⟩
  obtain ⟨ay, hay⟩ : ∃ ay, (j : Int) - 5 = ay := ⟨_, rfl⟩
  obtain ⟨bx, hbx⟩ : ∃ bx, (k : Int) - 5 = bx := ⟨_, rfl⟩
  obtain ⟨by', hby⟩ : ∃ by', (m : Int) - 5 = by' := ⟨_, rfl⟩
  simp only [hax, hay] at oka tka fca hfa
  simp only [hbx, hby] at okb tkb fcb
  simp only [hbx, hby] at hfb
  have hwi : IntKind.i64.wrap ((i : Int) - 5) = ax := by rw [IntKind.wrap_i64]; omega
  have hwj : IntKind.i64.wrap ((j : Int) - 5) = ay := by rw [IntKind.wrap_i64]; omega
  have hwk : IntKind.i64.wrap ((k : Int) - 5) = bx := by rw [IntKind.wrap_i64]; omega
  have hwm : IntKind.i64.wrap ((m : Int) - 5) = by' := by rw [IntKind.wrap_i64]; omega
  clear hax hay hbx hby hi32 hj32 hk32 hm32
  obtain ⟨wN, hwN⟩ : ∃ wN, w.alloc (.cells #[.int .i64 1, .int .i64 0, .int .i64 0, .int .i64 (-1)] 25) = wN := ⟨_, rfl⟩
  have hbwN : Below w.heap.size w wN := by rw [← hwN]; exact (Below.refl _ w).alloc (Nat.le_refl _) _
  have hhwN : wN.heap[w.heap.size]? = some (.cells #[.int .i64 1, .int .i64 0, .int .i64 0, .int .i64 (-1)] 25 (0, 0)) := by rw [← hwN]; exact World.alloc_heap_new w _
  obtain ⟨wL, hwL⟩ : ∃ wL, wN.alloc (.cells #[.int .i64 0, .int .i64 0, .int .i64 20, .int .i64 0, .int .i64 20, .int .i64 20, .int .i64 0, .int .i64 20, .int .i64 0, .int .i64 0] 23) = wL := ⟨_, rfl⟩
  have hbwL : Below wN.heap.size wN wL := by rw [← hwL]; exact (Below.refl _ wN).alloc (Nat.le_refl _) _
  have hhwL : wL.heap[wN.heap.size]? = some (.cells #[.int .i64 0, .int .i64 0, .int .i64 20, .int .i64 0, .int .i64 20, .int .i64 20, .int .i64 0, .int .i64 20, .int .i64 0, .int .i64 0] 23 (0, 0)) := by rw [← hwL]; exact World.alloc_heap_new wN _
  obtain ⟨wE, hwE⟩ : ∃ wE, wL.alloc (.cells #[.int .i64 1, .int .i64 1, .int .i64 1, .slice (some ⟨wN.heap.size, 0, none⟩) 5 5, .int .i64 4, .int .i64 0] 29) = wE := ⟨_, rfl⟩
  have hbwE : Below wL.heap.size wL wE := by rw [← hwE]; exact (Below.refl _ wL).alloc (Nat.le_refl _) _
  have hhwE : wE.heap[wL.heap.size]? = some (.cells #[.int .i64 1, .int .i64 1, .int .i64 1, .slice (some ⟨wN.heap.size, 0, none⟩) 5 5, .int .i64 4, .int .i64 0] 29 (0, 0)) := by rw [← hwE]; exact World.alloc_heap_new wL _
  obtain ⟨wQ, hwQ⟩ : ∃ wQ, wE.alloc (.cells #[.slice (some ⟨w.heap.size, 0, none⟩) 1 1, .slice (some ⟨wL.heap.size, 0, none⟩) 1 1] 32) = wQ := ⟨_, rfl⟩
  have hbwQ : Below wE.heap.size wE wQ := by rw [← hwQ]; exact (Below.refl _ wE).alloc (Nat.le_refl _) _
  have hhwQ : wQ.heap[wE.heap.size]? = some (.cells #[.slice (some ⟨w.heap.size, 0, none⟩) 1 1, .slice (some ⟨wL.heap.size, 0, none⟩) 1 1] 32 (0, 0)) := by rw [← hwQ]; exact World.alloc_heap_new wE _
  obtain ⟨wA, hwA⟩ : ∃ wA, wQ.alloc (.cells #[.int .i64 ax, .int .i64 ay] 23) = wA := ⟨_, rfl⟩
  have hbwA : Below wQ.heap.size wQ wA := by rw [← hwA]; exact (Below.refl _ wQ).alloc (Nat.le_refl _) _
  have hhwA : wA.heap[wQ.heap.size]? = some (.cells #[.int .i64 ax, .int .i64 ay] 23 (0, 0)) := by rw [← hwA]; exact World.alloc_heap_new wQ _
  obtain ⟨wB, hwB⟩ : ∃ wB, wA.alloc (.cells #[.int .i64 bx, .int .i64 by'] 23) = wB := ⟨_, rfl⟩
  have hbwB : Below wA.heap.size wA wB := by rw [← hwB]; exact (Below.refl _ wA).alloc (Nat.le_refl _) _
  have hhwB : wB.heap[wA.heap.size]? = some (.cells #[.int .i64 bx, .int .i64 by'] 23 (0, 0)) := by rw [← hwB]; exact World.alloc_heap_new wA _
  have l1 : w.heap.size < wN.heap.size := lt_of_heap hhwN
  have l2 : wN.heap.size < wL.heap.size := lt_of_heap hhwL
  have l3 : wL.heap.size < wE.heap.size := lt_of_heap hhwE
  have l4 : wE.heap.size < wQ.heap.size := lt_of_heap hhwQ
  have l5 : wQ.heap.size < wA.heap.size := lt_of_heap hhwA
  have l6 : wA.heap.size < wB.heap.size := lt_of_heap hhwB
  have tA : Below wA.heap.size wA wB := hbwB
  have tQ : Below wQ.heap.size wQ wB := hbwA.trans (tA.mono hbwA.size)
  have tE : Below wE.heap.size wE wB := hbwQ.trans (tQ.mono hbwQ.size)
  have tL : Below wL.heap.size wL wB := hbwE.trans (tE.mono hbwE.size)
  have tN : Below wN.heap.size wN wB := hbwL.trans (tL.mono hbwL.size)
  have tw : Below w.heap.size w wB := hbwN.trans (tN.mono hbwN.size)
  have hN := wi_nde ((tN.block _ l1).trans hhwN)
  have hE := wi_ple ((tE.block _ l3).trans hhwE) ((tL.block _ l2).trans hhwL)
  have hPA := (tA.block _ l5).trans hhwA
  have c0 : wB.cell? ⟨wE.heap.size, 0, none⟩ = some (.slice (some ⟨w.heap.size, 0, none⟩) 1 1) := (box2_cell ((tQ.block _ l4).trans hhwQ)).1
  have c1 : wB.cell? ⟨wE.heap.size, 1, none⟩ = some (.slice (some ⟨wL.heap.size, 0, none⟩) 1 1) := (box2_cell ((tQ.block _ l4).trans hhwQ)).2.1
  have HS := hid (show ∀ W, Below wB.heap.size wB W → (W.cell? ⟨wQ.heap.size, 0, none⟩ = some (.int .i64 ax) ∧ W.cell? ⟨wQ.heap.size, 1, none⟩ = some (.int .i64 ay)) ∧ W.cell? ⟨wA.heap.size, 0, none⟩ = some (.int .i64 bx) ∧ W.cell? ⟨wA.heap.size, 1, none⟩ = some (.int .i64 by') from fun W hW => by
    have q1 := (hW.block _ (Nat.lt_trans l5 l6)).trans hPA
    have q2 := (hW.block _ l6).trans hhwB
    exact ⟨⟨by simp [World.cell?, q1], by simp [World.cell?, q1]⟩, by simp [World.cell?, q2], by simp [World.cell?, q2]⟩)
  obtain ⟨⟨a0, a1⟩, b0, b1⟩ := HS.out wB (Below.refl _ _)
  have hF1 := wi_plf wN.heap.size
  have HWA := hid (fun W => where_any ax ay W)
  have HTW := hid tw
  have HAW := hid (fun W => topoAwake_any W)
  have ta : takenF wiN 1 wiL (ax, ay) = false := by rw [tka]; exact decide_eq_false hfa
  have HAD := hid (addNode_e (cap := 1) (nc := 1) hE hN (fun e => by omega) wiN_ids wiN_rise hF1.pts hF1.out hF1.few (Nat.le_refl 1) oka ta (fca _ ta) (by omega) (fun y hy => by rw [wi_un]; rw [wiN, List.mem_singleton] at hy; subst hy; decide))
  rw [wi_un] at HAD
  have HFB := hid (fun (ys : List ER) (hys : ys.map bareF = [wiE wN.heap.size].map bareF) (ht : takenF wiN 1 wiL (bx, by') = false) => (fcb wN.heap.size ht).same hys)
  have HPF := hid (fun (ys : List ER) (hys : ys.map bareF = [wiE wN.heap.size].map bareF) => hF1.same hys)
  have HPC := hid (fun (ys : List ER) (hys : ys.map bareF = [wiE wN.heap.size].map bareF) => hE.plc.same hys)
  obtain ⟨fa, hfaE⟩ : ∃ fa, whF ax ay = fa := ⟨_, rfl⟩
  obtain ⟨fb, hfbE⟩ : ∃ fb, whF bx by' = fb := ⟨_, rfl⟩
  have HWB := hid (fun W => where_any bx by' W)
  rw [hfaE] at HAD HWA hfa
  rw [hfbE] at HFB HWB tkb
  rw [hfbE] at hfb
  have tb : takenF wiN 1 wiL (bx, by') = true := by rw [tkb]; exact decide_eq_true hfb
  have hfaI : decide (fa < 0) = false := decide_eq_false hfa
  have hfbI : decide (fb < 0) = true := decide_eq_true hfb
  clear tA tQ tE tL tN tw hN hPA hF1 hE hbwN hhwN hbwL hhwL hbwE hhwE hbwQ hhwQ hbwA hhwA hbwB hhwB oka ta tka fca fcb hfaE hfbE
  go_enter Tryz.func3, Tryz.ntmps3
  go_upto_region 6 with (go_at_call 6; refine HAD.out.mono ?_; rintro e w1 ⟨⟨v1, u1, ys, rfl, hpo, hys⟩, hb1⟩; obtain ⟨vo, vc, hve, z1, z2⟩ := hpo.nodes.form; obtain ⟨eo, ec, hue, z3, z4⟩ := hpo.edges.form; clear z1 z2 z3 z4; rw [(show (wiN ++ [(⟨2, ax, ay, fa⟩ : NR)]).length = 2 from rfl)] at hve; rw [(show ys.length = 1 from by simpa using congrArg List.length hys)] at hue; subst hve; subst hue; have H1 := hid (And.intro hpo (And.intro hys hb1)); clear HAD hpo hys hb1)
  obtain ⟨W2, hW2⟩ : ∃ W2, w1.alloc (.cells #[.slice vo 2 vc, .slice eo 1 ec] 32) = W2 := ⟨_, rfl⟩
  have hh2 : W2.heap[w1.heap.size]? = some (.cells #[.slice vo 2 vc, .slice eo 1 ec] 32 (0, 0)) := by rw [← hW2]; exact World.alloc_heap_new w1 _
  rw [hW2]
  obtain ⟨hpo, hys, hb1⟩ := H1.out
  have hb12 : Below w1.heap.size w1 W2 := by rw [← hW2]; exact (Below.refl _ w1).alloc (Nat.le_refl _) _
  have hyl : ys.length = 1 := by simpa using congrArg List.length hys
  obtain ⟨be, eo', ec', nb, no', nc', e1, e2, hE2, hN2⟩ := (hpo.below hb12).ends (HPC.out ys hys) (by omega) (by decide : (2 : Nat) ≤ 1000)
  injection e1 with e1a e1b e1c
  injection e2 with e2a e2b e2c
  clear e1b e2b
  subst e1a e1c e2a e2c
  rw [hyl] at hE2
  have hno : ∀ x ∈ ys, x.st ≠ 2 ∧ x.en ≠ 2 := fun x hx => by
    have q : bareF x ∈ ys.map bareF := List.mem_map.2 ⟨x, hx, rfl⟩
    rw [hys, List.map_cons, List.map_nil, List.mem_singleton] at q
    rw [show x.st = 1 from (by have r := congrArg ER.st q; exact r), show x.en = 1 from (by have r := congrArg ER.en q; exact r)]
    decide
  have HMV := hid (fun W (hW : Below W2.heap.size W2 W) => moveNode_taken (cap := ec) (nc := vc) (j := 1) (z := 2) (y := ⟨2, ax, ay, fa⟩) (F := fb) (M := 1) (hE2.below hW) (Nat.le_refl 1) (hN2.below hW) (fun e => by cases e) (Nat.le_refl 2) rfl rfl hno (fun x hx => by rcases List.mem_append.1 hx with hx | hx; exact wiN_ids x hx; rw [List.mem_singleton] at hx; subst hx; exact ⟨(by decide : (-1000000 : Int) ≤ 2), (by decide : (2 : Int) ≤ 1000000)⟩) wiN_rise (HPF.out ys hys) okb (HFB.out ys hys) tb)
  obtain ⟨n0, n1, n2, n3⟩ := hN2.cells 1 _ rfl
  obtain rfl := hN2.at' (by decide : (1 : Nat) ≤ 2)
  simp only [Nat.zero_add, Nat.one_mul, Nat.reduceAdd] at n0 n1 n2 n3
  have hb2 : Below wB.heap.size wB W2 := hb1.trans (hb12.mono hb1.size)
  have H2 := hid hb2
  have HN2 := hid n3
  obtain ⟨s0, s1, s2, s3⟩ := box2_cell hh2
  clear hh2 s2 s3 a0 a1 b0 b1 c0 c1 hW2 n0 n1 n2 hno hE2 hN2 hpo hys hb1 hb12 H1 HFB HPF HPC
  obtain ⟨⟨a0, a1⟩, b0, b1⟩ := HS.out W2 hb2
  clear hb2
  go_wp2_with (go_at_call 5; refine (HWA.out _).mono ?_; rintro e w3 ⟨rfl, hb3⟩; have H3 := hid hb3; clear a0 a1 b0 b1; obtain ⟨⟨a0, a1⟩, b0, b1⟩ := HS.out _ (H2.out.trans (hb3.mono H2.out.size)); have n3' := cell_below HN2.out hb3 (lt_of_cell HN2.out); have r0 := cell_below s0 hb3 (lt_of_cell s0); have r1 := cell_below s1 hb3 (lt_of_cell s1); clear hb3 n3 s0 s1)
  have k0 := cell_regrown a0
  have k1 := cell_regrown a1
  have k2 := cell_regrown n3'
  have k3 := cell_regrown r0
  have cw := fun d os => HWA.out (grow (redrawn w3 d) os)
  refine wp_region_quiet_below (by kernel_rfl) (by kernel_rfl) ?_
  repeat (go_big_quiet_step (exact Calls.regrown_of (cw _ _)))
  refine wpQuiet_nil ?_
  intro w4 hw4
  obtain ⟨⟨dq, osq⟩, hw4e⟩ := hw4
  have hb4 : Below w3.heap.size w3 w4 := by rw [hw4e]; exact below_regrown _ _ _
  have H4 := hid (H3.out.trans (hb4.mono H3.out.size))
  have s0 := cell_below r0 hb4 (lt_of_cell r0)
  have s1 := cell_below r1 hb4 (lt_of_cell r1)
  clear a0 a1 b0 b1 k0 k1 k2 k3 cw hw4e r0 r1 n3'
  obtain ⟨⟨a0, a1⟩, b0, b1⟩ := HS.out _ (H2.out.trans (H4.out.mono H2.out.size))
  clear hb4
  all_goals (
    go_upto_region 11 with (go_at_call 8; refine (HMV.out _ H4.out).mono ?_; rintro e w5 ⟨rfl, hb5⟩; have H5 := hid (H4.out.trans (hb5.mono H4.out.size)); clear HMV hb5)
    obtain ⟨W6, hW6⟩ : ∃ W6, w5.alloc (.cells #[.slice none 0 0, .slice none 0 0] 32) = W6 := ⟨_, rfl⟩
    have hb6 : Below W2.heap.size W2 W6 := by rw [← hW6]; exact H5.out.alloc H5.out.size _
    rw [hW6]
    clear a0 a1 b0 b1 hW6 s0 s1
    obtain ⟨⟨a0, a1⟩, b0, b1⟩ := HS.out W6 (H2.out.trans (hb6.mono H2.out.size))
    have H6 := hid hb6
    clear hb6
    go_wp2_with (first
      | (go_at_call 5; refine (HWB.out _).mono ?_; rintro e w7 ⟨rfl, hb7⟩; have H7 := hid (H6.out.trans (hb7.mono H6.out.size)); clear hb7 a0 a1 b0 b1)
      | (go_at_call 7; refine (HAW.out _).mono ?_; rintro e w8 ⟨rfl, hb8⟩; have H8 := hid (H7.out.trans (hb8.mono H7.out.size)); clear hb8))
    go_ret
    exact ⟨rfl, HTW.out.trans ((H2.out.trans (H8.out.mono H2.out.size)).mono HTW.out.size)⟩)

set_option maxRecDepth 100000 in
set_option maxHeartbeats 6400000 in
theorem within_other (x y u v : Int) {i j k m : Nat} (hi : bits .and .i64 x 31 = (i : Int)) (hj : bits .and .i64 y 31 = (j : Int)) (hk : bits .and .i64 u 31 = (k : Int)) (hm : bits .and .i64 v 31 = (m : Int)) (hi32 : i < 32) (hj32 : j < 32) (hk32 : k < 32) (hm32 : m < 32) (hfa : ¬ whF ((i : Int) - 5) ((j : Int) - 5) < 0) (hfb : ¬ whF ((k : Int) - 5) ((m : Int) - 5) < 0) (hne : whF ((i : Int) - 5) ((j : Int) - 5) ≠ whF ((k : Int) - 5) ((m : Int) - 5)) (w : World) :
    Calls Tryz.prog 3 #[.int .i64 x, .int .i64 y, .int .i64 u, .int .i64 v] w fun e w' => e = .returned (.bool true) ∧ Below w.heap.size w w' := by
  have oka := chk_ok i hi32 j hj32
  have okb := chk_ok k hk32 m hm32
  have tka := wi_taken hi32 hj32
  have tkb := wi_taken hk32 hm32
  have fca := fun g ht => wi_face hi32 hj32 g ht
  have fcb := fun g ht => wi_face hk32 hm32 g ht
  obtain ⟨ax, hax⟩ : ∃ ax, (i : Int) - 5 = ax := ⟨_, rfl⟩
  obtain ⟨ay, hay⟩ : ∃ ay, (j : Int) - 5 = ay := ⟨_, rfl⟩
  obtain ⟨bx, hbx⟩ : ∃ bx, (k : Int) - 5 = bx := ⟨_, rfl⟩
  obtain ⟨by', hby⟩ : ∃ by', (m : Int) - 5 = by' := ⟨_, rfl⟩
  simp only [hax, hay] at oka tka fca hfa
  simp only [hbx, hby] at okb tkb fcb
  simp only [hbx, hby] at hfb
  simp only [hax, hay, hbx, hby] at hne
  have hwi : IntKind.i64.wrap ((i : Int) - 5) = ax := by rw [IntKind.wrap_i64]; omega
  have hwj : IntKind.i64.wrap ((j : Int) - 5) = ay := by rw [IntKind.wrap_i64]; omega
  have hwk : IntKind.i64.wrap ((k : Int) - 5) = bx := by rw [IntKind.wrap_i64]; omega
  have hwm : IntKind.i64.wrap ((m : Int) - 5) = by' := by rw [IntKind.wrap_i64]; omega
  clear hax hay hbx hby hi32 hj32 hk32 hm32
  obtain ⟨wN, hwN⟩ : ∃ wN, w.alloc (.cells #[.int .i64 1, .int .i64 0, .int .i64 0, .int .i64 (-1)] 25) = wN := ⟨_, rfl⟩
  have hbwN : Below w.heap.size w wN := by rw [← hwN]; exact (Below.refl _ w).alloc (Nat.le_refl _) _
  have hhwN : wN.heap[w.heap.size]? = some (.cells #[.int .i64 1, .int .i64 0, .int .i64 0, .int .i64 (-1)] 25 (0, 0)) := by rw [← hwN]; exact World.alloc_heap_new w _
  obtain ⟨wL, hwL⟩ : ∃ wL, wN.alloc (.cells #[.int .i64 0, .int .i64 0, .int .i64 20, .int .i64 0, .int .i64 20, .int .i64 20, .int .i64 0, .int .i64 20, .int .i64 0, .int .i64 0] 23) = wL := ⟨_, rfl⟩
  have hbwL : Below wN.heap.size wN wL := by rw [← hwL]; exact (Below.refl _ wN).alloc (Nat.le_refl _) _
  have hhwL : wL.heap[wN.heap.size]? = some (.cells #[.int .i64 0, .int .i64 0, .int .i64 20, .int .i64 0, .int .i64 20, .int .i64 20, .int .i64 0, .int .i64 20, .int .i64 0, .int .i64 0] 23 (0, 0)) := by rw [← hwL]; exact World.alloc_heap_new wN _
  obtain ⟨wE, hwE⟩ : ∃ wE, wL.alloc (.cells #[.int .i64 1, .int .i64 1, .int .i64 1, .slice (some ⟨wN.heap.size, 0, none⟩) 5 5, .int .i64 4, .int .i64 0] 29) = wE := ⟨_, rfl⟩
  have hbwE : Below wL.heap.size wL wE := by rw [← hwE]; exact (Below.refl _ wL).alloc (Nat.le_refl _) _
  have hhwE : wE.heap[wL.heap.size]? = some (.cells #[.int .i64 1, .int .i64 1, .int .i64 1, .slice (some ⟨wN.heap.size, 0, none⟩) 5 5, .int .i64 4, .int .i64 0] 29 (0, 0)) := by rw [← hwE]; exact World.alloc_heap_new wL _
  obtain ⟨wQ, hwQ⟩ : ∃ wQ, wE.alloc (.cells #[.slice (some ⟨w.heap.size, 0, none⟩) 1 1, .slice (some ⟨wL.heap.size, 0, none⟩) 1 1] 32) = wQ := ⟨_, rfl⟩
  have hbwQ : Below wE.heap.size wE wQ := by rw [← hwQ]; exact (Below.refl _ wE).alloc (Nat.le_refl _) _
  have hhwQ : wQ.heap[wE.heap.size]? = some (.cells #[.slice (some ⟨w.heap.size, 0, none⟩) 1 1, .slice (some ⟨wL.heap.size, 0, none⟩) 1 1] 32 (0, 0)) := by rw [← hwQ]; exact World.alloc_heap_new wE _
  obtain ⟨wA, hwA⟩ : ∃ wA, wQ.alloc (.cells #[.int .i64 ax, .int .i64 ay] 23) = wA := ⟨_, rfl⟩
  have hbwA : Below wQ.heap.size wQ wA := by rw [← hwA]; exact (Below.refl _ wQ).alloc (Nat.le_refl _) _
  have hhwA : wA.heap[wQ.heap.size]? = some (.cells #[.int .i64 ax, .int .i64 ay] 23 (0, 0)) := by rw [← hwA]; exact World.alloc_heap_new wQ _
  obtain ⟨wB, hwB⟩ : ∃ wB, wA.alloc (.cells #[.int .i64 bx, .int .i64 by'] 23) = wB := ⟨_, rfl⟩
  have hbwB : Below wA.heap.size wA wB := by rw [← hwB]; exact (Below.refl _ wA).alloc (Nat.le_refl _) _
  have hhwB : wB.heap[wA.heap.size]? = some (.cells #[.int .i64 bx, .int .i64 by'] 23 (0, 0)) := by rw [← hwB]; exact World.alloc_heap_new wA _
  have l1 : w.heap.size < wN.heap.size := lt_of_heap hhwN
  have l2 : wN.heap.size < wL.heap.size := lt_of_heap hhwL
  have l3 : wL.heap.size < wE.heap.size := lt_of_heap hhwE
  have l4 : wE.heap.size < wQ.heap.size := lt_of_heap hhwQ
  have l5 : wQ.heap.size < wA.heap.size := lt_of_heap hhwA
  have l6 : wA.heap.size < wB.heap.size := lt_of_heap hhwB
  have tA : Below wA.heap.size wA wB := hbwB
  have tQ : Below wQ.heap.size wQ wB := hbwA.trans (tA.mono hbwA.size)
  have tE : Below wE.heap.size wE wB := hbwQ.trans (tQ.mono hbwQ.size)
  have tL : Below wL.heap.size wL wB := hbwE.trans (tE.mono hbwE.size)
  have tN : Below wN.heap.size wN wB := hbwL.trans (tL.mono hbwL.size)
  have tw : Below w.heap.size w wB := hbwN.trans (tN.mono hbwN.size)
  have hN := wi_nde ((tN.block _ l1).trans hhwN)
  have hE := wi_ple ((tE.block _ l3).trans hhwE) ((tL.block _ l2).trans hhwL)
  have hPA := (tA.block _ l5).trans hhwA
  have c0 : wB.cell? ⟨wE.heap.size, 0, none⟩ = some (.slice (some ⟨w.heap.size, 0, none⟩) 1 1) := (box2_cell ((tQ.block _ l4).trans hhwQ)).1
  have c1 : wB.cell? ⟨wE.heap.size, 1, none⟩ = some (.slice (some ⟨wL.heap.size, 0, none⟩) 1 1) := (box2_cell ((tQ.block _ l4).trans hhwQ)).2.1
  have HS := hid (show ∀ W, Below wB.heap.size wB W → (W.cell? ⟨wQ.heap.size, 0, none⟩ = some (.int .i64 ax) ∧ W.cell? ⟨wQ.heap.size, 1, none⟩ = some (.int .i64 ay)) ∧ W.cell? ⟨wA.heap.size, 0, none⟩ = some (.int .i64 bx) ∧ W.cell? ⟨wA.heap.size, 1, none⟩ = some (.int .i64 by') from fun W hW => by
    have q1 := (hW.block _ (Nat.lt_trans l5 l6)).trans hPA
    have q2 := (hW.block _ l6).trans hhwB
    exact ⟨⟨by simp [World.cell?, q1], by simp [World.cell?, q1]⟩, by simp [World.cell?, q2], by simp [World.cell?, q2]⟩)
  obtain ⟨⟨a0, a1⟩, b0, b1⟩ := HS.out wB (Below.refl _ _)
  have hF1 := wi_plf wN.heap.size
  have HWA := hid (fun W => where_any ax ay W)
  have HTW := hid tw
  have HAW := hid (fun W => topoAwake_any W)
  have ta : takenF wiN 1 wiL (ax, ay) = false := by rw [tka]; exact decide_eq_false hfa
  have HAD := hid (addNode_e (cap := 1) (nc := 1) hE hN (fun e => by omega) wiN_ids wiN_rise hF1.pts hF1.out hF1.few (Nat.le_refl 1) oka ta (fca _ ta) (by omega) (fun y hy => by rw [wi_un]; rw [wiN, List.mem_singleton] at hy; subst hy; decide))
  rw [wi_un] at HAD
  have HFB := hid (fun (ys : List ER) (hys : ys.map bareF = [wiE wN.heap.size].map bareF) (ht : takenF wiN 1 wiL (bx, by') = false) => (fcb wN.heap.size ht).same hys)
  have HPF := hid (fun (ys : List ER) (hys : ys.map bareF = [wiE wN.heap.size].map bareF) => hF1.same hys)
  have HPC := hid (fun (ys : List ER) (hys : ys.map bareF = [wiE wN.heap.size].map bareF) => hE.plc.same hys)
  obtain ⟨fa, hfaE⟩ : ∃ fa, whF ax ay = fa := ⟨_, rfl⟩
  obtain ⟨fb, hfbE⟩ : ∃ fb, whF bx by' = fb := ⟨_, rfl⟩
  have HWB := hid (fun W => where_any bx by' W)
  rw [hfaE] at HAD HWA hfa
  rw [hfbE] at HFB HWB tkb
  rw [hfbE] at hfb hne
  rw [hfaE] at hne
  have tb : takenF wiN 1 wiL (bx, by') = false := by rw [tkb]; exact decide_eq_false hfb
  have hfaI : decide (fa < 0) = false := decide_eq_false hfa
  have hfbI : decide (fb < 0) = false := decide_eq_false hfb
  have hnb : (fb == fa) = false := by rw [beq_eq_false_iff_ne]; exact fun e => hne e.symm
  clear tA tQ tE tL tN tw hN hPA hF1 hE hbwN hhwN hbwL hhwL hbwE hhwE hbwQ hhwQ hbwA hhwA hbwB hhwB oka ta tka fca fcb hfaE hfbE
  go_enter Tryz.func3, Tryz.ntmps3
  go_upto_region 6 with (go_at_call 6; refine HAD.out.mono ?_; rintro e w1 ⟨⟨v1, u1, ys, rfl, hpo, hys⟩, hb1⟩; obtain ⟨vo, vc, hve, z1, z2⟩ := hpo.nodes.form; obtain ⟨eo, ec, hue, z3, z4⟩ := hpo.edges.form; clear z1 z2 z3 z4; rw [(show (wiN ++ [(⟨2, ax, ay, fa⟩ : NR)]).length = 2 from rfl)] at hve; rw [(show ys.length = 1 from by simpa using congrArg List.length hys)] at hue; subst hve; subst hue; have H1 := hid (And.intro hpo (And.intro hys hb1)); clear HAD hpo hys hb1)
  obtain ⟨W2, hW2⟩ : ∃ W2, w1.alloc (.cells #[.slice vo 2 vc, .slice eo 1 ec] 32) = W2 := ⟨_, rfl⟩
  have hh2 : W2.heap[w1.heap.size]? = some (.cells #[.slice vo 2 vc, .slice eo 1 ec] 32 (0, 0)) := by rw [← hW2]; exact World.alloc_heap_new w1 _
  rw [hW2]
  obtain ⟨hpo, hys, hb1⟩ := H1.out
  have hb12 : Below w1.heap.size w1 W2 := by rw [← hW2]; exact (Below.refl _ w1).alloc (Nat.le_refl _) _
  have hyl : ys.length = 1 := by simpa using congrArg List.length hys
  obtain ⟨be, eo', ec', nb, no', nc', e1, e2, hE2, hN2⟩ := (hpo.below hb12).ends (HPC.out ys hys) (by omega) (by decide : (2 : Nat) ≤ 1000)
  injection e1 with e1a e1b e1c
  injection e2 with e2a e2b e2c
  clear e1b e2b
  subst e1a e1c e2a e2c
  rw [hyl] at hE2
  have hno : ∀ x ∈ ys, x.st ≠ 2 ∧ x.en ≠ 2 := fun x hx => by
    have q : bareF x ∈ ys.map bareF := List.mem_map.2 ⟨x, hx, rfl⟩
    rw [hys, List.map_cons, List.map_nil, List.mem_singleton] at q
    rw [show x.st = 1 from (by have r := congrArg ER.st q; exact r), show x.en = 1 from (by have r := congrArg ER.en q; exact r)]
    decide
  have HMV := hid (fun W (hW : Below W2.heap.size W2 W) => moveNode_other (cap := ec) (nc := vc) (j := 1) (z := 2) (y := ⟨2, ax, ay, fa⟩) (F := fb) (M := 1) (hE2.below hW) (Nat.le_refl 1) (hN2.below hW) (fun e => by cases e) (Nat.le_refl 2) rfl rfl hno (fun x hx => by rcases List.mem_append.1 hx with hx | hx; exact wiN_ids x hx; rw [List.mem_singleton] at hx; subst hx; exact ⟨(by decide : (-1000000 : Int) ≤ 2), (by decide : (2 : Int) ≤ 1000000)⟩) wiN_rise (HPF.out ys hys) okb (HFB.out ys hys) tb hne)
  obtain ⟨n0, n1, n2, n3⟩ := hN2.cells 1 _ rfl
  obtain rfl := hN2.at' (by decide : (1 : Nat) ≤ 2)
  simp only [Nat.zero_add, Nat.one_mul, Nat.reduceAdd] at n0 n1 n2 n3
  have hb2 : Below wB.heap.size wB W2 := hb1.trans (hb12.mono hb1.size)
  have H2 := hid hb2
  have HN2 := hid n3
  obtain ⟨s0, s1, s2, s3⟩ := box2_cell hh2
  clear hh2 s2 s3 a0 a1 b0 b1 c0 c1 hW2 n0 n1 n2 hno hE2 hN2 hpo hys hb1 hb12 H1 HFB HPF HPC
  obtain ⟨⟨a0, a1⟩, b0, b1⟩ := HS.out W2 hb2
  clear hb2
  go_wp2_with (go_at_call 5; refine (HWA.out _).mono ?_; rintro e w3 ⟨rfl, hb3⟩; have H3 := hid hb3; clear a0 a1 b0 b1; obtain ⟨⟨a0, a1⟩, b0, b1⟩ := HS.out _ (H2.out.trans (hb3.mono H2.out.size)); have n3' := cell_below HN2.out hb3 (lt_of_cell HN2.out); have r0 := cell_below s0 hb3 (lt_of_cell s0); have r1 := cell_below s1 hb3 (lt_of_cell s1); clear hb3 n3 s0 s1)
  have k0 := cell_regrown a0
  have k1 := cell_regrown a1
  have k2 := cell_regrown n3'
  have k3 := cell_regrown r0
  have cw := fun d os => HWA.out (grow (redrawn w3 d) os)
  refine wp_region_quiet_below (by kernel_rfl) (by kernel_rfl) ?_
  repeat (go_big_quiet_step (exact Calls.regrown_of (cw _ _)))
  refine wpQuiet_nil ?_
  intro w4 hw4
  obtain ⟨⟨dq, osq⟩, hw4e⟩ := hw4
  have hb4 : Below w3.heap.size w3 w4 := by rw [hw4e]; exact below_regrown _ _ _
  have H4 := hid (H3.out.trans (hb4.mono H3.out.size))
  have s0 := cell_below r0 hb4 (lt_of_cell r0)
  have s1 := cell_below r1 hb4 (lt_of_cell r1)
  clear a0 a1 b0 b1 k0 k1 k2 k3 cw hw4e r0 r1 n3'
  obtain ⟨⟨a0, a1⟩, b0, b1⟩ := HS.out _ (H2.out.trans (H4.out.mono H2.out.size))
  clear hb4
  all_goals (
    go_upto_region 11 with (go_at_call 8; refine (HMV.out _ H4.out).mono ?_; rintro e w5 ⟨rfl, hb5⟩; have H5 := hid (H4.out.trans (hb5.mono H4.out.size)); clear HMV hb5)
    obtain ⟨W6, hW6⟩ : ∃ W6, w5.alloc (.cells #[.slice none 0 0, .slice none 0 0] 32) = W6 := ⟨_, rfl⟩
    have hb6 : Below W2.heap.size W2 W6 := by rw [← hW6]; exact H5.out.alloc H5.out.size _
    rw [hW6]
    clear a0 a1 b0 b1 hW6 s0 s1
    obtain ⟨⟨a0, a1⟩, b0, b1⟩ := HS.out W6 (H2.out.trans (hb6.mono H2.out.size))
    have H6 := hid hb6
    clear hb6
    go_wp2_with (go_at_call 5; refine (HWB.out _).mono ?_; rintro e w7 ⟨rfl, hb7⟩; have H7 := hid (H6.out.trans (hb7.mono H6.out.size)); clear hb7 a0 a1 b0 b1; obtain ⟨⟨a0, a1⟩, b0, b1⟩ := HS.out _ (H2.out.trans (H7.out.mono H2.out.size)))
    have k0 := cell_regrown a0
    have k1 := cell_regrown a1
    have k2 := cell_regrown b0
    have k3 := cell_regrown b1
    have cwa := fun d os => HWA.out (grow (redrawn w7 d) os)
    have cwb := fun d os => HWB.out (grow (redrawn w7 d) os)
    refine wp_region_quiet_below (by kernel_rfl) (by kernel_rfl) ?_
    go_big_quiet_step (fail)
    go_big_quiet_step (fail)
    go_big_quiet_step (exact Calls.regrown_of (cwb _ _))
    go_big_quiet_step (fail)
    go_big_quiet_step (fail)
    go_big_quiet_step (exact Calls.regrown_of (cwa _ _))
    go_big_quiet_step (fail)
    go_big_quiet_step (fail)
    refine wpQuiet_nil ?_
    intro w9 hw9
    obtain ⟨⟨dq9, osq9⟩, hw9e⟩ := hw9
    have hb9 : Below w7.heap.size w7 w9 := by rw [hw9e]; exact below_regrown _ _ _
    have H9 := hid (H7.out.trans (hb9.mono H7.out.size))
    clear a0 a1 b0 b1 k0 k1 k2 k3 cwa cwb hw9e
    obtain ⟨⟨a0, a1⟩, b0, b1⟩ := HS.out _ (H2.out.trans (H9.out.mono H2.out.size))
    clear hb9
    all_goals (
      go_wp2_with (go_at_call 7; refine (HAW.out _).mono ?_; rintro e wa ⟨rfl, hba⟩; have HA1 := hid (H9.out.trans (hba.mono H9.out.size)); clear hba)
      go_ret
      exact ⟨rfl, HTW.out.trans ((H2.out.trans (HA1.out.mono H2.out.size)).mono HTW.out.size)⟩))

set_option maxRecDepth 100000 in
set_option maxHeartbeats 6400000 in
theorem within_same (x y u v : Int) {i j k m : Nat} (hi : bits .and .i64 x 31 = (i : Int)) (hj : bits .and .i64 y 31 = (j : Int)) (hk : bits .and .i64 u 31 = (k : Int)) (hm : bits .and .i64 v 31 = (m : Int)) (hi32 : i < 32) (hj32 : j < 32) (hk32 : k < 32) (hm32 : m < 32) (hfa : ¬ whF ((i : Int) - 5) ((j : Int) - 5) < 0) (heq : whF ((i : Int) - 5) ((j : Int) - 5) = whF ((k : Int) - 5) ((m : Int) - 5)) (w : World) :
    Calls Tryz.prog 3 #[.int .i64 x, .int .i64 y, .int .i64 u, .int .i64 v] w fun e w' => e = .returned (.bool true) ∧ Below w.heap.size w w' := by
  have oka := chk_ok i hi32 j hj32
  have okb := chk_ok k hk32 m hm32
  have tka := wi_taken hi32 hj32
  have tkb := wi_taken hk32 hm32
  have fca := fun g ht => wi_face hi32 hj32 g ht
  have fcb := fun g ht => wi_face hk32 hm32 g ht
  obtain ⟨ax, hax⟩ : ∃ ax, (i : Int) - 5 = ax := ⟨_, rfl⟩
  obtain ⟨ay, hay⟩ : ∃ ay, (j : Int) - 5 = ay := ⟨_, rfl⟩
  obtain ⟨bx, hbx⟩ : ∃ bx, (k : Int) - 5 = bx := ⟨_, rfl⟩
  obtain ⟨by', hby⟩ : ∃ by', (m : Int) - 5 = by' := ⟨_, rfl⟩
  simp only [hax, hay] at oka tka fca hfa
  simp only [hbx, hby] at okb tkb fcb
  simp only [hax, hay, hbx, hby] at heq
  have hwi : IntKind.i64.wrap ((i : Int) - 5) = ax := by rw [IntKind.wrap_i64]; omega
  have hwj : IntKind.i64.wrap ((j : Int) - 5) = ay := by rw [IntKind.wrap_i64]; omega
  have hwk : IntKind.i64.wrap ((k : Int) - 5) = bx := by rw [IntKind.wrap_i64]; omega
  have hwm : IntKind.i64.wrap ((m : Int) - 5) = by' := by rw [IntKind.wrap_i64]; omega
  clear hax hay hbx hby hi32 hj32 hk32 hm32
  obtain ⟨wN, hwN⟩ : ∃ wN, w.alloc (.cells #[.int .i64 1, .int .i64 0, .int .i64 0, .int .i64 (-1)] 25) = wN := ⟨_, rfl⟩
  have hbwN : Below w.heap.size w wN := by rw [← hwN]; exact (Below.refl _ w).alloc (Nat.le_refl _) _
  have hhwN : wN.heap[w.heap.size]? = some (.cells #[.int .i64 1, .int .i64 0, .int .i64 0, .int .i64 (-1)] 25 (0, 0)) := by rw [← hwN]; exact World.alloc_heap_new w _
  obtain ⟨wL, hwL⟩ : ∃ wL, wN.alloc (.cells #[.int .i64 0, .int .i64 0, .int .i64 20, .int .i64 0, .int .i64 20, .int .i64 20, .int .i64 0, .int .i64 20, .int .i64 0, .int .i64 0] 23) = wL := ⟨_, rfl⟩
  have hbwL : Below wN.heap.size wN wL := by rw [← hwL]; exact (Below.refl _ wN).alloc (Nat.le_refl _) _
  have hhwL : wL.heap[wN.heap.size]? = some (.cells #[.int .i64 0, .int .i64 0, .int .i64 20, .int .i64 0, .int .i64 20, .int .i64 20, .int .i64 0, .int .i64 20, .int .i64 0, .int .i64 0] 23 (0, 0)) := by rw [← hwL]; exact World.alloc_heap_new wN _
  obtain ⟨wE, hwE⟩ : ∃ wE, wL.alloc (.cells #[.int .i64 1, .int .i64 1, .int .i64 1, .slice (some ⟨wN.heap.size, 0, none⟩) 5 5, .int .i64 4, .int .i64 0] 29) = wE := ⟨_, rfl⟩
  have hbwE : Below wL.heap.size wL wE := by rw [← hwE]; exact (Below.refl _ wL).alloc (Nat.le_refl _) _
  have hhwE : wE.heap[wL.heap.size]? = some (.cells #[.int .i64 1, .int .i64 1, .int .i64 1, .slice (some ⟨wN.heap.size, 0, none⟩) 5 5, .int .i64 4, .int .i64 0] 29 (0, 0)) := by rw [← hwE]; exact World.alloc_heap_new wL _
  obtain ⟨wQ, hwQ⟩ : ∃ wQ, wE.alloc (.cells #[.slice (some ⟨w.heap.size, 0, none⟩) 1 1, .slice (some ⟨wL.heap.size, 0, none⟩) 1 1] 32) = wQ := ⟨_, rfl⟩
  have hbwQ : Below wE.heap.size wE wQ := by rw [← hwQ]; exact (Below.refl _ wE).alloc (Nat.le_refl _) _
  have hhwQ : wQ.heap[wE.heap.size]? = some (.cells #[.slice (some ⟨w.heap.size, 0, none⟩) 1 1, .slice (some ⟨wL.heap.size, 0, none⟩) 1 1] 32 (0, 0)) := by rw [← hwQ]; exact World.alloc_heap_new wE _
  obtain ⟨wA, hwA⟩ : ∃ wA, wQ.alloc (.cells #[.int .i64 ax, .int .i64 ay] 23) = wA := ⟨_, rfl⟩
  have hbwA : Below wQ.heap.size wQ wA := by rw [← hwA]; exact (Below.refl _ wQ).alloc (Nat.le_refl _) _
  have hhwA : wA.heap[wQ.heap.size]? = some (.cells #[.int .i64 ax, .int .i64 ay] 23 (0, 0)) := by rw [← hwA]; exact World.alloc_heap_new wQ _
  obtain ⟨wB, hwB⟩ : ∃ wB, wA.alloc (.cells #[.int .i64 bx, .int .i64 by'] 23) = wB := ⟨_, rfl⟩
  have hbwB : Below wA.heap.size wA wB := by rw [← hwB]; exact (Below.refl _ wA).alloc (Nat.le_refl _) _
  have hhwB : wB.heap[wA.heap.size]? = some (.cells #[.int .i64 bx, .int .i64 by'] 23 (0, 0)) := by rw [← hwB]; exact World.alloc_heap_new wA _
  have l1 : w.heap.size < wN.heap.size := lt_of_heap hhwN
  have l2 : wN.heap.size < wL.heap.size := lt_of_heap hhwL
  have l3 : wL.heap.size < wE.heap.size := lt_of_heap hhwE
  have l4 : wE.heap.size < wQ.heap.size := lt_of_heap hhwQ
  have l5 : wQ.heap.size < wA.heap.size := lt_of_heap hhwA
  have l6 : wA.heap.size < wB.heap.size := lt_of_heap hhwB
  have tA : Below wA.heap.size wA wB := hbwB
  have tQ : Below wQ.heap.size wQ wB := hbwA.trans (tA.mono hbwA.size)
  have tE : Below wE.heap.size wE wB := hbwQ.trans (tQ.mono hbwQ.size)
  have tL : Below wL.heap.size wL wB := hbwE.trans (tE.mono hbwE.size)
  have tN : Below wN.heap.size wN wB := hbwL.trans (tL.mono hbwL.size)
  have tw : Below w.heap.size w wB := hbwN.trans (tN.mono hbwN.size)
  have hN := wi_nde ((tN.block _ l1).trans hhwN)
  have hE := wi_ple ((tE.block _ l3).trans hhwE) ((tL.block _ l2).trans hhwL)
  have hPA := (tA.block _ l5).trans hhwA
  have c0 : wB.cell? ⟨wE.heap.size, 0, none⟩ = some (.slice (some ⟨w.heap.size, 0, none⟩) 1 1) := (box2_cell ((tQ.block _ l4).trans hhwQ)).1
  have c1 : wB.cell? ⟨wE.heap.size, 1, none⟩ = some (.slice (some ⟨wL.heap.size, 0, none⟩) 1 1) := (box2_cell ((tQ.block _ l4).trans hhwQ)).2.1
  have HS := hid (show ∀ W, Below wB.heap.size wB W → (W.cell? ⟨wQ.heap.size, 0, none⟩ = some (.int .i64 ax) ∧ W.cell? ⟨wQ.heap.size, 1, none⟩ = some (.int .i64 ay)) ∧ W.cell? ⟨wA.heap.size, 0, none⟩ = some (.int .i64 bx) ∧ W.cell? ⟨wA.heap.size, 1, none⟩ = some (.int .i64 by') from fun W hW => by
    have q1 := (hW.block _ (Nat.lt_trans l5 l6)).trans hPA
    have q2 := (hW.block _ l6).trans hhwB
    exact ⟨⟨by simp [World.cell?, q1], by simp [World.cell?, q1]⟩, by simp [World.cell?, q2], by simp [World.cell?, q2]⟩)
  obtain ⟨⟨a0, a1⟩, b0, b1⟩ := HS.out wB (Below.refl _ _)
  have hF1 := wi_plf wN.heap.size
  have HWA := hid (fun W => where_any ax ay W)
  have HTW := hid tw
  have HAW := hid (fun W => topoAwake_any W)
  have ta : takenF wiN 1 wiL (ax, ay) = false := by rw [tka]; exact decide_eq_false hfa
  have HAD := hid (addNode_e (cap := 1) (nc := 1) hE hN (fun e => by omega) wiN_ids wiN_rise hF1.pts hF1.out hF1.few (Nat.le_refl 1) oka ta (fca _ ta) (by omega) (fun y hy => by rw [wi_un]; rw [wiN, List.mem_singleton] at hy; subst hy; decide))
  rw [wi_un] at HAD
  have HFB := hid (fun (ys : List ER) (hys : ys.map bareF = [wiE wN.heap.size].map bareF) (ht : takenF wiN 1 wiL (bx, by') = false) => (fcb wN.heap.size ht).same hys)
  have HPF := hid (fun (ys : List ER) (hys : ys.map bareF = [wiE wN.heap.size].map bareF) => hF1.same hys)
  have HPC := hid (fun (ys : List ER) (hys : ys.map bareF = [wiE wN.heap.size].map bareF) => hE.plc.same hys)
  obtain ⟨fa, hfaE⟩ : ∃ fa, whF ax ay = fa := ⟨_, rfl⟩
  obtain ⟨fb, hfbE⟩ : ∃ fb, whF bx by' = fb := ⟨_, rfl⟩
  have HWB := hid (fun W => where_any bx by' W)
  rw [hfaE] at HAD HWA hfa
  rw [hfbE] at HFB HWB tkb
  rw [hfaE, hfbE] at heq
  subst heq
  have tb : takenF wiN 1 wiL (bx, by') = false := by rw [tkb]; exact decide_eq_false hfa
  have hfaI : decide (fa < 0) = false := decide_eq_false hfa
  clear tA tQ tE tL tN tw hN hPA hF1 hE hbwN hhwN hbwL hhwL hbwE hhwE hbwQ hhwQ hbwA hhwA hbwB hhwB oka ta tka fca fcb hfaE hfbE
  go_enter Tryz.func3, Tryz.ntmps3
  go_upto_region 6 with (go_at_call 6; refine HAD.out.mono ?_; rintro e w1 ⟨⟨v1, u1, ys, rfl, hpo, hys⟩, hb1⟩; obtain ⟨vo, vc, hve, z1, z2⟩ := hpo.nodes.form; obtain ⟨eo, ec, hue, z3, z4⟩ := hpo.edges.form; clear z1 z2 z3 z4; rw [(show (wiN ++ [(⟨2, ax, ay, fa⟩ : NR)]).length = 2 from rfl)] at hve; rw [(show ys.length = 1 from by simpa using congrArg List.length hys)] at hue; subst hve; subst hue; have H1 := hid (And.intro hpo (And.intro hys hb1)); clear HAD hpo hys hb1)
  obtain ⟨W2, hW2⟩ : ∃ W2, w1.alloc (.cells #[.slice vo 2 vc, .slice eo 1 ec] 32) = W2 := ⟨_, rfl⟩
  have hh2 : W2.heap[w1.heap.size]? = some (.cells #[.slice vo 2 vc, .slice eo 1 ec] 32 (0, 0)) := by rw [← hW2]; exact World.alloc_heap_new w1 _
  rw [hW2]
  obtain ⟨hpo, hys, hb1⟩ := H1.out
  have hb12 : Below w1.heap.size w1 W2 := by rw [← hW2]; exact (Below.refl _ w1).alloc (Nat.le_refl _) _
  have hyl : ys.length = 1 := by simpa using congrArg List.length hys
  obtain ⟨be, eo', ec', nb, no', nc', e1, e2, hE2, hN2⟩ := (hpo.below hb12).ends (HPC.out ys hys) (by omega) (by decide : (2 : Nat) ≤ 1000)
  injection e1 with e1a e1b e1c
  injection e2 with e2a e2b e2c
  clear e1b e2b
  subst e1a e1c e2a e2c
  rw [hyl] at hE2
  have hno : ∀ x ∈ ys, x.st ≠ 2 ∧ x.en ≠ 2 := fun x hx => by
    have q : bareF x ∈ ys.map bareF := List.mem_map.2 ⟨x, hx, rfl⟩
    rw [hys, List.map_cons, List.map_nil, List.mem_singleton] at q
    rw [show x.st = 1 from (by have r := congrArg ER.st q; exact r), show x.en = 1 from (by have r := congrArg ER.en q; exact r)]
    decide
  have HMV := hid (fun W (hW : Below W2.heap.size W2 W) => moveNode_ok (cap := ec) (nc := vc) (j := 1) (z := 2) (y := ⟨2, ax, ay, fa⟩) (F := fa) (M := 1) (hE2.below hW) (Nat.le_refl 1) (hN2.below hW) (fun e => by cases e) (Nat.le_refl 2) rfl rfl hno (fun x hx => by rcases List.mem_append.1 hx with hx | hx; exact wiN_ids x hx; rw [List.mem_singleton] at hx; subst hx; exact ⟨(by decide : (-1000000 : Int) ≤ 2), (by decide : (2 : Int) ≤ 1000000)⟩) wiN_rise (HPF.out ys hys) okb (HFB.out ys hys) tb rfl (fun x hx => by rw [show (wiN ++ [(⟨2, ax, ay, fa⟩ : NR)]).eraseIdx 1 = wiN from rfl, wiN, List.mem_singleton] at hx; subst hx; exact (by decide : (1 : Int) ≤ 2)))
  obtain ⟨n0, n1, n2, n3⟩ := hN2.cells 1 _ rfl
  obtain rfl := hN2.at' (by decide : (1 : Nat) ≤ 2)
  simp only [Nat.zero_add, Nat.one_mul, Nat.reduceAdd] at n0 n1 n2 n3
  have hb2 : Below wB.heap.size wB W2 := hb1.trans (hb12.mono hb1.size)
  have H2 := hid hb2
  have HN2 := hid n3
  obtain ⟨s0, s1, s2, s3⟩ := box2_cell hh2
  clear hh2 s2 s3 a0 a1 b0 b1 c0 c1 hW2 n0 n1 n2 hno hE2 hN2 hpo hys hb1 hb12 H1 HFB HPF HPC
  obtain ⟨⟨a0, a1⟩, b0, b1⟩ := HS.out W2 hb2
  clear hb2
  go_wp2_with (go_at_call 5; refine (HWA.out _).mono ?_; rintro e w3 ⟨rfl, hb3⟩; have H3 := hid hb3; clear a0 a1 b0 b1; obtain ⟨⟨a0, a1⟩, b0, b1⟩ := HS.out _ (H2.out.trans (hb3.mono H2.out.size)); have n3' := cell_below HN2.out hb3 (lt_of_cell HN2.out); have r0 := cell_below s0 hb3 (lt_of_cell s0); have r1 := cell_below s1 hb3 (lt_of_cell s1); clear hb3 n3 s0 s1)
  have k0 := cell_regrown a0
  have k1 := cell_regrown a1
  have k2 := cell_regrown n3'
  have k3 := cell_regrown r0
  have cw := fun d os => HWA.out (grow (redrawn w3 d) os)
  refine wp_region_quiet_below (by kernel_rfl) (by kernel_rfl) ?_
  repeat (go_big_quiet_step (exact Calls.regrown_of (cw _ _)))
  refine wpQuiet_nil ?_
  intro w4 hw4
  obtain ⟨⟨dq, osq⟩, hw4e⟩ := hw4
  have hb4 : Below w3.heap.size w3 w4 := by rw [hw4e]; exact below_regrown _ _ _
  have H4 := hid (H3.out.trans (hb4.mono H3.out.size))
  have s0 := cell_below r0 hb4 (lt_of_cell r0)
  have s1 := cell_below r1 hb4 (lt_of_cell r1)
  clear a0 a1 b0 b1 k0 k1 k2 k3 cw hw4e r0 r1 n3'
  obtain ⟨⟨a0, a1⟩, b0, b1⟩ := HS.out _ (H2.out.trans (H4.out.mono H2.out.size))
  clear hb4
  all_goals (
    go_upto_region 11 with (go_at_call 8; refine (HMV.out _ H4.out).mono ?_; rintro e w5 ⟨⟨v5, u5, ys5, rfl, hpo5, _⟩, hb5⟩; obtain ⟨nb5, vo5, vc5, hv5, hN5⟩ := hpo5.nodes.nde (by decide : (2 : Nat) ≤ 1000); obtain ⟨eo5, ec5, hu5, z1, z2⟩ := hpo5.edges.form; clear z1 z2; rw [(show ((wiN ++ [(⟨2, ax, ay, fa⟩ : NR)]).eraseIdx 1 ++ [(⟨2, bx, by', fa⟩ : NR)]).length = 2 from rfl)] at hv5 hN5; subst hv5; subst hu5; have H5 := hid (And.intro (H4.out.trans (hb5.mono H4.out.size)) hN5); clear HMV hb5 hpo5 hN5)
    obtain ⟨hb5, hN5⟩ := H5.out
    obtain ⟨W6, hW6⟩ : ∃ W6, w5.alloc (.cells #[.slice vo5 2 vc5, .slice eo5 ys5.length ec5] 32) = W6 := ⟨_, rfl⟩
    have hh6 : W6.heap[w5.heap.size]? = some (.cells #[.slice vo5 2 vc5, .slice eo5 ys5.length ec5] 32 (0, 0)) := by rw [← hW6]; exact World.alloc_heap_new w5 _
    have hb56 : Below w5.heap.size w5 W6 := by rw [← hW6]; exact (Below.refl _ w5).alloc (Nat.le_refl _) _
    have hb6 : Below W2.heap.size W2 W6 := hb5.trans (hb56.mono hb5.size)
    rw [hW6]
    obtain ⟨n0, n1, n2, n3⟩ := (hN5.below hb56).cells 1 _ rfl
    obtain rfl := hN5.at' (by decide : (1 : Nat) ≤ 2)
    simp only [Nat.zero_add, Nat.one_mul, Nat.reduceAdd] at n0 n1 n2 n3
    obtain ⟨t0, t1, _, _⟩ := box2_cell hh6
    have HM := hid (And.intro n1 (And.intro n2 (And.intro n3 (And.intro t0 t1))))
    clear a0 a1 b0 b1 hW6 s0 s1 n0 n1 n2 n3 t0 t1
    obtain ⟨⟨a0, a1⟩, b0, b1⟩ := HS.out W6 (H2.out.trans (hb6.mono H2.out.size))
    have H6 := hid hb6
    clear hb6 hb5 hN5 hb56 hh6
    go_wp2_with (go_at_call 5; refine (HWB.out _).mono ?_; rintro e w7 ⟨rfl, hb7⟩; have H7 := hid hb7; have H7b := hid (H6.out.trans (hb7.mono H6.out.size)); clear hb7 a0 a1 b0 b1; obtain ⟨⟨a0, a1⟩, b0, b1⟩ := HS.out _ (H2.out.trans (H7b.out.mono H2.out.size)))
    have k0 := cell_regrown a0
    have k1 := cell_regrown a1
    have k2 := cell_regrown b0
    have k3 := cell_regrown b1
    have cwa := fun d os => HWA.out (grow (redrawn w7 d) os)
    have cwb := fun d os => HWB.out (grow (redrawn w7 d) os)
    refine wp_region_quiet_below (by kernel_rfl) (by kernel_rfl) ?_
    go_big_quiet_step (fail)
    go_big_quiet_step (fail)
    go_big_quiet_step (exact Calls.regrown_of (cwb _ _))
    go_big_quiet_step (fail)
    go_big_quiet_step (fail)
    go_big_quiet_step (exact Calls.regrown_of (cwa _ _))
    go_big_quiet_step (fail)
    go_big_quiet_step (fail)
    refine wpQuiet_nil ?_
    intro w9 hw9
    obtain ⟨⟨dq9, osq9⟩, hw9e⟩ := hw9
    have hb9 : Below w7.heap.size w7 w9 := by rw [hw9e]; exact below_regrown _ _ _
    have H9 := hid (H7.out.trans (hb9.mono H7.out.size))
    clear a0 a1 b0 b1 k0 k1 k2 k3 cwa cwb hw9e
    obtain ⟨⟨a0, a1⟩, b0, b1⟩ := HS.out _ (H2.out.trans ((H6.out.trans (H9.out.mono H6.out.size)).mono H2.out.size))
    clear hb9
    all_goals (
      have HWA2 := hid (fun W => HWA.out W)
      go_wp2
      obtain ⟨n1, n2, n3, t0, t1⟩ := HM.out
      have m1 := cell_below n1 H9.out (lt_of_cell n1)
      have m2 := cell_below n2 H9.out (lt_of_cell n2)
      have m3 := cell_below n3 H9.out (lt_of_cell n3)
      have q0 := cell_below t0 H9.out (lt_of_cell t0)
      have q1 := cell_below t1 H9.out (lt_of_cell t1)
      clear n1 n2 n3 t0 t1
      have k0 := cell_regrown a0
      have k1 := cell_regrown a1
      have k2 := cell_regrown b0
      have k3 := cell_regrown b1
      have k4 := cell_regrown m1
      have k5 := cell_regrown m2
      have k6 := cell_regrown m3
      have k7 := cell_regrown q0
      have k8 := cell_regrown q1
      have cwa := fun d os => HWA2.out (grow (redrawn w9 d) os)
      have cww := fun d os => HAW.out (grow (redrawn w9 d) os)
      refine wp_region_quiet_below (by kernel_rfl) (by kernel_rfl) ?_
      repeat (go_big_quiet_step (fail))
      go_big_quiet_step (exact Calls.regrown_of (cwa _ _))
      repeat (go_big_quiet_step (fail))
      go_big_quiet_step (exact Calls.regrown_of (cww _ _))
      repeat (go_big_quiet_step (fail))
      refine wpQuiet_nil ?_
      intro wz hwz
      obtain ⟨⟨dqz, osqz⟩, hwze⟩ := hwz
      have hbz : Below w9.heap.size w9 wz := by rw [hwze]; exact below_regrown _ _ _
      have HZ := hid (HTW.out.trans ((H2.out.trans ((H6.out.trans ((H9.out.trans (hbz.mono H9.out.size)).mono H6.out.size)).mono H2.out.size)).mono HTW.out.size))
      clear hbz hwze k0 k1 k2 k3 k4 k5 k6 k7 k8 cwa cww
      go_wp2
      go_ret
      exact ⟨rfl, HZ.out⟩))

theorem topoWithin_walk (x y u v : Int) (w : World) :
    Calls Tryz.prog 3 #[.int .i64 x, .int .i64 y, .int .i64 u, .int .i64 v] w fun e w' => e = .returned (.bool true) ∧ Below w.heap.size w w' := by
  obtain ⟨i, hi, hi32⟩ := and31_nat x
  obtain ⟨j, hj, hj32⟩ := and31_nat y
  obtain ⟨k, hk, hk32⟩ := and31_nat u
  obtain ⟨m, hm, hm32⟩ := and31_nat v
  by_cases ha : whF ((i : Int) - 5) ((j : Int) - 5) < 0
  · exact within_rim x y u v hi hj hk hm hi32 hj32 hk32 hm32 (by rcases whF_in ((i : Int) - 5) ((j : Int) - 5) with e | e | e <;> omega) w
  · by_cases hb : whF ((k : Int) - 5) ((m : Int) - 5) < 0
    · exact within_far x y u v hi hj hk hm hi32 hj32 hk32 hm32 ha hb w
    · by_cases he : whF ((i : Int) - 5) ((j : Int) - 5) = whF ((k : Int) - 5) ((m : Int) - 5)
      · exact within_same x y u v hi hj hk hm hi32 hj32 hk32 hm32 ha he w
      · exact within_other x y u v hi hj hk hm hi32 hj32 hk32 hm32 ha hb he w
end Go.Proofs.YtkdnkmheidbfdaaGreat
