/-
  Layer 17: slices.Insert of one node amid a row of the call's own, where there is room.
-/
import Derived.Lib.Overlaps
import Derived.Shelf.Spec.SlicesInsert
import Derived.Test.YtdjbjadaldndcaaGreatN4
import Derived.Lib.AppendZerosOnto
import Derived.Laws.NewBlocks
import Derived.Deep.CutRange
import Derived.Test.YtdjbjadaldndcaaGreatMB
namespace Go.Proofs.YtdjbjadaldndcaaGreat
open Go.RowKit Go.Shelf Go.Sort Go.Maps

theorem run_copy_nodes (w : World) (ty : TypeId) (b o dLen dCap : Nat) (a : Addr) (sLen sCap m : Nat) (cs : List Value) (hm : m = Nat.min sLen dLen) (hn : cs.length = m * 4)
    (hsrc : ∀ j v, cs[j]? = some v → w.cell? (a.add j) = some v) (hc : ∀ j, j < cs.length → (w.cell? ⟨b, o + j, none⟩).isSome = true) (hf : ∀ j, j < cs.length → w.frozen? ⟨b, o + j, none⟩ = false) (h1 : ∀ v ∈ cs, v.oneCell' = true) :
    (Builtin.copy_ #[22, 22] ty #[.slice (some ⟨b, o, none⟩) dLen dCap, .slice (some a) sLen sCap]).run Tryz.prog w = .ok (goInt m) (w.setCells b o cs) := by
  have hl := run_loadCells_list (P := Tryz.prog) w a cs hsrc
  have hst := run_storeCells_cells (P := Tryz.prog) b o cs 0 w (by simpa using hc) (by simpa using hf) h1
  obtain ⟨i0, hi, hz0, hz1, hz2⟩ := info_parts infoNd
  have hcl : m * 4 = cs.length := hn.symm
  simp [Builtin.copy_, run_underlying Tryz.underlying22, Builtin.lenOf, Builtin.firstCells, sizeOf, typeInfo, hi, hz1, ← hm, hcl, hl, hst]

/-- A row with one put amid it: those from its place on moved down. -/
theorem ndRow_put {W : World} {base g n cap k : Nat} {cur : Array Value} {xs : List NR} (x : NR) (hC : W.heap[g]? = some (.cells cur 29 (0, 0))) (hb : base ≤ g) (hs : cur.size = cap * 4) (hn : xs.length = n) (h1 : n + 1 ≤ cap) (h2 : cap ≤ maxLen) (hc : ∀ j, j < n * 4 → W.cell? ⟨g, j, none⟩ = (ncs xs)[j]?) (hk : k < n) :
    NdRow ((W.setCells g ((k + 1) * 4) (ncs (xs.drop k))).setCells g (k * 4) x.cs) base (.slice (some ⟨g, 0, none⟩) (n + 1) cap) (xs.take k ++ x :: xs.drop k) := by
  have hall : ∀ j, j < cap * 4 → (W.cell? ⟨g, j, none⟩).isSome = true := fun j hj => by simp [World.cell?, hC]; omega
  obtain ⟨C1, e1, s1⟩ := setCells_heap (ncs (xs.drop k)) ((k + 1) * 4) W cur hC
  obtain ⟨C2, e2, s2⟩ := setCells_heap x.cs (k * 4) _ C1 e1
  have hdl : (ncs (xs.drop k)).length = (n - k) * 4 := by rw [ncs_len, List.length_drop, hn]
  have hxl : x.cs.length = 4 := rfl
  have htl : (ncs (xs.take k)).length = k * 4 := by rw [ncs_len, List.length_take, hn, Nat.min_eq_left (by omega)]
  have hsplit : ncs xs = ncs (xs.take k) ++ ncs (xs.drop k) := by rw [← ncs_app, List.take_append_drop]
  have hall1 : ∀ j, j < cap * 4 → ((W.setCells g ((k + 1) * 4) (ncs (xs.drop k))).cell? ⟨g, j, none⟩).isSome = true := fun j hj => by simp [World.cell?, e1]; omega
  refine ndRow_of e2 hb (by omega) (by rw [List.length_append, List.length_cons, List.length_take, List.length_drop, hn, Nat.min_eq_left (by omega)]; omega) h1 h2 fun j hj => ?_
  have e : ncs (xs.take k ++ x :: xs.drop k) = ncs (xs.take k) ++ (x.cs ++ ncs (xs.drop k)) := by rw [ncs_app]; rfl
  rw [e]
  by_cases hj1 : j < k * 4
  · rw [World.cell?_setCells_out g _ _ _ ⟨g, j, none⟩ (fun _ _ => .inl (by show j < k * 4; exact hj1)), World.cell?_setCells_out g _ _ _ ⟨g, j, none⟩ (fun _ _ => .inl (by show j < (k + 1) * 4; omega)), hc j (by omega), hsplit, List.getElem?_append_left (by omega), List.getElem?_append_left (by omega)]
  · by_cases hj2 : j < (k + 1) * 4
    · have hin := World.cell?_setCells_in g x.cs (k * 4) (W.setCells g ((k + 1) * 4) (ncs (xs.drop k))) (fun i hi => hall1 _ (by omega)) (j - k * 4) (by omega)
      rw [show k * 4 + (j - k * 4) = j by omega] at hin
      rw [hin, List.getElem?_append_right (by omega), htl, List.getElem?_append_left (by omega), List.getElem?_eq_getElem (by omega)]
    · have hin := World.cell?_setCells_in g (ncs (xs.drop k)) ((k + 1) * 4) W (fun i hi => hall _ (by omega)) (j - (k + 1) * 4) (by omega)
      rw [show (k + 1) * 4 + (j - (k + 1) * 4) = j by omega] at hin
      rw [World.cell?_setCells_out g _ _ _ ⟨g, j, none⟩ (fun _ _ => .inr (by show k * 4 + x.cs.length ≤ j; omega)), hin, List.getElem?_append_right (by omega), List.getElem?_append_right (by omega), htl, hxl, show j - k * 4 - 4 = j - (k + 1) * 4 by omega, List.getElem?_eq_getElem (by omega)]

set_option maxRecDepth 100000 in
set_option maxHeartbeats 3200000 in
theorem insertRoom_any {w : World} {base n cap k : Nat} {ao : Option Addr} {xs : List NR} (h : NdRow w base (.slice ao n cap) xs) (hn : xs.length = n) (_hbw : base ≤ w.heap.size) (hl : n ≤ 1000) (hk : k < n) (hroom : n + 1 ≤ cap) {gv : Nat} {x : NR} (hx : w.heap[gv]? = some (nrO x)) (hne : (Value.slice ao n cap).ownBlock ≠ some gv) :
    Calls Tryz.prog 107 #[.slice ao n cap, .int .i64 (k : Int), .slice (some ⟨gv, 0, none⟩) 1 1] w fun e w' => (∃ v, e = .returned v ∧ NdRow w' base v (xs.take k ++ x :: xs.drop k) ∧ GrewBy w w' (.slice ao n cap) v) ∧ Below base w w' := by
  obtain ⟨g, cur, rfl, hb, hC, hn', h1, h2, hs, hc⟩ := h.parts (by omega)
  have hgv : gv ≠ g := fun e => hne (by rw [e]; rfl)
  have hdl : (ncs (xs.drop k)).length = (n - k) * 4 := by rw [ncs_len, List.length_drop, hn]
  have hC' : w.drew.heap[g]? = some (.cells cur 29 (0, 0)) := hC
  have hall : ∀ j, j < cap * 4 → (w.drew.cell? ⟨g, j, none⟩).isSome = true := fun j hj => by simp [World.cell?, hC']; omega
  have hfz : ∀ j, w.drew.frozen? ⟨g, j, none⟩ = false := fun j => by simp [World.frozen?, hC']
  have hov : ∀ lb cb, (callFunc 145 #[.slice (some ⟨gv, 0, none⟩) 1 1, .slice (some ⟨g, (k + 1) * 4, none⟩) lb cb]).run Tryz.prog w = .ok (.value (.bool false)) w := fun lb cb => by
    rw [run_callFunc_extern Tryz.func145 (by kernel_rfl) (by kernel_rfl) (by kernel_rfl) (e := Extern.SlicesOverlaps.overlaps #[22, 22] #[4]) (by kernel_rfl),
      Lib.run_overlaps_apart w 22 4 29 Tryz.underlying22 4 Tryz.sizeOf29 ⟨gv, 0, none⟩ ⟨g, (k + 1) * 4, none⟩ 1 1 lb cb hgv 29 29 4 cur.size (by simp [World.shape?, hx]) (by simp [World.shape?, hC]) (by omega) (by simp [World.frozen?, hx]) (by simp [World.frozen?, hx])]
    rfl
  have hcp1 : ∀ ty dl dc sl sc, n - k = Nat.min sl dl → (Builtin.copy_ #[22, 22] ty #[.slice (some ⟨g, (k + 1) * 4, none⟩) dl dc, .slice (some ⟨g, k * 4, none⟩) sl sc]).run Tryz.prog w.drew = .ok (goInt (n - k : Nat)) (w.drew.setCells g ((k + 1) * 4) (ncs (xs.drop k))) := fun ty dl dc sl sc hm =>
    run_copy_nodes w.drew ty g ((k + 1) * 4) dl dc ⟨g, k * 4, none⟩ sl sc (n - k) (ncs (xs.drop k)) hm hdl
      (fun j u hj => by
        have hjl := (List.getElem?_eq_some_iff.1 hj).1
        rw [addr_add]
        show w.cell? ⟨g, k * 4 + j, none⟩ = some u
        have htl : (ncs (xs.take k)).length = k * 4 := by rw [ncs_len, List.length_take, hn, Nat.min_eq_left (by omega)]
        have hsplit : ncs xs = ncs (xs.take k) ++ ncs (xs.drop k) := by rw [← ncs_app, List.take_append_drop]
        rw [hc _ (by omega), hsplit, List.getElem?_append_right (by omega), htl, Nat.add_sub_cancel_left]
        exact hj)
      (fun j hj => hall _ (by omega)) (fun j hj => hfz _) ncs_one
  obtain ⟨W1, hW1⟩ : ∃ W1, W1 = w.drew.setCells g ((k + 1) * 4) (ncs (xs.drop k)) := ⟨_, rfl⟩
  obtain ⟨C1, e1, s1⟩ := setCells_heap (ncs (xs.drop k)) ((k + 1) * 4) w.drew cur hC'
  rw [← hW1] at e1 hcp1
  have hkg1 : KG g w.drew W1 := by rw [hW1]; exact setCells_kg _ _ _
  have hxW : W1.heap[gv]? = some (nrO x) := (hkg1.keep gv (lt_of_heap hx) hgv).trans hx
  obtain ⟨x0, x1, x2, x3⟩ := nr_cells hxW
  have hcp2 : ∀ ty dl dc, 1 ≤ dl → (Builtin.copy_ #[22, 22] ty #[.slice (some ⟨g, k * 4, none⟩) dl dc, .slice (some ⟨gv, 0, none⟩) 1 1]).run Tryz.prog W1 = .ok (goInt (1 : Nat)) (W1.setCells g (k * 4) x.cs) := fun ty dl dc hd =>
    run_copy_nodes W1 ty g (k * 4) dl dc ⟨gv, 0, none⟩ 1 1 1 x.cs (by simp only [Nat.min_def]; split <;> omega) rfl
      (fun j u hj => by
        rw [addr_add]
        match j, hj with
        | 0, hj => simp [NR.cs] at hj; subst hj; exact x0
        | 1, hj => simp [NR.cs] at hj; subst hj; exact x1
        | 2, hj => simp [NR.cs] at hj; subst hj; exact x2
        | 3, hj => simp [NR.cs] at hj; subst hj; exact x3
        | j + 4, hj => simp [NR.cs] at hj)
      (fun j hj => by have hj4 : j < 4 := hj; simp [World.cell?, e1]; omega) (fun j hj => by simp [World.frozen?, e1]) (by intro u hu'; simp [NR.cs] at hu'; rcases hu' with rfl | rfl | rfl | rfl <;> rfl)
  have hrow := ndRow_put (W := w.drew) x hC' hb hs hn hroom h2 hc hk
  rw [← hW1] at hrow
  have HRES := hid (And.intro hrow (And.intro (show Below base w (W1.setCells g (k * 4) x.cs) from setCells_below hb _ _ _ (by rw [hW1]; exact setCells_below hb _ _ _ (Below.refl base w).drew)) ((((KG.below (Below.refl _ w).drew) : KG g w w.drew).trans hkg1).trans (setCells_kg x.cs (k * 4) W1))))
  have h63 : cap ≤ 9223372036854775807 := by unfold maxLen at h2; omega
  have hb0 : ((k : Int) == (n : Int)) = false := by rw [beq_eq_false_iff_ne]; omega
  have hw1 : IntKind.i64.wrap ((k : Int) + 1) = (k : Int) + 1 := by rw [IntKind.wrap_i64]; omega
  have hw2 : IntKind.i64.wrap ((n : Int) + 1) = (n : Int) + 1 := by rw [IntKind.wrap_i64]; omega
  have mixed : Tryz.prog.follows .mixedOrders = true := by kernel_rfl
  have g1 : (0 : Int) ≤ (k : Int) + 1 := by omega
  have g2 : ¬ cap = k + 1 := by omega
  have g3 : ¬ cap = k := by omega
  have g4 : (k : Int) ≤ (n : Int) := by omega
  have g5 : (k : Int) ≤ (n : Int) + 1 := by omega
  have g6 : (k : Int) + 1 ≤ (n : Int) + 1 := by omega
  have g7 : (n : Int) + 1 ≤ (cap : Int) := by omega
  have g8 : ¬ (cap : Int) < (n : Int) + 1 := by omega
  have g9 : (0 : Int) ≤ (k : Int) := by omega
  have g10 : k ≤ n := by omega
  clear hrow h hx hxW hall hfz hC hC' hc e1 s1 x0 x1 x2 x3 hs hkg1 h1 hdl
  go_enter Tryz.func107, Tryz.ntmps107
  go_wp2_with (simp only [hov])
  go_region_law_o (refine step_copy_runI rfl (.tmp 73) (.tmp 76) 22 22 rfl (.slice (some ⟨g, (k + 1) * 4, none⟩) (n - k) (cap - (k + 1))) (.slice (some ⟨g, k * 4, none⟩) (n + 1 - k) (cap - k)) (by simp [Act.eval, Act.put]) (by simp [Act.eval, Act.put]) (hcp1 _ _ _ _ _ (by simp only [Nat.min_def]; split <;> omega)) ?_)
  rw [← hW1]
  clear hcp1 hov hW1
  go_wp2_with (refine wpList_copy_runI _ rfl (.tmp 80) (.tmp 81) 22 22 rfl _ _ rfl rfl (hcp2 _ _ _ (by omega)) ?_)
  go_ret
  exact ⟨⟨_, rfl, HRES.out.1, ⟨fun b hb' hne' => HRES.out.2.2.keep b hb' (fun e => hne' (by rw [e]; rfl)), fun b hb' => .inl hb'⟩⟩, HRES.out.2.1⟩
end Go.Proofs.YtdjbjadaldndcaaGreat

namespace Go.Proofs.YtdjbjadaldndcaaGreat
open Go.RowKit Go.Shelf Go.Sort Go.Maps

theorem ndRow_fresh {W : World} {base g n cap k : Nat} {cur : Array Value} {xs : List NR} (x : NR) (hC : W.heap[g]? = some (.cells cur 29 (0, 0))) (hb : base ≤ g) (hs : cur.size = cap * 4) (hn : xs.length = n) (h1 : n + 1 ≤ cap) (h2 : cap ≤ maxLen) (hc : ∀ j, j < k * 4 → W.cell? ⟨g, j, none⟩ = (ncs (xs.take k))[j]?) (hk : k < n) :
    NdRow ((W.setCells g (k * 4) x.cs).setCells g ((k + 1) * 4) (ncs (xs.drop k))) base (.slice (some ⟨g, 0, none⟩) (n + 1) cap) (xs.take k ++ x :: xs.drop k) := by
  have hall : ∀ j, j < cap * 4 → (W.cell? ⟨g, j, none⟩).isSome = true := fun j hj => by simp [World.cell?, hC]; omega
  obtain ⟨C1, e1, s1⟩ := setCells_heap x.cs (k * 4) W cur hC
  obtain ⟨C2, e2, s2⟩ := setCells_heap (ncs (xs.drop k)) ((k + 1) * 4) _ C1 e1
  have hdl : (ncs (xs.drop k)).length = (n - k) * 4 := by rw [ncs_len, List.length_drop, hn]
  have hxl : x.cs.length = 4 := rfl
  have htl : (ncs (xs.take k)).length = k * 4 := by rw [ncs_len, List.length_take, hn, Nat.min_eq_left (by omega)]
  have hall1 : ∀ j, j < cap * 4 → ((W.setCells g (k * 4) x.cs).cell? ⟨g, j, none⟩).isSome = true := fun j hj => by simp [World.cell?, e1]; omega
  refine ndRow_of e2 hb (by omega) (by rw [List.length_append, List.length_cons, List.length_take, List.length_drop, hn, Nat.min_eq_left (by omega)]; omega) h1 h2 fun j hj => ?_
  have e : ncs (xs.take k ++ x :: xs.drop k) = ncs (xs.take k) ++ (x.cs ++ ncs (xs.drop k)) := by rw [ncs_app]; rfl
  rw [e]
  by_cases hj1 : j < (k + 1) * 4
  · rw [World.cell?_setCells_out g _ _ _ ⟨g, j, none⟩ (fun _ _ => .inl (by show j < (k + 1) * 4; exact hj1))]
    by_cases hj2 : j < k * 4
    · rw [World.cell?_setCells_out g _ _ _ ⟨g, j, none⟩ (fun _ _ => .inl (by show j < k * 4; exact hj2)), hc j hj2, List.getElem?_append_left (by omega)]
    · have hin := World.cell?_setCells_in g x.cs (k * 4) W (fun i hi => hall _ (by omega)) (j - k * 4) (by omega)
      rw [show k * 4 + (j - k * 4) = j by omega] at hin
      rw [hin, List.getElem?_append_right (by omega), htl, List.getElem?_append_left (by omega), List.getElem?_eq_getElem (by omega)]
  · have hin := World.cell?_setCells_in g (ncs (xs.drop k)) ((k + 1) * 4) (W.setCells g (k * 4) x.cs) (fun i hi => hall1 _ (by omega)) (j - (k + 1) * 4) (by omega)
    rw [show (k + 1) * 4 + (j - (k + 1) * 4) = j by omega] at hin
    rw [hin, List.getElem?_append_right (by omega), List.getElem?_append_right (by omega), htl, hxl, show j - k * 4 - 4 = j - (k + 1) * 4 by omega, List.getElem?_eq_getElem (by omega)]

set_option maxRecDepth 100000 in
set_option maxHeartbeats 1600000 in
theorem insertGrow_any {w : World} {base n cap k : Nat} {ao : Option Addr} {xs : List NR} (h : NdRow w base (.slice ao n cap) xs) (hn : xs.length = n) (hbw : base ≤ w.heap.size) (hl : n ≤ 1000) (hk : k < n) (hroom : cap < n + 1) {gv : Nat} {x : NR} (hx : w.heap[gv]? = some (nrO x)) :
    Calls Tryz.prog 107 #[.slice ao n cap, .int .i64 (k : Int), .slice (some ⟨gv, 0, none⟩) 1 1] w fun e w' => (∃ v, e = .returned v ∧ NdRow w' base v (xs.take k ++ x :: xs.drop k) ∧ GrewBy w w' (.slice ao n cap) v) ∧ Below base w w' := by
  obtain ⟨g, cur, rfl, hb, hC, hn', h1, h2, hs, hc⟩ := h.parts (by omega)
  obtain rfl : cap = n := by omega
  obtain ⟨i0, hi, hz0, hz1, hz2⟩ := info_parts infoNd
  have hbw' : g < w.heap.size := lt_of_heap hC
  have hvw : gv < w.heap.size := lt_of_heap hx
  have hdl : (ncs (xs.drop k)).length = (cap - k) * 4 := by rw [ncs_len, List.length_drop, hn]
  have htl : (ncs (xs.take k)).length = k * 4 := by rw [ncs_len, List.length_take, hn, Nat.min_eq_left (by omega)]
  have hsplit : ncs xs = ncs (xs.take k) ++ ncs (xs.drop k) := by rw [← ncs_app, List.take_append_drop]
  have hkk : (cap : Int) + 1 - (k : Int) = ((cap + 1 - k : Nat) : Int) := by omega
  have hik : k + (cap + 1 - k) = cap + 1 := by omega
  have hold : (Builtin.firstCells i0.size k (.slice (some ⟨g, 0, none⟩) k cap)).run Tryz.prog w.drew = .ok (ncs (xs.take k)).toArray w.drew := by
    rw [hz1]
    exact run_firstCells_some w.drew 4 k ⟨g, 0, none⟩ k cap (ncs (xs.take k)) htl (fun j v hj => by
      have hjl := (List.getElem?_eq_some_iff.1 hj).1
      rw [addr_add]
      show w.cell? ⟨g, 0 + j, none⟩ = some v
      rw [Nat.zero_add, hc _ (by omega), hsplit, List.getElem?_append_left (by omega)]
      exact hj)
  obtain ⟨G, hG⟩ : ∃ G, G = grownCap w (cap + 1) cap 29 := ⟨_, rfl⟩
  obtain ⟨ROW, hROW⟩ : ∃ ROW : Array Value, ROW = (ncs (xs.take k)).toArray ++ Builtin.zeroCells (Value.agg #[.int .i64 0, .int .i64 0, .int .i64 0, .int .i64 0]).cells (cap + 1 - k) ++ Builtin.zeroCells (Value.agg #[.int .i64 0, .int .i64 0, .int .i64 0, .int .i64 0]).cells (G - (cap + 1)) := ⟨_, rfl⟩
  have hGn : cap + 1 ≤ G := by rw [hG]; exact grownCap_ge w _ _ _
  have hGm : G ≤ maxLen := by rw [hG]; exact grownCap_le_maxLen w _ _ _ (by unfold maxLen; omega)
  have hRs : ROW.size = G * 4 := by
    rw [hROW]
    simp [Builtin.zeroCells, Value.cells, htl]
    omega
  have hrz : ∀ ty, (Builtin.append_ #[22, 3] ty #[.slice (some ⟨g, 0, none⟩) k cap, .int .i64 ((cap : Int) + 1 - (k : Int))]).run Tryz.prog w =
      .ok (.slice (some ⟨w.heap.size, 0, none⟩) (cap + 1) G) (w.drew.alloc (.cells ROW 29)) := fun ty => by
    have h := Lib.run_append_grow_zeros w 22 3 ty 29 i0 _ .i64 .i64 Tryz.underlying22 Tryz.underlying3 hi hz0 (some ⟨g, 0, none⟩) k cap (ncs (xs.take k)) hold (cap + 1 - k) (by omega) (by omega) (by omega) (by omega) (by rw [hz2]; omega) (by rw [hz2, hik]; exact growslice_fits hroom (by omega))
    rw [hik, ← hG, ← hROW] at h
    rw [hkk]
    exact h
  obtain ⟨W1, hW1⟩ : ∃ W1, W1 = (w.alloc (.cells ROW 29)).drew := ⟨_, rfl⟩
  have hC1 : W1.heap[w.heap.size]? = some (.cells ROW 29 (0, 0)) := by rw [hW1]; exact World.alloc_heap_new w _
  have hb1 : Below w.heap.size w W1 := by rw [hW1]; exact ((Below.refl _ w).alloc (Nat.le_refl _) _).drew
  have hx1 : W1.heap[gv]? = some (nrO x) := (hb1.block _ hvw).trans hx
  have hg1 : W1.heap[g]? = some (.cells cur 29 (0, 0)) := (hb1.block _ hbw').trans hC
  obtain ⟨x0, x1, x2, x3⟩ := nr_cells hx1
  have hhead : ∀ j, j < k * 4 → W1.cell? ⟨w.heap.size, j, none⟩ = (ncs (xs.take k))[j]? := fun j hj => by
    simp only [World.cell?, hC1, Option.isSome_none, Bool.false_eq_true, if_false]
    rw [hROW, Array.append_assoc, Array.getElem?_append_left (by rw [List.size_toArray]; omega), List.getElem?_toArray]
  have hcpA : ∀ ty dl dc, 1 ≤ dl → (Builtin.copy_ #[22, 22] ty #[.slice (some ⟨w.heap.size, k * 4, none⟩) dl dc, .slice (some ⟨gv, 0, none⟩) 1 1]).run Tryz.prog W1 = .ok (goInt (1 : Nat)) (W1.setCells w.heap.size (k * 4) x.cs) := fun ty dl dc hd =>
    run_copy_nodes W1 ty w.heap.size (k * 4) dl dc ⟨gv, 0, none⟩ 1 1 1 x.cs (by simp only [Nat.min_def]; split <;> omega) rfl
      (fun j u hj => by
        rw [addr_add]
        match j, hj with
        | 0, hj => simp [NR.cs] at hj; subst hj; exact x0
        | 1, hj => simp [NR.cs] at hj; subst hj; exact x1
        | 2, hj => simp [NR.cs] at hj; subst hj; exact x2
        | 3, hj => simp [NR.cs] at hj; subst hj; exact x3
        | j + 4, hj => simp [NR.cs] at hj)
      (fun j hj => by have hj4 : j < 4 := hj; simp [World.cell?, hC1]; omega) (fun j hj => by simp [World.frozen?, hC1]) (by intro u hu'; simp [NR.cs] at hu'; rcases hu' with rfl | rfl | rfl | rfl <;> rfl)
  obtain ⟨W2, hW2⟩ : ∃ W2, W2 = W1.drew.setCells w.heap.size (k * 4) x.cs := ⟨_, rfl⟩
  obtain ⟨C2, e2, s2⟩ := setCells_heap x.cs (k * 4) W1.drew ROW hC1
  rw [← hW2] at e2
  have hkg2 : KG w.heap.size W1 W2 := by rw [hW2]; exact (KG.below (Below.refl _ W1).drew).trans (setCells_kg _ _ _)
  have hg2 : W2.heap[g]? = some (.cells cur 29 (0, 0)) := (hkg2.keep g (lt_of_heap hg1) (by omega)).trans hg1
  have hcpB : ∀ ty dl dc sl sc, cap - k = Nat.min sl dl → (Builtin.copy_ #[22, 22] ty #[.slice (some ⟨w.heap.size, (k + 1) * 4, none⟩) dl dc, .slice (some ⟨g, k * 4, none⟩) sl sc]).run Tryz.prog W2 = .ok (goInt (cap - k : Nat)) (W2.setCells w.heap.size ((k + 1) * 4) (ncs (xs.drop k))) := fun ty dl dc sl sc hm =>
    run_copy_nodes W2 ty w.heap.size ((k + 1) * 4) dl dc ⟨g, k * 4, none⟩ sl sc (cap - k) (ncs (xs.drop k)) hm hdl
      (fun j u hj => by
        have hjl := (List.getElem?_eq_some_iff.1 hj).1
        rw [addr_add]
        have e : W2.cell? ⟨g, k * 4 + j, none⟩ = w.cell? ⟨g, k * 4 + j, none⟩ := by simp [World.cell?, hg2, hC]
        rw [e, hc _ (by omega), hsplit, List.getElem?_append_right (by omega), htl, Nat.add_sub_cancel_left]
        exact hj)
      (fun j hj => by simp [World.cell?, e2]; omega) (fun j hj => by simp [World.frozen?, e2]) ncs_one
  have hrow := ndRow_fresh (W := W1.drew) (base := base) (cap := G) x hC1 hbw hRs hn hGn hGm hhead hk
  have hbw2 : Below base w (W2.setCells w.heap.size ((k + 1) * 4) (ncs (xs.drop k))) := setCells_below hbw _ _ _ (by rw [hW2]; exact setCells_below hbw _ _ _ (hb1.mono hbw).drew)
  have hgr : ∀ b, b < w.heap.size → (W2.setCells w.heap.size ((k + 1) * 4) (ncs (xs.drop k))).heap[b]? = w.heap[b]? := fun b hb' => ((setCells_kg (g := w.heap.size) (ncs (xs.drop k)) ((k + 1) * 4) W2).keep b (Nat.lt_of_lt_of_le hb' (Nat.le_trans hb1.size hkg2.size)) (Nat.ne_of_lt hb')).trans ((hkg2.keep b (Nat.lt_of_lt_of_le hb' hb1.size) (Nat.ne_of_lt hb')).trans (hb1.block b hb'))
  rw [← hW2] at hrow
  have HRES := hid (And.intro hrow (And.intro hbw2 hgr))
  have h63 : G ≤ 9223372036854775807 := by unfold maxLen at hGm; omega
  have mixed : Tryz.prog.follows .mixedOrders = true := by kernel_rfl
  have hb0 : ((k : Int) == (cap : Int)) = false := by rw [beq_eq_false_iff_ne]; omega
  have hw1 : IntKind.i64.wrap ((k : Int) + 1) = (k : Int) + 1 := by rw [IntKind.wrap_i64]; omega
  have hw2 : IntKind.i64.wrap ((cap : Int) + 1) = (cap : Int) + 1 := by rw [IntKind.wrap_i64]; omega
  have g1 : (0 : Int) ≤ (k : Int) + 1 := by omega
  have g2 : ¬ G = k + 1 := by omega
  have g3 : ¬ G = k := by omega
  have g3b : ¬ cap = k := by omega
  have g4 : (k : Int) ≤ (cap : Int) := by omega
  have g5 : (k : Int) ≤ (cap : Int) + 1 := by omega
  have g6 : (k : Int) + 1 ≤ (cap : Int) + 1 := by omega
  have g8 : (cap : Int) < (cap : Int) + 1 := by omega
  have g9 : (0 : Int) ≤ (k : Int) := by omega
  have g10 : k ≤ cap := by omega
  have hW2' : (W1.setCells w.heap.size (k * 4) x.cs).drew = W2 := by rw [hW2]; exact drew_setCells _ _ _ _
  clear hrow hbw2 hgr hkg2 hg2 hg1 e2 s2 hhead x0 x1 x2 x3 hx1 hb1 hC1 hold hkk hik hG hROW hRs h hx hC hc hs hsplit hW2
  generalize x.cs = XC at hcpA hW2'
  have HA := hid hcpA
  have HBc := hid hcpB
  have HW := hid (And.intro hW1 hW2')
  clear hcpA hcpB hW1 hW2'
  go_enter Tryz.func107, Tryz.ntmps107
  go_upto_region 9 with fail
  go_upto_region 10 with (refine Lib.wpList_append_run _ rfl (.tmp 34) (.tmp 39) 22 3 rfl (.slice (some ⟨g, 0, none⟩) k cap) (.int .i64 ((cap : Int) + 1 - (k : Int))) rfl rfl _ _ (hrz _) ?_)
  rw [← HW.out.1]
  clear hrz
  go_upto_region 11 with (refine wpList_copy_runI _ rfl (.tmp 43) (.tmp 44) 22 22 rfl (.slice (some ⟨w.heap.size, k * 4, none⟩) (cap + 1 - k) (G - k)) (.slice (some ⟨gv, 0, none⟩) 1 1) rfl rfl (HA.out _ _ _ (by omega)) ?_)
  have HB2 := HBc.out
  rw [← HW.out.2] at HB2
  simp only [Act.put, List.setIfInBounds_toArray, List.set_cons_zero, List.set_cons_succ]
  go_region_law_o (refine step_copy_runI rfl (.tmp 50) (.tmp 53) 22 22 rfl (.slice (some ⟨w.heap.size, (k + 1) * 4, none⟩) (cap - k) (G - (k + 1))) (.slice (some ⟨g, k * 4, none⟩) (cap - k) (cap - k)) (by simp [Act.eval, Act.put]) (by simp [Act.eval, Act.put]) (HB2 _ _ _ _ _ (by simp only [Nat.min_def]; split <;> omega)) ?_)
  clear HB2
  go_wp2
  go_ret
  rw [HW.out.2]
  exact ⟨⟨_, rfl, HRES.out.1, ⟨fun b hb' _ => HRES.out.2.2 b hb', fun b hb' => .inr (by cases hb'; exact Nat.le_refl _)⟩⟩, HRES.out.2.1⟩
end Go.Proofs.YtdjbjadaldndcaaGreat

namespace Go.Proofs.YtdjbjadaldndcaaGreat
open Go.RowKit Go.Shelf Go.Sort Go.Maps

theorem insertMid_any {w : World} {base n cap k : Nat} {ao : Option Addr} {xs : List NR} (h : NdRow w base (.slice ao n cap) xs) (hn : xs.length = n) (hbw : base ≤ w.heap.size) (hl : n ≤ 1000) (hk : k < n) {gv : Nat} {x : NR} (hx : w.heap[gv]? = some (nrO x)) (hne : (Value.slice ao n cap).ownBlock ≠ some gv) :
    Calls Tryz.prog 107 #[.slice ao n cap, .int .i64 (k : Int), .slice (some ⟨gv, 0, none⟩) 1 1] w fun e w' => (∃ v, e = .returned v ∧ NdRow w' base v (xs.take k ++ x :: xs.drop k) ∧ GrewBy w w' (.slice ao n cap) v) ∧ Below base w w' := by
  by_cases hr : n + 1 ≤ cap
  · exact insertRoom_any h hn hbw hl hk hr hx hne
  · exact insertGrow_any h hn hbw hl hk (by omega) hx

set_option maxRecDepth 100000 in
set_option maxHeartbeats 1600000 in
theorem insertN_mid {w : World} {base n cap j : Nat} {ao : Option Addr} {xs : List NR} (h : NdRow w base (.slice ao n cap) xs) (hn : xs.length = n) (hb : base ≤ w.heap.size) (hl : n ≤ 1000) (x : NR) (hx : idxG x.id xs 0 = (j : Int)) (hj : j < n) :
    Calls Tryz.prog 76 #[.slice ao n cap, nrV x, idV] w fun e w' => (∃ v, e = .returned v ∧ NdRow w' base v (xs.take j ++ x :: xs.drop j) ∧ GrewBy w w' (.slice ao n cap) v) ∧ Below base w w' := by
  subst hn
  obtain ⟨wA, hwA⟩ : ∃ wA, w.alloc (nrO x) = wA := ⟨_, rfl⟩
  have hbA : Below w.heap.size w wA := by rw [← hwA]; exact (Below.refl _ w).alloc (Nat.le_refl _) _
  have hhA : wA.heap[w.heap.size]? = some (nrO x) := by rw [← hwA]; exact World.alloc_heap_new w _
  obtain ⟨wB, hwB⟩ : ∃ wB, wA.alloc (.cells #[idV] 108) = wB := ⟨_, rfl⟩
  have hbB : Below wA.heap.size wA wB := by rw [← hwB]; exact (Below.refl _ wA).alloc (Nat.le_refl _) _
  have hhB : wB.heap[wA.heap.size]? = some (.cells #[idV] 108 (0, 0)) := by rw [← hwB]; exact World.alloc_heap_new wA _
  have hb2 : Below w.heap.size w wB := hbA.trans (hbB.mono hbA.size)
  have hf : wB.cell? ⟨wA.heap.size, 0, none⟩ = some idV := by simp [World.cell?, hhB]
  have hX := nr_cells ((hbB.block _ (lt_of_heap hhA)).trans hhA)
  have hrow := h.below hb2
  obtain ⟨g, ao2, cap2, he, hd⟩ := hrow.nde hl
  injection he with e1 _ e3
  subst e1 e3
  have HIX := hid (indexG_any (cap := cap) hd hf hX)
  rw [hx] at HIX
  have hjI : ¬ ((j : Int) < 0) := by omega
  have HR := hid (And.intro hrow (And.intro hb2 hb))
  have HX := hid hX
  have HINS := hid (fun (W : World) (gv : Nat) (hW : Below wB.heap.size wB W) (hv : W.heap[gv]? = some (nrO x)) (hg : (Value.slice ao xs.length cap).ownBlock ≠ some gv) => insertMid_any (hrow.below hW) rfl (Nat.le_trans hb (Nat.le_trans hb2.size hW.size)) hl hj hv hg)
  clear hbA hhA hbB hhB hf hX hrow hd h hx hb2
  go_enter Tryz.func76, Tryz.ntmps76
  go_wp2_with (first
    | (go_at_call 80; refine HIX.out.mono ?_; rintro e w1 ⟨rfl, hb1⟩; obtain ⟨x0, x1, x2, x3⟩ := HX.out.below hb1 (lt_of_cell HX.out.1); simp only [Nat.zero_add] at x1 x2 x3; have H1 := hid hb1; clear HIX hb1)
    | (go_at_call 107; generalize hV : World.alloc _ _ = V; have hbV : Below wB.heap.size wB V := (by rw [← hV]; exact H1.out.alloc H1.out.size _); have hvV : V.heap[w1.heap.size]? = some (nrO x) := (by rw [← hV]; exact World.alloc_heap_new w1 _); refine (HINS.out V w1.heap.size hbV hvV (fun e => by have q1 := (HR.out.1.lt e).1; have q2 := H1.out.size; omega)).mono ?_; rintro e w2 ⟨⟨v, rfl, hv, hk2⟩, hb2⟩; have H2 := hid (And.intro hv (And.intro ((HR.out.2.1.mono HR.out.2.2).trans ((hbV.mono (Nat.le_trans HR.out.2.2 HR.out.2.1.size)).trans hb2)) (show GrewBy w w2 (.slice ao xs.length cap) v from ⟨fun k hk hne => (hk2.keep k (Nat.lt_of_lt_of_le hk (Nat.le_trans HR.out.2.1.size hbV.size)) hne).trans ((hbV.block k (Nat.lt_of_lt_of_le hk HR.out.2.1.size)).trans (HR.out.2.1.block k hk)), fun k hk => (hk2.own k hk).imp (fun q => q) (fun q => Nat.le_trans (Nat.le_trans HR.out.2.1.size hbV.size) q)⟩))); clear HINS hv hb2 hk2 hV hbV hvV))
  go_ret
  exact ⟨⟨_, rfl, H2.out.1, H2.out.2.2⟩, H2.out.2.1⟩

set_option maxRecDepth 100000 in
set_option maxHeartbeats 3200000 in
theorem withNode_mid {w : World} {base n cap j : Nat} {ao : Option Addr} {xs : List NR} (h : NdRow w base (.slice ao n cap) xs) (hn : xs.length = n) (hb : base ≤ w.heap.size) (hl : n ≤ 1000) (x : NR) (hx : idxG x.id xs 0 = (j : Int)) (hj : j < n) :
    Calls Tryz.prog 36 #[plV (.slice ao n cap) (.slice none 0 0), nrV x] w fun e w' => (∃ v, e = .returned (plV v (.slice none 0 0)) ∧ NdRow w' base v (xs.take j ++ x :: xs.drop j)) ∧ Below base w w' := by
  obtain ⟨wP, hwP⟩ : ∃ wP, w.alloc (.cells #[.slice ao n cap, .slice none 0 0] 25) = wP := ⟨_, rfl⟩
  have hbP : Below w.heap.size w wP := by rw [← hwP]; exact (Below.refl _ w).alloc (Nat.le_refl _) _
  have hhP : wP.heap[w.heap.size]? = some (.cells #[.slice ao n cap, .slice none 0 0] 25 (0, 0)) := by rw [← hwP]; exact World.alloc_heap_new w _
  obtain ⟨wQ, hwQ⟩ : ∃ wQ, wP.alloc (nrO x) = wQ := ⟨_, rfl⟩
  have hbQ : Below wP.heap.size wP wQ := by rw [← hwQ]; exact (Below.refl _ wP).alloc (Nat.le_refl _) _
  have hhQ : wQ.heap[wP.heap.size]? = some (nrO x) := by rw [← hwQ]; exact World.alloc_heap_new wP _
  obtain ⟨wR, hwR⟩ : ∃ wR, wQ.alloc (.cells #[.slice none 0 0, .slice none 0 0] 25) = wR := ⟨_, rfl⟩
  have hbR : Below wQ.heap.size wQ wR := by rw [← hwR]; exact (Below.refl _ wQ).alloc (Nat.le_refl _) _
  have hhR : wR.heap[wQ.heap.size]? = some (.cells #[.slice none 0 0, .slice none 0 0] 25 (0, 0)) := by rw [← hwR]; exact World.alloc_heap_new wQ _
  have l1 : w.heap.size < wP.heap.size := lt_of_heap hhP
  have l2 : wP.heap.size < wQ.heap.size := lt_of_heap hhQ
  have l3 : wQ.heap.size < wR.heap.size := lt_of_heap hhR
  have hhQ' := (hbR.block _ l2).trans hhQ
  have hhP' := (hbR.block _ (by omega)).trans ((hbQ.block _ l1).trans hhP)
  obtain ⟨c0, c1, c2, c3⟩ := box2_cell hhP'
  obtain ⟨q0, q1, q2, q3⟩ := nr_cells hhQ'
  simp only [Nat.zero_add] at q1 q2 q3
  have hbw : Below w.heap.size w wR := hbP.trans ((hbQ.mono hbP.size).trans (hbR.mono (Nat.le_trans hbP.size hbQ.size)))
  have HI := hid (insertN_mid (h.below hbw) hn (by omega) hl x hx hj)
  have HB := hid (And.intro hbw (And.intro hhP' (And.intro hhR (And.intro l1 (And.intro l2 l3)))))
  have hL : (xs.take j ++ x :: xs.drop j).length = n + 1 := by rw [List.length_append, List.length_cons, List.length_take, List.length_drop, hn, Nat.min_eq_left (by omega)]; omega
  have HG := hid (show ∀ k, (Value.slice ao n cap).ownBlock = some k → k < w.heap.size from fun k hk => (h.lt hk).1)
  clear hbP hhP hbQ hhQ hbR hhR hhQ' hhP' h hx hbw
  go_enter Tryz.func36, Tryz.ntmps36
  go_wp2_with (go_at_call 76; refine HI.out.mono ?_; rintro e w1 ⟨⟨v, rfl, hv, hk1⟩, hb1⟩; obtain ⟨vo, vc, hve, hvc, hvg⟩ := hv.form; rw [hL] at hve hvc hvg; subst hve; have hne : ∀ k, w.heap.size ≤ k → (Value.slice ao n cap).ownBlock ≠ some k := (fun k hk e => by have := HG.out k e; omega); have hP1 := (hk1.keep w.heap.size (by omega) (hne _ (Nat.le_refl _))).trans HB.out.2.1; have hR1 := (hk1.keep wQ.heap.size (by omega) (hne _ (by omega))).trans HB.out.2.2.1; clear c0 c1 c2 c3 q0 q1 q2 q3; obtain ⟨c0, c1, c2, c3⟩ := box2_cell hP1; obtain ⟨r0, r1, r2, r3⟩ := box2_cell hR1; have e1 : ¬ w.heap.size = wQ.heap.size := (by omega); have e2 : ¬ wQ.heap.size = w.heap.size := (by omega); have H1 := hid (And.intro hv (And.intro hb1 (And.intro hP1 (And.intro hR1 hk1)))); clear HI hv hb1 hk1 hvc hvg hne hP1 hR1)
  obtain ⟨hv, hb1, hP1, hR1, hk1⟩ := H1.out
  obtain ⟨V, hV⟩ : ∃ V, w1.setCell ⟨w.heap.size, 0, none⟩ (.slice vo (n + 1) vc) = V := ⟨_, rfl⟩
  obtain ⟨U, hU⟩ : ∃ U, (V.setCell ⟨wQ.heap.size, 0, none⟩ (.slice vo (n + 1) vc)).setCell ⟨wQ.heap.size, 1, none⟩ (.slice none 0 0) = U := ⟨_, rfl⟩
  have hO : ∀ k, k ≠ w.heap.size → V.heap[k]? = w1.heap[k]? := fun k hk => by rw [← hV]; exact Below.heap_setCell _ _ _ k hk
  have hRU : U.heap[wQ.heap.size]? = some (.cells #[.slice vo (n + 1) vc, .slice none 0 0] 25 (0, 0)) := by rw [← hU]; exact set1 (set1 ((hO _ e2).trans hR1) _) _
  have hO2 : ∀ k, k ≠ wQ.heap.size → U.heap[k]? = V.heap[k]? := fun k hk => by rw [← hU]; exact (Below.heap_setCell _ _ _ k hk).trans (Below.heap_setCell _ _ _ k hk)
  have hbw := HB.out.1
  have hq : base ≤ wQ.heap.size := by omega
  have hbU : Below base w U := by rw [← hU, ← hV]; exact ((((hbw.mono hb).trans hb1).setCell hb _).setCell hq _).setCell hq _
  have hrU : NdRow U base (.slice vo (n + 1) vc) (xs.take j ++ x :: xs.drop j) := hv.same fun g hg => (hO2 g (by rcases hk1.own g hg with q | q; have := HG.out g q; omega; omega)).trans (hO g (by rcases hk1.own g hg with q | q; have := HG.out g q; omega; omega))
  obtain ⟨u0, u1, _, _⟩ := box2_cell hRU
  rw [hV, hU]
  clear hU hV hRU hO hO2 hv hb1 hP1 hR1 hk1
  (try simp only [Exit.inBlock, Exit.then])
  refine bodyPost_ret (v := plV (.slice vo (n + 1) vc) (.slice none 0 0)) (by simp [results, Tryz.results36, go_sem, u0, u1]) rfl ?_
  exact ⟨⟨_, rfl, hrU⟩, hbU⟩
end Go.Proofs.YtdjbjadaldndcaaGreat

namespace Go.Proofs.YtdjbjadaldndcaaGreat
open Go.RowKit Go.Shelf Go.Sort Go.Maps

set_option maxRecDepth 100000 in
set_option maxHeartbeats 6400000 in
theorem addNode_mid {w : World} {nb noff nl nc ec j : Nat} {no : Option Addr} {ns : List NR} (hd : NdE w nb noff nl no ns) (h0 : nl = 0 → no = none) (hi : ∀ x ∈ ns, -1000000 ≤ x.id ∧ x.id ≤ 1000000) (hr : RiseN ns) {qx qy : Int} (hq : okP qx qy = true) (ht : ns.any (atN qx qy) = false) (hl : nl < 200) (hu : idxG (unL (ns.map (·.id))) ns 0 = (j : Int)) (hj : j < nl) :
    Calls Tryz.prog 15 #[plV (.slice no nl nc) (.slice none 0 ec), pv qx qy] w fun e w' => (∃ v, e = .returned (.tuple #[plV v (.slice none 0 0), .int .i64 (unL (ns.map (·.id))), .int .i64 0]) ∧ NdRow w' w.heap.size v (ns.take j ++ ⟨unL (ns.map (·.id)), qx, qy, 0⟩ :: ns.drop j)) ∧ Below w.heap.size w w' := by
  obtain ⟨wP, hwP⟩ : ∃ wP, w.alloc (.cells #[.slice no nl nc, .slice none 0 ec] 25) = wP := ⟨_, rfl⟩
  have hbP : Below w.heap.size w wP := by rw [← hwP]; exact (Below.refl _ w).alloc (Nat.le_refl _) _
  have hhP : wP.heap[w.heap.size]? = some (.cells #[.slice no nl nc, .slice none 0 ec] 25 (0, 0)) := by rw [← hwP]; exact World.alloc_heap_new w _
  obtain ⟨wQ, hwQ⟩ : ∃ wQ, wP.alloc (.cells #[.int .i64 qx, .int .i64 qy] 27) = wQ := ⟨_, rfl⟩
  have hbQ : Below wP.heap.size wP wQ := by rw [← hwQ]; exact (Below.refl _ wP).alloc (Nat.le_refl _) _
  have hhQ : wQ.heap[wP.heap.size]? = some (.cells #[.int .i64 qx, .int .i64 qy] 27 (0, 0)) := by rw [← hwQ]; exact World.alloc_heap_new wP _
  obtain ⟨wR, hwR⟩ : ∃ wR, wQ.alloc (.cells #[.slice none 0 0, .slice none 0 0] 25) = wR := ⟨_, rfl⟩
  have hbR : Below wQ.heap.size wQ wR := by rw [← hwR]; exact (Below.refl _ wQ).alloc (Nat.le_refl _) _
  have hhR : wR.heap[wQ.heap.size]? = some (.cells #[.slice none 0 0, .slice none 0 0] 25 (0, 0)) := by rw [← hwR]; exact World.alloc_heap_new wQ _
  have l1 : w.heap.size < wP.heap.size := lt_of_heap hhP
  have l2 : wP.heap.size < wQ.heap.size := lt_of_heap hhQ
  have l3 : wQ.heap.size < wR.heap.size := lt_of_heap hhR
  have hhQ' := (hbR.block _ l2).trans hhQ
  have hhP' := (hbR.block _ (by omega)).trans ((hbQ.block _ l1).trans hhP)
  have BX : ∀ W, Below wR.heap.size wR W → W.heap[w.heap.size]? = some (.cells #[.slice no nl nc, .slice none 0 ec] 25 (0, 0)) ∧ W.heap[wP.heap.size]? = some (.cells #[.int .i64 qx, .int .i64 qy] 27 (0, 0)) ∧ W.heap[wQ.heap.size]? = some (.cells #[.slice none 0 0, .slice none 0 0] 25 (0, 0)) := fun W hW => ⟨(hW.block _ (by omega)).trans hhP', (hW.block _ (by omega)).trans hhQ', (hW.block _ (by omega)).trans hhR⟩
  have HS := hid (show ∀ W, Below wR.heap.size wR W → W.cell? ⟨w.heap.size, 0, none⟩ = some (.slice no nl nc) ∧ W.cell? ⟨w.heap.size, 1, none⟩ = some (.slice none 0 ec) ∧ W.cell? ⟨wP.heap.size, 0, none⟩ = some (.int .i64 qx) ∧ W.cell? ⟨wP.heap.size, 1, none⟩ = some (.int .i64 qy) from fun W hW => by
    obtain ⟨b1, b2, _⟩ := BX W hW
    exact ⟨(box2_cell b1).1, (box2_cell b1).2.1, by simp [World.cell?, b2], by simp [World.cell?, b2]⟩)
  obtain ⟨c0, c1, _, _⟩ := box2_cell hhP'
  have q0 : wR.cell? ⟨wP.heap.size, 0, none⟩ = some (.int .i64 qx) := by simp [World.cell?, hhQ']
  have q1 : wR.cell? ⟨wP.heap.size, 1, none⟩ = some (.int .i64 qy) := by simp [World.cell?, hhQ']
  have hbw : Below w.heap.size w wR := hbP.trans ((hbQ.mono hbP.size).trans (hbR.mono (Nat.le_trans hbP.size hbQ.size)))
  have HB := hid (And.intro hbw BX)
  have HOK := hid (fun W => ok_any qx qy W)
  rw [hq] at HOK
  have HFA := hid (fun W (hW : Below wR.heap.size wR W) => topoFaceAt_bare (ec := ec) (nc := nc) (hd.below (hbw.trans (hW.mono hbw.size))) h0 hi hr qx qy)
  rw [ht] at HFA
  have HNI := hid (fun W (hW : Below wR.heap.size wR W) => (nodeIDs_any (nc := nc) (hd.below (hbw.trans (hW.mono hbw.size))) (.slice none 0 ec)).mono (R' := fun e w' => (∃ v, e = .returned v ∧ NRow w' W.heap.size v (ns.map (·.id))) ∧ Below wR.heap.size wR w' ∧ Below W.heap.size W w') fun e w' h => ⟨h.1, hW.trans (h.2.mono hW.size), h.2⟩)
  have HUN := hid (fun W v (hW : Below wR.heap.size wR W) (hv : Nums W v (ns.map (·.id))) => (unused_any hv (by rw [List.length_map, hd.len]; omega)).mono (R' := fun e w' => e = .returned (.int .i64 (unL (ns.map (·.id)))) ∧ Below wR.heap.size wR w' ∧ Below W.heap.size W w') fun e w' h => ⟨h.1, hW.trans (h.2.mono hW.size), h.2⟩)
  have HOF := hid (fun W (hW : Below wR.heap.size wR W) => ofBare_any (ec := ec) (nc := nc) (hd.below (hbw.trans (hW.mono hbw.size))) h0)
  have hlen := hd.len
  obtain ⟨I, hI⟩ : ∃ I, unL (ns.map (·.id)) = I := ⟨_, rfl⟩
  rw [hI] at HUN hu ⊢
  have HU := hid hu
  have hl200 : ¬ (200 : Int) ≤ (nl : Int) := by omega
  generalize ns.map (·.id) = IDS at HNI HUN
  clear hd hi hr hbP hhP hbQ hhQ hbR hhR hhQ' hhP' BX hbw hq ht hu hI
  go_enter Tryz.func15, Tryz.ntmps15
  go_wp2_with (first
    | (go_at_call 33; refine (HOK.out _).mono ?_; rintro e w1 ⟨rfl, hb1⟩; have H1 := hid hb1; have d0 := cell_below c0 hb1 (lt_of_cell c0); have d1 := cell_below c1 hb1 (lt_of_cell c1); have p0 := cell_below q0 hb1 (lt_of_cell q0); have p1 := cell_below q1 hb1 (lt_of_cell q1); clear HOK hb1 c0 c1 q0 q1)
    | (go_at_call 34; refine (HFA.out _ H1.out).mono ?_; rintro e w2 ⟨rfl, hb2⟩; have H2 := hid (H1.out.trans (hb2.mono H1.out.size)); have e0 := cell_below d0 hb2 (lt_of_cell d0); have e1 := cell_below d1 hb2 (lt_of_cell d1); have r0 := cell_below p0 hb2 (lt_of_cell p0); have r1 := cell_below p1 hb2 (lt_of_cell p1); clear HFA hb2 d0 d1 p0 p1))
  go_cut [9] from 28 to 33 (fun s9 wx => ∃ bn, s9 = .pointer (some ⟨bn, 0, none⟩) ∧ Hid (wx.heap[bn]? = some (nrO ⟨I, qx, qy, 0⟩) ∧ wR.heap.size ≤ bn ∧ Below wR.heap.size wR wx))
  case first =>
    go_region_held (fun w' => w'.cell? ⟨w.heap.size, 0, none⟩ = some (.slice no nl nc) ∧ w'.cell? ⟨w.heap.size, 1, none⟩ = some (.slice none 0 ec) ∧ w'.cell? ⟨wP.heap.size, 0, none⟩ = some (.int .i64 qx) ∧ w'.cell? ⟨wP.heap.size, 1, none⟩ = some (.int .i64 qy)) (first | exact ⟨e0, e1, r0, r1⟩ | exact HS.out _ H2.out.drew | exact HS.out _ (H2.out.drew.alloc H2.out.size _) | exact HS.out _ H3.out.2 | exact HS.out _ (H3.out.2.alloc H3.out.2.size _) | exact HS.out _ H4.out | exact HS.out _ (H4.out.alloc H4.out.size _) | exact HS.out _ ((((H4.out.setCell HL.out _).setCell HL.out _).setCell HL.out _).setCell HL.out _) | exact HS.out _ (((((H4.out.alloc H4.out.size _).setCell H4.out.size _).setCell H4.out.size _).setCell H4.out.size _).setCell H4.out.size _)) (first
      | (go_at_call 35; refine (HNI.out w2.drew H2.out.drew).mono ?_; rintro e w3 ⟨⟨v, rfl, hv⟩, hb3, hc3⟩; obtain ⟨vo, vc, hve⟩ := hv.form; subst hve; have H3 := hid (And.intro hv.nums hb3); obtain ⟨f0, f1, _, _⟩ := box2_cell (HB.out.2 _ hb3).1; clear hv hb3 hc3)
      | (go_at_call 35; refine (HNI.out (w2.drew.alloc (nrO ⟨0, 0, 0, 0⟩)) (H2.out.drew.alloc H2.out.size _)).mono ?_; rintro e w3 ⟨⟨v, rfl, hv⟩, hb3, hc3⟩; obtain ⟨vo, vc, hve⟩ := hv.form; subst hve; have H3 := hid (And.intro hv.nums hb3); have hZ := hid ((hc3.block w2.heap.size (by simp)).trans (World.alloc_heap_new w2.drew _)); clear hv hb3 hc3)
      | (go_at_call 13; refine (HUN.out w3 _ H3.out.2 H3.out.1).mono ?_; rintro e w4 ⟨rfl, hb4, hc4⟩; have H4 := hid hb4; (first | (have hY := (hc4.block w2.heap.size (lt_of_heap hZ.out)).trans hZ.out; obtain ⟨⟨z0, z1, z2, z3⟩, zf⟩ := nr_box hY; have HY := hid hY; have HL := hid H2.out.size; clear hY) | skip); clear hb4 hc4)
      | (go_at_call 13; refine (HUN.out (w3.alloc (nrO ⟨0, 0, 0, 0⟩)) _ (H3.out.2.alloc H3.out.2.size _) (H3.out.1.below ((Below.refl _ w3).alloc (Nat.le_refl _) _))).mono ?_; rintro e w4 ⟨rfl, hb4, hc4⟩; have H4 := hid hb4; have hY := (hc4.block w3.heap.size (by simp)).trans (World.alloc_heap_new w3 _); obtain ⟨⟨z0, z1, z2, z3⟩, zf⟩ := nr_box hY; have HY := hid hY; have HL := hid H3.out.2.size; clear hY hb4 hc4))
    all_goals (go_wp2; go_meet)
    · exact ⟨_, rfl, hid ⟨World.alloc_heap_new _ _, H4.out.size, H4.out.alloc H4.out.size _⟩⟩
    · exact ⟨_, rfl, hid ⟨set1 (set1 (set1 (set1 HY.out _) _) _) _, HL.out, (((H4.out.setCell HL.out _).setCell HL.out _).setCell HL.out _).setCell HL.out _⟩⟩
    · exact ⟨_, rfl, hid ⟨set1 (set1 (set1 (set1 HY.out _) _) _) _, HL.out, (((H4.out.setCell HL.out _).setCell HL.out _).setCell HL.out _).setCell HL.out _⟩⟩
  case rest =>
    obtain ⟨bn, rfl, hN⟩ := hcut
    have hbc := hN.out.2.2
    have hbnl : bn < wc.heap.size := lt_of_heap hN.out.1
    obtain ⟨b1, b2, b3⟩ := HB.out.2 wc hbc
    have SS : ∀ W : World, W.heap[w.heap.size]? = some (.cells #[.slice no nl nc, .slice none 0 ec] 25 (0, 0)) → W.heap[bn]? = some (nrO ⟨I, qx, qy, 0⟩) → W.cell? ⟨w.heap.size, 0, none⟩ = some (.slice no nl nc) ∧ W.cell? ⟨w.heap.size, 1, none⟩ = some (.slice none 0 ec) ∧ W.cell? ⟨bn, 0, none⟩ = some (.int .i64 I) ∧ W.cell? ⟨bn, 1, none⟩ = some (.int .i64 qx) ∧ W.cell? ⟨bn, 2, none⟩ = some (.int .i64 qy) ∧ W.cell? ⟨bn, 3, none⟩ = some (.int .i64 0) := fun W h1 h2 => ⟨(box2_cell h1).1, (box2_cell h1).2.1, (nr_box h2).1⟩
    have hwl : w.heap.size < wc.heap.size := Nat.lt_of_lt_of_le (Nat.lt_trans l1 (Nat.lt_trans l2 l3)) hbc.size
    have hQl : wQ.heap.size < wc.heap.size := Nat.lt_of_lt_of_le l3 hbc.size
    have hge := hN.out.2.1
    have HS1 := hid (fun (W : World) (hW : Below wc.heap.size wc W) => SS W ((hW.block _ hwl).trans b1) ((hW.block _ hbnl).trans hN.out.1))
    have HS2 := hid (fun (W : World) (x y : Value) (hW : Below wc.heap.size wc W) => SS ((W.setCell ⟨wQ.heap.size, 0, none⟩ x).setCell ⟨wQ.heap.size, 1, none⟩ y) ((Below.heap_setCell _ _ _ _ (show w.heap.size ≠ wQ.heap.size by omega)).trans ((Below.heap_setCell _ _ _ _ (show w.heap.size ≠ wQ.heap.size by omega)).trans ((hW.block _ hwl).trans b1))) ((Below.heap_setCell _ _ _ _ (show bn ≠ wQ.heap.size by omega)).trans ((Below.heap_setCell _ _ _ _ (show bn ≠ wQ.heap.size by omega)).trans ((hW.block _ hbnl).trans hN.out.1))))
    obtain ⟨s0, s1, s2, s3, s4, s5⟩ := SS wc b1 hN.out.1
    have HO := hid (HOF.out wc.drew hbc.drew)
    have HBC := hid (And.intro hbc (And.intro b3 hQl))
    have hL : (ns.take j ++ (⟨I, qx, qy, 0⟩ : NR) :: ns.drop j).length = nl + 1 := by rw [List.length_append, List.length_cons, List.length_take, List.length_drop, hlen, Nat.min_eq_left (by omega)]; omega
    clear SS hN b1 b2 b3 hbc HOF
    go_wp2
    go_region_held (fun w' => w'.cell? ⟨w.heap.size, 0, none⟩ = some (.slice no nl nc) ∧ w'.cell? ⟨w.heap.size, 1, none⟩ = some (.slice none 0 ec) ∧ w'.cell? ⟨bn, 0, none⟩ = some (.int .i64 I) ∧ w'.cell? ⟨bn, 1, none⟩ = some (.int .i64 qx) ∧ w'.cell? ⟨bn, 2, none⟩ = some (.int .i64 qy) ∧ w'.cell? ⟨bn, 3, none⟩ = some (.int .i64 0)) (first | with_reducible exact HS2.out _ _ _ H6.out.2 | with_reducible exact HS1.out _ H6.out.2 | with_reducible exact HS1.out _ H5.out.2 | exact ⟨s0, s1, s2, s3, s4, s5⟩) (first
      | (go_at_call 37; refine HO.out.mono ?_; rintro e w5 ⟨⟨v, rfl, hv⟩, hb5⟩; obtain ⟨vo, vc, hve, hvc, hvg⟩ := hv.form; rw [hlen] at hve; subst hve; have H5 := hid (And.intro hv (show Below wc.heap.size wc w5 from (Below.refl _ wc).drew.trans hb5)); clear hv hb5 hvc hvg HO)
      | (go_at_call 36; refine (withNode_mid H5.out.1 hlen H5.out.2.size (by omega) ⟨I, qx, qy, 0⟩ HU.out hj).mono ?_; rintro e w6 ⟨⟨v, rfl, hv⟩, hb6⟩; obtain ⟨uo, uc, hve, huc, hug⟩ := hv.form; rw [hL] at hve; subst hve; have H6 := hid (And.intro hv (show Below wc.heap.size wc w6 from H5.out.2.trans hb6)); have hh6 := ((H5.out.2.trans hb6).block _ HBC.out.2.2).trans HBC.out.2.1; obtain ⟨t0, t1, t2, t3⟩ := box2_cell hh6; have HT := hid hh6; clear hv hb6 huc hug hh6))
    go_wp2
    obtain ⟨hv6, hb6⟩ := H6.out
    have hqw : w.heap.size ≤ wQ.heap.size := by omega
    have hwc : w.heap.size ≤ wc.drew.heap.size := Nat.le_of_lt hwl
    obtain ⟨U, hU⟩ : ∃ U, (w6.setCell ⟨wQ.heap.size, 0, none⟩ (.slice uo (nl + 1) uc)).setCell ⟨wQ.heap.size, 1, none⟩ (.slice none 0 0) = U := ⟨_, rfl⟩
    have hUU : U.heap[wQ.heap.size]? = some (.cells #[.slice uo (nl + 1) uc, .slice none 0 0] 25 (0, 0)) := by rw [← hU]; exact set1 (set1 HT.out _) _
    have hO : ∀ k, k ≠ wQ.heap.size → U.heap[k]? = w6.heap[k]? := fun k hk => by rw [← hU]; exact (Below.heap_setCell _ _ _ k hk).trans (Below.heap_setCell _ _ _ k hk)
    have hbU : Below w.heap.size w U := by rw [← hU]; exact ((HB.out.1.trans ((HBC.out.1.trans (hb6.mono HBC.out.1.size)).mono HB.out.1.size)).setCell hqw _).setCell hqw _
    have hrU : NdRow U w.heap.size (.slice uo (nl + 1) uc) (ns.take j ++ ⟨I, qx, qy, 0⟩ :: ns.drop j) := (hv6.toBase hwc).same fun g hg => hO g (by have q1 : wc.heap.size ≤ g := (hv6.lt hg).2; omega)
    obtain ⟨u0, u1, _, _⟩ := box2_cell hUU
    rw [hU]
    clear hU hUU hO hv6 hb6
    (try simp only [Exit.inBlock, Exit.then])
    refine bodyPost_ret (v := .tuple #[plV (.slice uo (nl + 1) uc) (.slice none 0 0), .int .i64 I, .int .i64 0]) (by simp [results, Tryz.results15, go_sem, u0, u1]) rfl ?_
    exact ⟨⟨_, rfl, hrU⟩, hbU⟩
end Go.Proofs.YtdjbjadaldndcaaGreat

namespace Go.Proofs.YtdjbjadaldndcaaGreat
open Go.RowKit Go.Shelf Go.Sort Go.Maps

/-- The node at a place. -/
def flN (t : Nat) : NR := ⟨(t : Int) + 1, t, (t : Int) * t, 0⟩
def fillN (i : Nat) : List NR := (List.range i).map flN
theorem fillN_len (i : Nat) : (fillN i).length = i := by unfold fillN; rw [List.length_map, List.length_range]
theorem fillN_at {i t : Nat} (h : t < i) : (fillN i)[t]? = some (flN t) := by unfold fillN; rw [List.getElem?_map, List.getElem?_range h]; rfl
theorem fillN_get {i t : Nat} {x : NR} (h : (fillN i)[t]? = some x) : t < i ∧ x = flN t := by
  have ht : t < i := by have := (List.getElem?_eq_some_iff.1 h).1; rwa [fillN_len] at this
  rw [fillN_at ht] at h
  exact ⟨ht, by injection h with h; exact h.symm⟩
theorem fillN_mem {i : Nat} {x : NR} (h : x ∈ fillN i) : ∃ t, t < i ∧ x = flN t := by
  obtain ⟨t, ht⟩ := List.mem_iff_getElem?.1 h
  exact ⟨t, fillN_get ht⟩
theorem fillN_succ (i : Nat) : fillN (i + 1) = fillN i ++ [flN i] := by unfold fillN; rw [List.range_succ, List.map_append]; rfl
theorem fillN_rise (i : Nat) : RiseN (fillN i) := fun a b x y hab hx hy => by
  obtain ⟨_, rfl⟩ := fillN_get hx
  obtain ⟨_, rfl⟩ := fillN_get hy
  show (a : Int) + 1 < (b : Int) + 1
  omega
theorem fillN_un (i : Nat) : unL ((fillN i).map (·.id)) = (i : Int) + 1 := by
  obtain ⟨h1, h2, h3, h4⟩ := unL_spec ((fillN i).map (·.id))
  have hin : ∀ z : Int, 1 ≤ z → z ≤ i → z ∈ (fillN i).map (·.id) := fun z hz1 hz2 => by
    refine List.mem_map.2 ⟨flN (z - 1).toNat, List.mem_iff_getElem?.2 ⟨(z - 1).toNat, fillN_at (by omega)⟩, ?_⟩
    show ((z - 1).toNat : Int) + 1 = z
    omega
  have hout : (i : Int) + 1 ∉ (fillN i).map (·.id) := fun h => by
    obtain ⟨x, hx, e⟩ := List.mem_map.1 h
    obtain ⟨t, ht, rfl⟩ := fillN_mem hx
    have e' : (t : Int) + 1 = (i : Int) + 1 := e
    omega
  by_cases ha : unL ((fillN i).map (·.id)) ≤ i
  · exact absurd (hin _ h1 ha) h3
  · by_cases hb : (i : Int) + 1 < unL ((fillN i).map (·.id))
    · exact absurd (h2 _ (by omega) hb) hout
    · omega
theorem fillN_free {L i : Nat} (h : L ≤ i) (q : Int) : (fillN L).any (atN i q) = false := by
  rw [List.any_eq_false]
  intro x hx
  obtain ⟨t, ht, rfl⟩ := fillN_mem hx
  unfold atN flN
  have e : ((t : Int) == (i : Int)) = false := by rw [beq_eq_false_iff_ne]; omega
  simp only [e, Bool.false_and, Bool.false_eq_true, not_false_eq_true]
theorem fillN_ok : ∀ i : Fin 205, okP ((i.1 : Nat) : Int) (((i.1 : Nat) : Int) * ((i.1 : Nat) : Int)) = true := by decide +kernel
theorem fillN_few {i : Nat} (h : i ≤ 1000) : ∀ x ∈ fillN i, -1000000 ≤ x.id ∧ x.id ≤ 1000000 := fun x hx => by
  obtain ⟨t, ht, rfl⟩ := fillN_mem hx
  show -1000000 ≤ (t : Int) + 1 ∧ (t : Int) + 1 ≤ 1000000
  omega

/-- With one struck out. -/
def holeN (L k : Nat) : List NR := (fillN L).eraseIdx k
theorem holeN_eq {L k : Nat} (_h : k < L) : holeN L k = (fillN L).take k ++ (fillN L).drop (k + 1) := List.eraseIdx_eq_take_drop_succ ..
theorem holeN_len {L k : Nat} (h : k < L) : (holeN L k).length = L - 1 := by unfold holeN; rw [List.length_eraseIdx_of_lt (by rw [fillN_len]; exact h), fillN_len]
theorem holeN_get {L k t : Nat} (_h : k < L) {x : NR} (hx : (holeN L k)[t]? = some x) : x = flN (if t < k then t else t + 1) ∧ (if t < k then t else t + 1) < L := by
  unfold holeN at hx
  rw [List.getElem?_eraseIdx] at hx
  split at hx
  · rename_i hc
    obtain ⟨a, b⟩ := fillN_get hx
    rw [if_pos hc]
    exact ⟨b, a⟩
  · rename_i hc
    obtain ⟨a, b⟩ := fillN_get hx
    rw [if_neg hc]
    exact ⟨b, a⟩
theorem holeN_mem {L k : Nat} (h : k < L) {x : NR} (hx : x ∈ holeN L k) : ∃ t, t < L ∧ t ≠ k ∧ x = flN t := by
  obtain ⟨t, ht⟩ := List.mem_iff_getElem?.1 hx
  obtain ⟨rfl, hl⟩ := holeN_get h ht
  refine ⟨_, hl, ?_, rfl⟩
  split <;> omega
theorem holeN_rise {L k : Nat} (h : k < L) : RiseN (holeN L k) := fun a b x y hab hx hy => by
  obtain ⟨rfl, _⟩ := holeN_get h hx
  obtain ⟨rfl, _⟩ := holeN_get h hy
  unfold flN
  split <;> split <;> (dsimp only; omega)
theorem holeN_un {L k : Nat} (h : k < L) : unL ((holeN L k).map (·.id)) = (k : Int) + 1 := by
  obtain ⟨h1, h2, h3, h4⟩ := unL_spec ((holeN L k).map (·.id))
  have hin : ∀ z : Int, 1 ≤ z → z ≤ k → z ∈ (holeN L k).map (·.id) := fun z hz1 hz2 => by
    refine List.mem_map.2 ⟨flN (z - 1).toNat, List.mem_iff_getElem?.2 ⟨(z - 1).toNat, ?_⟩, ?_⟩
    · unfold holeN
      rw [List.getElem?_eraseIdx, if_pos (by omega), fillN_at (by omega)]
    · show ((z - 1).toNat : Int) + 1 = z
      omega
  have hout : (k : Int) + 1 ∉ (holeN L k).map (·.id) := fun hm => by
    obtain ⟨x, hx, e⟩ := List.mem_map.1 hm
    obtain ⟨t, ht, hne, rfl⟩ := holeN_mem h hx
    have e' : (t : Int) + 1 = (k : Int) + 1 := e
    omega
  by_cases ha : unL ((holeN L k).map (·.id)) ≤ k
  · exact absurd (hin _ h1 ha) h3
  · by_cases hb : (k : Int) + 1 < unL ((holeN L k).map (·.id))
    · exact absurd (h2 _ (by omega) hb) hout
    · omega
theorem holeN_free {L k : Nat} (h : k < L) (q : Int) : (holeN L k).any (atN (-5) q) = false := by
  rw [List.any_eq_false]
  intro x hx
  obtain ⟨t, ht, _, rfl⟩ := holeN_mem h hx
  unfold atN flN
  have e : ((t : Int) == (-5 : Int)) = false := by rw [beq_eq_false_iff_ne]; omega
  simp only [e, Bool.false_and, Bool.false_eq_true, not_false_eq_true]
theorem holeN_few {L k : Nat} (h : k < L) (hl : L ≤ 1000) : ∀ x ∈ holeN L k, -1000000 ≤ x.id ∧ x.id ≤ 1000000 := fun x hx => by
  obtain ⟨t, ht, _, rfl⟩ := holeN_mem h hx
  show -1000000 ≤ (t : Int) + 1 ∧ (t : Int) + 1 ≤ 1000000
  omega
/-- The first behind an ID, where those ahead of it are not. -/
theorem idxG_first {z : Int} : ∀ (ns : List NR) (a j : Nat) {y : NR}, (∀ (t : Nat) (x : NR), t < j → ns[t]? = some x → x.id ≤ z) → ns[j]? = some y → z < y.id → idxG z ns a = ((a + j : Nat) : Int)
  | [], _, _, _, _, h, _ => by simp at h
  | x :: l, a, 0, y, _, h, hz => by
    simp at h
    subst h
    rw [idxG, if_pos hz]
    rfl
  | x :: l, a, j + 1, y, h1, h, hz => by
    have := h1 0 x (by omega) rfl
    rw [idxG, if_neg (by omega), idxG_first l (a + 1) j (fun t x' ht hx' => h1 (t + 1) x' (by omega) (by rw [List.getElem?_cons_succ]; exact hx')) (by rw [List.getElem?_cons_succ] at h; exact h) hz]
    congr 1
    omega
theorem holeN_idx {L k : Nat} (h : k + 1 < L) : idxG ((k : Int) + 1) (holeN L k) 0 = (k : Int) := by
  have hy : (holeN L k)[k]? = some (flN (k + 1)) := by
    unfold holeN
    rw [List.getElem?_eraseIdx, if_neg (by omega), fillN_at (by omega)]
  have := idxG_first (z := (k : Int) + 1) (holeN L k) 0 k (fun t x ht hx => by
    obtain ⟨rfl, _⟩ := holeN_get (by omega) hx
    rw [if_pos ht]
    show (t : Int) + 1 ≤ (k : Int) + 1
    omega) hy (by show (k : Int) + 1 < ((k + 1 : Nat) : Int) + 1; omega)
  rw [this, Nat.zero_add]
theorem idxE_first {z : Int} : ∀ (ns : List NR) (a j : Nat) {y : NR}, (∀ (t : Nat) (x : NR), t < j → ns[t]? = some x → x.id ≠ z) → ns[j]? = some y → y.id = z → idxE z ns a = ((a + j : Nat) : Int)
  | [], _, _, _, _, h, _ => by simp at h
  | x :: l, a, 0, y, _, h, hz => by
    simp at h
    subst h
    rw [idxE, if_pos hz]
    rfl
  | x :: l, a, j + 1, y, h1, h, hz => by
    have := h1 0 x (by omega) rfl
    rw [idxE, if_neg this, idxE_first l (a + 1) j (fun t x' ht hx' => h1 (t + 1) x' (by omega) (by rw [List.getElem?_cons_succ]; exact hx')) (by rw [List.getElem?_cons_succ] at h; exact h) hz]
    congr 1
    omega
theorem fillN_idx {L k : Nat} (h : k < L) : idxE ((k : Int) + 1) (fillN L) 0 = (k : Int) := by
  have := idxE_first (z := (k : Int) + 1) (fillN L) 0 k (fun t x ht hx => by
    obtain ⟨_, rfl⟩ := fillN_get hx
    show (t : Int) + 1 ≠ (k : Int) + 1
    omega) (fillN_at h) rfl
  rw [this, Nat.zero_add]
/-- The hole filled anew. -/
def fullN (L k : Nat) : List NR := (holeN L k).take k ++ ⟨(k : Int) + 1, -5, -5, 0⟩ :: (holeN L k).drop k
theorem fullN_len {L k : Nat} (h : k < L) : (fullN L k).length = L := by unfold fullN; rw [List.length_append, List.length_cons, List.length_take, List.length_drop, holeN_len h, Nat.min_eq_left (by omega)]; omega
theorem fullN_at {L k : Nat} (h : k < L) : (fullN L k)[k]? = some ⟨(k : Int) + 1, -5, -5, 0⟩ := by
  unfold fullN
  have hl : ((holeN L k).take k).length = k := by rw [List.length_take, holeN_len h]; omega
  rw [List.getElem?_append_right (by omega), hl, Nat.sub_self]
  rfl
theorem addHole {w : World} {nb noff nc ec L k : Nat} {no : Option Addr} (hk : k < L) (hL : L ≤ 200) (hd : NdE w nb noff (L - 1) no (holeN L k)) (h0 : L - 1 = 0 → no = none) :
    Calls Tryz.prog 15 #[plV (.slice no (L - 1) nc) (.slice none 0 ec), pv (-5) (-5)] w fun e w' => (∃ v, e = .returned (.tuple #[plV v (.slice none 0 0), .int .i64 ((k : Int) + 1), .int .i64 0]) ∧ NdRow w' w.heap.size v (fullN L k)) ∧ Below w.heap.size w w' := by
  by_cases h1 : k + 1 < L
  · have q := addNode_mid (nc := nc) (ec := ec) (j := k) hd h0 (holeN_few hk (by omega)) (holeN_rise hk) (qx := -5) (qy := -5) (by decide) (holeN_free hk _) (by omega) (by rw [holeN_un hk]; exact holeN_idx h1) (by omega)
    rw [holeN_un hk] at q
    exact q
  · have q := addNode_bare (nc := nc) (ec := ec) hd h0 (holeN_few hk (by omega)) (holeN_rise hk) (qx := -5) (qy := -5) (by decide) (holeN_free hk _) (by omega) (fun x hx => by rw [holeN_un hk]; obtain ⟨t, ht, hne, rfl⟩ := holeN_mem hk hx; show (t : Int) + 1 ≤ (k : Int) + 1; omega)
    rw [holeN_un hk] at q
    have e : holeN L k ++ [(⟨(k : Int) + 1, -5, -5, 0⟩ : NR)] = fullN L k := by
      unfold fullN
      rw [List.take_of_length_le (by rw [holeN_len hk]; omega), List.drop_of_length_le (by rw [holeN_len hk]; omega)]
    rw [e] at q
    exact q
end Go.Proofs.YtdjbjadaldndcaaGreat

namespace Go.Proofs.YtdjbjadaldndcaaGreat
open Go.RowKit Go.Shelf Go.Sort Go.Maps

theorem and255 (n : Int) : bits .and .i64 n 255 = n % 256 := by
  have h31 : (BitVec.ofInt 64 255).toNat = 2 ^ 8 - 1 := by decide
  have key : (BitVec.ofInt 64 n &&& BitVec.ofInt 64 255).toNat = (n % ((2 ^ 64 : Nat) : Int)).toNat % 2 ^ 8 := by
    rw [BitVec.toNat_and, BitVec.toNat_ofInt, h31, Nat.and_two_pow_sub_one_eq_mod]
  show IntKind.i64.wrap ((BitVec.ofInt 64 n &&& BitVec.ofInt 64 255).toNat : Nat) = n % 256
  rw [key, IntKind.wrap_i64]
  omega
theorem and255_nat (y : Int) : ∃ p : Nat, bits .and .i64 y 255 = (p : Int) ∧ p < 256 := ⟨(y % 256).toNat, by rw [and255]; omega, by omega⟩

/-- The law's plan under way. -/
structure FlI (w : World) (i : Nat) (W : World) : Prop where
  plan : ∃ v, W.heap[w.heap.size]? = some (.cells #[v, .slice none 0 0] 25 (0, 0)) ∧ NdRow W (w.heap.size + 1) v (fillN i) ∧ (i = 0 → v = .slice none 0 0)
  below : Below w.heap.size w W
theorem FlI.parts {w W : World} {i : Nat} (h : FlI w i W) (hl : i ≤ 1000) : ∃ (b : Nat) (no : Option Addr) (nc : Nat), W.heap[w.heap.size]? = some (.cells #[.slice no i nc, .slice none 0 0] 25 (0, 0)) ∧ NdE W b 0 i no (fillN i) ∧ (i = 0 → no = none) ∧ w.heap.size < W.heap.size := by
  obtain ⟨v, h1, h2, h3⟩ := h.plan
  obtain ⟨b, no, nc, rfl, hd⟩ := h2.nde (by rw [fillN_len]; exact hl)
  rw [fillN_len] at h1 hd
  rw [fillN_len] at h3
  exact ⟨b, no, nc, h1, hd, fun h0 => by have := h3 h0; injection this, lt_of_heap h1⟩
/-- A call that leaves what was there, and a plan made new behind it. -/
theorem FlI.kept {w W W' : World} {i : Nat} (h : FlI w i W) (hb : Below W.heap.size W W') : FlI w i W' := by
  obtain ⟨v, h1, h2, h3⟩ := h.plan
  exact ⟨⟨v, (hb.block _ (lt_of_heap h1)).trans h1, h2.below hb, h3⟩, h.below.trans (hb.mono h.below.size)⟩
theorem FlI.next {w W W' : World} {i : Nat} {v : Value} (h : FlI w i W) (hb : Below W.heap.size W W') (hv : NdRow W' W.heap.size v (fillN i ++ [flN i])) :
    FlI w (i + 1) ((W'.setCell ⟨w.heap.size, 0, none⟩ v).setCell ⟨w.heap.size, 1, none⟩ (.slice none 0 0)) := by
  obtain ⟨v0, h1, _, _⟩ := h.plan
  have hlt := lt_of_heap h1
  have h1' := (hb.block _ hlt).trans h1
  refine ⟨⟨v, set1 (set1 h1' _) _, ?_, fun h0 => by omega⟩, ((h.below.trans (hb.mono h.below.size)).setCell (Nat.le_refl _) _).setCell (Nat.le_refl _) _⟩
  rw [fillN_succ]
  exact (hv.toBase (by omega)).same fun g hg => by
    have := (hv.lt hg).2
    exact (Below.heap_setCell _ _ _ _ (by show g ≠ w.heap.size; omega)).trans (Below.heap_setCell _ _ _ _ (by show g ≠ w.heap.size; omega))

set_option maxRecDepth 100000 in
set_option maxHeartbeats 6400000 in
theorem topoFills_walk (z y : Int) (w : World) :
    Calls Tryz.prog 5 #[.int .i64 z, .int .i64 y] w fun e w' => e = .returned (.bool true) ∧ Below w.heap.size w w' := by
  obtain ⟨p, hp, hp256⟩ := and255_nat z
  obtain ⟨r, hr, hr256⟩ := and255_nat y
  obtain ⟨q, hqt, hqe, hq16⟩ : ∃ q : Nat, (p : Int).tmod 16 = (q : Int) ∧ (p : Int) % 16 = (q : Int) ∧ q < 16 := ⟨p % 16, by rw [Int.tmod_eq_emod_of_nonneg (by omega)]; omega, by omega, by omega⟩
  obtain ⟨N, hN⟩ : ∃ N : Nat, q + 190 = N := ⟨_, rfl⟩
  have hNq : (q : Int) + 190 = (N : Int) := by omega
  have hwN : IntKind.i64.wrap ((q : Int) + 190) = (N : Int) := by rw [IntKind.wrap_i64]; omega
  have HNB := hid (show 190 ≤ N ∧ N ≤ 205 by omega)
  clear hN
  go_enter Tryz.func5, Tryz.ntmps5
  go_upto_region 4 with fail
  obtain ⟨W0, hW0⟩ : ∃ W0, w.alloc (.cells #[.slice none 0 0, .slice none 0 0] 25) = W0 := ⟨_, rfl⟩
  rw [hW0]
  have HW0 := hid (show FlI w 0 W0 from ⟨⟨.slice none 0 0, by rw [← hW0]; exact World.alloc_heap_new w _, NdRow.nil _ _, fun _ => rfl⟩, by rw [← hW0]; exact (Below.refl _ w).alloc (Nat.le_refl _) _⟩)
  clear hW0 hqt hqe hNq hwN hp
  go_loopw [6, 7, 8, 9] (fun iv _ _ _ wr => ∃ i : Nat, i ≤ N ∧ iv = .int .i64 (i : Int) ∧ FlI w (min i 200) wr) (fun iv _ _ _ _ => N - (intOf iv).toNat)
  case atStart => exact ⟨0, Nat.zero_le _, rfl, HW0.out⟩
  case round =>
    obtain ⟨i, hi, rfl, hF⟩ := hrel
    have hN := HNB.out
    by_cases hlt : i < N
    · have hltI : (i : Int) < (N : Int) := by omega
      have hw1 : IntKind.i64.wrap ((i : Int) * (i : Int)) = (i : Int) * (i : Int) := by
        have h1 : (i : Int) * (i : Int) ≤ 205 * 205 := Int.mul_le_mul (by omega) (by omega) (by omega) (by omega)
        have h2 : 0 ≤ (i : Int) * (i : Int) := Int.mul_nonneg (by omega) (by omega)
        rw [IntKind.wrap_i64]
        omega
      have hw2 : IntKind.i64.wrap ((i : Int) + 1) = (i : Int) + 1 := by rw [IntKind.wrap_i64]; omega
      by_cases hi2 : i < 200
      · have hm : min i 200 = i := by omega
        rw [hm] at hF
        obtain ⟨b, no, nc, hB, hd, h0, hlB⟩ := hF.parts (by omega)
        have HA := hid (addNode_bare (nc := nc) (ec := 0) hd h0 (fillN_few (by omega)) (fillN_rise i) (qx := (i : Int)) (qy := (i : Int) * (i : Int)) (fillN_ok ⟨i, by omega⟩) (fillN_free (Nat.le_refl _) _) hi2 (fun x hx => by rw [fillN_un]; obtain ⟨t, ht, rfl⟩ := fillN_mem hx; show (t : Int) + 1 ≤ (i : Int) + 1; omega))
        rw [fillN_un] at HA
        obtain ⟨c0, c1, c2, c3⟩ := box2_cell hB
        have hi2I : ¬ (200 : Int) ≤ (i : Int) := by omega
        have hbb : ((i : Int) + 1 == (i : Int) + 1) = true := by simp
        have HF := hid (And.intro hF (And.intro hB hlB))
        clear hF hd h0 hB hlB
        go_upto_region 7 with (go_at_call 15; refine HA.out.mono ?_; rintro e w1 ⟨⟨v, rfl, hv⟩, hb1⟩; obtain ⟨vo, vc, hve, _, _⟩ := hv.form; rw [List.length_append, fillN_len] at hve; subst hve; have H1 := hid (And.intro hv hb1); clear HA hv hb1)
        obtain ⟨W2, hW2⟩ : ∃ W2, w1.alloc (.cells #[.slice vo (i + 1) vc, .slice none 0 0] 25) = W2 := ⟨_, rfl⟩
        have hb2 : Below w1.heap.size w1 W2 := by rw [← hW2]; exact (Below.refl _ w1).alloc (Nat.le_refl _) _
        have hh2 : W2.heap[w1.heap.size]? = some (.cells #[.slice vo (i + 1) vc, .slice none 0 0] 25 (0, 0)) := by rw [← hW2]; exact World.alloc_heap_new w1 _
        rw [hW2]
        have hb12 : Below wr.heap.size wr W2 := H1.out.2.trans (hb2.mono H1.out.2.size)
        obtain ⟨t0, t1, _, _⟩ := box2_cell hh2
        obtain ⟨d0, d1, d2, d3⟩ := box2_cell ((hb12.block _ HF.out.2.2).trans HF.out.2.1)
        have HN := hid (HF.out.1.next (v := .slice vo (i + 1) vc) hb12 (H1.out.1.below hb2))
        clear c0 c1 c2 c3 hW2 hb2 hh2 hb12
        go_wp2
        go_roundw
        case rel => exact ⟨i + 1, by omega, by go_num, by rw [show min (i + 1) 200 = i + 1 by omega]; exact HN.out⟩
        case measure => simp [intOf]; omega
      · have hm : min i 200 = 200 := by omega
        rw [hm] at hF
        obtain ⟨b, no, nc, hB, hd, h0, hlB⟩ := hF.parts (by omega)
        have HA := hid (addNode_many (nc := nc) (ec := 0) hd h0 (fillN_few (by omega)) (fillN_rise 200) (qx := (i : Int)) (qy := (i : Int) * (i : Int)) (fillN_ok ⟨i, by omega⟩) (fillN_free (by omega) _) (by omega))
        obtain ⟨c0, c1, c2, c3⟩ := box2_cell hB
        have hi2I : (200 : Int) ≤ (i : Int) := by omega
        have HF := hid (And.intro hF (And.intro hB hlB))
        clear hF hd h0 hB hlB
        go_upto_region 7 with (go_at_call 15; refine HA.out.mono ?_; rintro e w1 ⟨rfl, hb1⟩; have H1 := hid hb1; clear HA hb1)
        obtain ⟨W2, hW2⟩ : ∃ W2, w1.alloc (.cells #[.slice none 0 0, .slice none 0 0] 25) = W2 := ⟨_, rfl⟩
        have hb2 : Below w1.heap.size w1 W2 := by rw [← hW2]; exact (Below.refl _ w1).alloc (Nat.le_refl _) _
        have hh2 : W2.heap[w1.heap.size]? = some (.cells #[.slice none 0 0, .slice none 0 0] 25 (0, 0)) := by rw [← hW2]; exact World.alloc_heap_new w1 _
        rw [hW2]
        have hb12 : Below wr.heap.size wr W2 := H1.out.trans (hb2.mono H1.out.size)
        obtain ⟨t0, t1, _, _⟩ := box2_cell hh2
        have HN := hid (HF.out.1.kept hb12)
        clear c0 c1 c2 c3 hW2 hb2 hh2 hb12
        go_wp2
        go_roundw
        case rel => exact ⟨i + 1, by omega, by go_num, by rw [show min (i + 1) 200 = 200 by omega]; exact HN.out⟩
        case measure => simp [intOf]; omega
    · obtain rfl : i = N := by omega
      obtain ⟨L, hL⟩ : ∃ L : Nat, min i 200 = L := ⟨_, rfl⟩
      rw [hL] at hF
      have hL1 : 190 ≤ L ∧ L ≤ 200 := by omega
      have hmin : ∀ ts t (wx : World), (Builtin.min_ ts t #[.int .i64 (i : Int), .int .i64 200]).run Tryz.prog wx = .ok (.int .i64 (L : Int)) wx := fun ts t wx => by
        have e : (L : Int) = if (200 : Int) < (i : Int) then 200 else (i : Int) := by split <;> omega
        rw [e]
        simp [Builtin.min_, Builtin.min2]
      obtain ⟨s, hst, hse, hsL⟩ : ∃ s : Nat, (r : Int).tmod (L : Int) = (s : Int) ∧ (r : Int) % (L : Int) = (s : Int) ∧ s < L := ⟨r % L, by rw [Int.tmod_eq_emod_of_nonneg (by omega)]; omega, by omega, Nat.mod_lt _ (by omega)⟩
      have hw1 : IntKind.i64.wrap ((s : Int) + 1) = (s : Int) + 1 := by rw [IntKind.wrap_i64]; omega
      have hL0 : ¬ (L : Int) = 0 := by omega
      have hL0b : ((L : Int) == 0) = false := by rw [beq_eq_false_iff_ne]; omega
      have hLp : (1 : Int) ≤ (L : Int) := by omega
      obtain ⟨b, no, nc, hB, hd, h0, hlB⟩ := hF.parts (by omega)
      have HR := hid (remNode_bare (nc := nc) (ec := 0) hd h0 (z := (s : Int) + 1) (j := s) (fillN_at hsL) (fillN_idx hsL))
      obtain ⟨c0, c1, c2, c3⟩ := box2_cell hB
      have HF := hid (And.intro hF (And.intro hB hlB))
      clear hF hd h0 hB hlB hlt hL
      go_upto_region 15 with (go_at_call 16; refine HR.out.mono ?_; rintro e w1 ⟨⟨v, rfl, hv⟩, hb1⟩; obtain ⟨b1, vo, vc, hve, hd1⟩ := hv.nde (by rw [show (fillN L).eraseIdx s = holeN L s from rfl, holeN_len hsL]; omega); rw [show (fillN L).eraseIdx s = holeN L s from rfl, holeN_len hsL] at hve hd1; subst hve; have H1 := hid (And.intro hd1 hb1); clear HR hv hb1 hd1)
      obtain ⟨W2, hW2⟩ : ∃ W2, w1.alloc (.cells #[.slice vo (L - 1) vc, .slice none 0 0] 25) = W2 := ⟨_, rfl⟩
      have hb2 : Below w1.heap.size w1 W2 := by rw [← hW2]; exact (Below.refl _ w1).alloc (Nat.le_refl _) _
      have hh2 : W2.heap[w1.heap.size]? = some (.cells #[.slice vo (L - 1) vc, .slice none 0 0] 25 (0, 0)) := by rw [← hW2]; exact World.alloc_heap_new w1 _
      rw [hW2]
      have hb12 : Below wr.heap.size wr W2 := H1.out.2.trans (hb2.mono H1.out.2.size)
      obtain ⟨t0, t1, _, _⟩ := box2_cell hh2
      have HA := hid (addHole (nc := vc) (ec := 0) hsL hL1.2 (H1.out.1.below hb2) (fun h => by omega))
      have HG := hid hb12
      clear c0 c1 c2 c3 hW2 hb2 hh2 hb12 hmin hst hse hr H1
      go_upto_region 16 with (go_at_call 15; refine HA.out.mono ?_; rintro e w3 ⟨⟨v, rfl, hv⟩, hb3⟩; obtain ⟨b3, uo, uc, hve, hd3⟩ := hv.nde (by rw [fullN_len hsL]; omega); rw [fullN_len hsL] at hve hd3; subst hve; have H3 := hid (And.intro hd3 hb3); clear HA hv hb3 hd3)
      obtain ⟨W4, hW4⟩ : ∃ W4, w3.alloc (.cells #[.slice uo L uc, .slice none 0 0] 25) = W4 := ⟨_, rfl⟩
      have hb4 : Below w3.heap.size w3 W4 := by rw [← hW4]; exact (Below.refl _ w3).alloc (Nat.le_refl _) _
      have hh4 : W4.heap[w3.heap.size]? = some (.cells #[.slice uo L uc, .slice none 0 0] 25 (0, 0)) := by rw [← hW4]; exact World.alloc_heap_new w3 _
      rw [hW4]
      have hb24 : Below W2.heap.size W2 W4 := H3.out.2.trans (hb4.mono H3.out.2.size)
      have hbr4 : Below wr.heap.size wr W4 := HG.out.trans (hb24.mono HG.out.size)
      obtain ⟨s0, s1, _, _⟩ := box2_cell hh4
      obtain ⟨d0, d1, _, _⟩ := box2_cell ((hbr4.block _ HF.out.2.2).trans HF.out.2.1)
      have hd4 := H3.out.1.below hb4
      obtain rfl := hd4.at' (by omega)
      obtain ⟨y0, y1, y2, y3⟩ := hd4.cells s _ (fullN_at hsL)
      simp only [Nat.zero_add] at y0 y1 y2 y3
      have HAW := hid (fun W => topoAwake_any W)
      have HWW := hid (show Below w.heap.size w W4 from HF.out.1.below.trans (hbr4.mono HF.out.1.below.size))
      have hsI : (s : Int) < (L : Int) := by omega
      have hs1 : (s : Int) + 1 - 1 = (s : Int) := by omega
      have hws : IntKind.i64.wrap ((s : Int) + 1 - 1) = (s : Int) := by rw [hs1, IntKind.wrap_i64]; omega
      clear t0 t1 hW4 hb4 hh4 hb24 hbr4 hd4 H3 HG HF
      go_wp2_with (go_at_call 12; refine (HAW.out _).mono ?_; rintro e w5 ⟨rfl, hb5⟩; have H5 := hid (HWW.out.trans (hb5.mono HWW.out.size)); clear HAW hb5)
      go_ret
      exact ⟨rfl, H5.out⟩
end Go.Proofs.YtdjbjadaldndcaaGreat
