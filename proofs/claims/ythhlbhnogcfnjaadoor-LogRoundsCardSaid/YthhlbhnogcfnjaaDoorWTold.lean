/-
  Layer 4: the records of a Log, told one by one: wal's told.
-/
import Derived.Test.YthhlbhnogcfnjaaDoorWRecs
namespace Go.Proofs.YthhlbhnogcfnjaaDoor
open Go.RowKit Go.Shelf

attribute [local go_sem] Oper.semAt_some

/-- What a round of a loop over the records is handed: an LSN and a slice. -/
abbrev Td : Type := Nat × Value
abbrev Td.vals (x : Td) : Array Value := #[.int .u64 (x.1 : Int), x.2]
def TdAt (first : Nat) (us : List Value) (pre : List Td) (x : Td) (_ : World) : Prop := x.1 = first + pre.length ∧ us[pre.length]? = some x.2

/-- What a round must keep: all cells but those that P names by block and type. -/
structure Kt (P : Nat → TypeId → Prop) (W W' : World) : Prop where
  size : W.heap.size ≤ W'.heap.size
  keep : ∀ (k : Nat) (c : Array Value) (t : TypeId) (f : Nat × Nat), ¬ P k t → W.heap[k]? = some (Obj.cells c t f) → W'.heap[k]? = W.heap[k]?
theorem Kt.refl (P : Nat → TypeId → Prop) (W : World) : Kt P W W := ⟨Nat.le_refl _, fun _ _ _ _ _ _ => rfl⟩
theorem Kt.trans {P : Nat → TypeId → Prop} {A B C : World} (h : Kt P A B) (k : Kt P B C) : Kt P A C :=
  ⟨Nat.le_trans h.size k.size, fun i c t f hp hi => (k.keep i c t f hp ((h.keep i c t f hp hi).trans hi)).trans (h.keep i c t f hp hi)⟩
theorem Kt.fresh {P : Nat → TypeId → Prop} {A C : World} (h : Below A.heap.size A C) : Kt P A C := ⟨h.size, fun k _ _ _ _ hk => h.block k (lt_of_heap hk)⟩
theorem Kt.putObj (P : Nat → TypeId → Prop) (W : World) (l : Nat) (o o' : Obj) (h : W.heap[l]? = some o) (ho : o.isCells = false) : Kt P W (W.putObj l o') :=
  ⟨(grownBy_putObj' W l o').size, fun k c t f _ hk => (grownBy_putObj' W l o').block k (lt_of_heap hk) (fun e => by
    injection e with e
    subst e
    rw [h] at hk
    injection hk with e1
    subst e1
    cases ho)⟩
theorem two_new (w : World) (o1 o2 : Obj) : ((w.alloc o1).alloc o2).heap[w.heap.size]? = some o1 ∧ ((w.alloc o1).alloc o2).heap[w.heap.size + 1]? = some o2 ∧ Below w.heap.size w ((w.alloc o1).alloc o2) := by
  refine ⟨?_, ?_, ((Below.refl _ w).alloc (Nat.le_refl _) _).alloc (by simp) _⟩
  · rw [Below.heap_alloc _ _ _ (by simp)]
    exact heap_new w _
  · have := heap_new (w.alloc o1) o2
    rwa [World.size_alloc] at this
set_option maxHeartbeats 1600000 in
theorem told_any {w : World} {base L B n at' sc : Nat} {d : Dk} {g : Lg} (h : LogIs w base L B n at' sc d g) {ra : Option Addr} {rc : Nat} {ta : Option Addr} {tc : Nat} (hf : w.heap[L]? = some (.cells #[.pointer (some ⟨B, 0, none⟩), .int .i64 at', .int .i64 sc, .int .u64 g.first, .slice ra g.recs.length rc, .int .u64 g.start, .int .u64 g.stop, .int .u64 g.flushed, .slice ta g.tail.length tc] 50 (0, 0))) :
    Calls Tryd.prog 24 #[.pointer (some ⟨L, 0, none⟩)] w fun e w' => ∃ Br Bf, e = .returned (.func (.func 43) #[] #[.pointer (some ⟨Br, 0, none⟩), .pointer (some ⟨Bf, 0, none⟩)]) ∧ w'.heap[Br]? = some (.cells #[.slice ra g.recs.length rc] 48 (0, 0)) ∧ w'.heap[Bf]? = some (.cells #[.int .u64 g.first] 29 (0, 0)) ∧ w.heap.size ≤ Br ∧ w.heap.size ≤ Bf ∧ Below w.heap.size w w' := by
  obtain ⟨c0, c1, c2, c3, c4, c5, c6, c7, c8⟩ := log_cells hf
  have hLt := h.lt
  clear h hf
  go_enter Tryd.func24, Tryd.ntmps24
  go_wp2
  go_region_held (fun w' => w'.cell? ⟨L, 3, none⟩ = some (.int .u64 g.first) ∧ w'.cell? ⟨L, 4, none⟩ = some (.slice ra g.recs.length rc)) (go_keep) (fail)
  all_goals
    go_wp2
    go_ret
    first
      | (refine ⟨w.heap.size + 1, w.heap.size, rfl, (two_new w _ _).2.1, (two_new w _ _).1, by omega, by omega, (two_new w _ _).2.2.drew⟩; done)
      | (refine ⟨w.heap.size, w.heap.size + 1, rfl, (two_new w _ _).1, (two_new w _ _).2.1, by omega, by omega, (two_new w _ _).2.2.drew⟩; done)

set_option maxRecDepth 8000 in
set_option maxHeartbeats 1600000 in
theorem told_in (m : Nat) (hm : 2 ≤ m) (l Br Bf : Nat) (P : Nat → TypeId → Prop) (first : Nat) (us : List Value) (ra : Option Addr) (rc gr : Nat) (cr : Array Value) (J Jx : List Td → World → Prop) (W : World)
    (hY : ∀ pre x W1, J pre W1 → TdAt first us pre x W1 → YieldAt Fence.wide (m - 1) Tryd.prog l (Td.vals x) W1 fun e W' =>
      (e = .returned (.bool true) ∧ J (pre ++ [x]) W' ∧ Kt P W1 W') ∨ (e = .returned (.bool false) ∧ Jx (pre ++ [x]) W'))
    (hbr : W.heap[Br]? = some (.cells #[.slice ra us.length rc] 48 (0, 0))) (hbf : W.heap[Bf]? = some (.cells #[.int .u64 first] 29 (0, 0))) (hNf : ¬ P Bf 29)
    (hrow : 1 ≤ us.length → ra = some ⟨gr, 0, none⟩ ∧ ¬ P gr 32 ∧ W.heap[gr]? = some (.cells cr 32 (0, 0)) ∧ ∀ k, k < us.length → cr[k]? = us[k]?) (hus : ∀ u ∈ us, u.oneCell' = true)
    (hf : first ≤ 5000000000000000000) (hl : us.length ≤ 1000000) (h0 : J [] W) :
    CallsIn Fence.wide m Tryd.prog 43 #[.func (.yield l) #[] #[], .pointer (some ⟨Br, 0, none⟩), .pointer (some ⟨Bf, 0, none⟩)] W fun e W' => (∃ v, e = .returned v) ∧
      ((∃ xs, xs.map (·.2) = us ∧ J xs W') ∨ (∃ pre, True ∧ Jx pre W')) := by
  have cb := cell_of_row W Br 0 _ _ _ hbr
  simp only [List.getElem?_toArray, List.getElem?_cons_zero] at cb
  have HBF := hid hbf
  have HROW := hid hrow
  have hfn : ∀ k, Fence.wide.fn k := fun _ => trivial
  have hm1 : 1 ≤ m := by omega
  clear hbr hbf hrow
  refine callsIn_of_wp Tryd.func43 rfl trivial ?_ rfl
  simp only [Tryd.ntmps43, List.size_toArray, List.length_cons, List.length_nil, Nat.reduceAdd, Nat.reduceSub, Array.replicate_succ, Array.replicate_zero, List.push_toArray, List.append_toArray, List.nil_append, List.cons_append]
  gi_wp2
  gi_loopw [4, 5, 8] (fun _ _ i wr => ∃ (k : Nat) (pre : List Td), k ≤ us.length ∧ i = .int .i64 k ∧ pre.map (·.2) = us.take k ∧ J pre wr ∧ wr.heap[Bf]? = some (.cells #[.int .u64 first] 29 (0, 0)) ∧ (1 ≤ us.length → wr.heap[gr]? = some (.cells cr 32 (0, 0)))) (fun _ _ i _ => us.length - (intOf i).toNat)
  case atStart => exact ⟨0, [], Nat.zero_le _, rfl, by simp, h0, HBF.out, fun h1 => (HROW.out h1).2.2.1⟩
  case round =>
    obtain ⟨k, pre, hk, rfl, hpre, hJ, hbf, hgr⟩ := hrel
    have hpl : pre.length = k := by
      have := congrArg List.length hpre
      rw [List.length_map, List.length_take] at this
      omega
    have HPL := hid hpl
    have HPRE := hid hpre
    by_cases hlt : k < us.length
    · obtain ⟨rfl, hgP, hg0, hcr⟩ := HROW.out (by omega)
      have hgk := hgr (by omega)
      obtain ⟨u, hu⟩ : ∃ u, us[k]? = some u := ⟨us[k], by simp [hlt]⟩
      have cg : wr.cell? ⟨gr, k, none⟩ = some u := by rw [cell_of_row wr gr k _ _ _ hgk, hcr k hlt, hu]
      have cf := cell_of_row wr Bf 0 _ _ _ hbf
      simp only [List.getElem?_toArray, List.getElem?_cons_zero] at cf
      have hu1 : u.oneCell' = true := hus u (List.mem_of_getElem? hu)
      obtain ⟨fn, tmps, assign, body, hy, hR⟩ := hY pre (first + k, u) wr hJ ⟨by rw [hpl], by rw [hpl]; exact hu⟩
      dsimp only [Td.vals] at hy
      have hcast : ((first + k : Nat) : Int) = (first : Int) + (k : Int) := by omega
      rw [hcast] at hy
      have HR := hid hR
      have HU := hid hu
      have HX := hid (And.intro hbf hgk)
      have hkI : (k : Int) < (us.length : Int) := by omega
      have hwk : IntKind.u64.wrap (k : Int) = (k : Int) := PlainAid.u64_nonneg (by omega) (by omega)
      have hwf : IntKind.u64.wrap ((first : Int) + (k : Int)) = (first : Int) + (k : Int) := PlainAid.u64_nonneg (by omega) (by omega)
      clear hu hR hbf hgk hgr hpre hpl hJ hcast hg0
      gi_wp2
      refine HR.out.mono ?_
      rintro e W3 (⟨rfl, hJ3, hk3⟩ | ⟨rfl, hJx3⟩)
      · clear hy
        have HX3 := hid (And.intro ((hk3.keep Bf _ _ _ hNf HX.out.1).trans HX.out.1) ((hk3.keep gr _ _ _ hgP HX.out.2).trans HX.out.2))
        clear hk3
        gi_wp2
        go_roundw
        case rel =>
          refine ⟨k + 1, _, by omega, by go_num, ?_, hJ3, HX3.out.1, fun _ => HX3.out.2⟩
          rw [List.map_append, HPRE.out, List.take_add_one, HU.out]
          rfl
        case measure => simp [intOf]; omega
      · clear hy
        gi_wp2
        refine bodyPost_ret (results_none rfl _ _ _) rfl ?_
        exact ⟨⟨_, rfl⟩, .inr ⟨_, trivial, hJx3⟩⟩
    · obtain rfl : k = us.length := by omega
      have HJ := hid hJ
      clear hpre hpl hJ
      gi_wp2
      go_end0
      exact ⟨⟨_, rfl⟩, .inl ⟨pre, by rw [HPRE.out, List.take_length], HJ.out⟩⟩
theorem told_hands (m : Nat) (hm : 2 ≤ m) (Br Bf : Nat) (P : Nat → TypeId → Prop) (first : Nat) (us : List Value) (ra : Option Addr) (rc gr : Nat) (cr : Array Value) (w : World)
    (hbr : w.heap[Br]? = some (.cells #[.slice ra us.length rc] 48 (0, 0))) (hbf : w.heap[Bf]? = some (.cells #[.int .u64 first] 29 (0, 0))) (hNf : ¬ P Bf 29)
    (hrow : 1 ≤ us.length → ra = some ⟨gr, 0, none⟩ ∧ ¬ P gr 32 ∧ w.heap[gr]? = some (.cells cr 32 (0, 0)) ∧ ∀ k, k < us.length → cr[k]? = us[k]?) (hus : ∀ u ∈ us, u.oneCell' = true)
    (hf : first ≤ 5000000000000000000) (hl : us.length ≤ 1000000) :
    Hands Fence.wide m Tryd.prog 43 #[.pointer (some ⟨Br, 0, none⟩), .pointer (some ⟨Bf, 0, none⟩)] Td.vals (TdAt first us) (Kt P) (fun xs => xs.map (·.2) = us) (fun _ => True) w := fun l J Jx W hW _ _ hY h0 =>
  told_in m hm l Br Bf P first us ra rc gr cr J Jx W hY ((hW.block Br (lt_of_heap hbr)).trans hbr) ((hW.block Bf (lt_of_heap hbf)).trans hbf) hNf (fun h1 => by
    obtain ⟨e1, e2, e3, e4⟩ := hrow h1
    exact ⟨e1, e2, (hW.block gr (lt_of_heap e3)).trans e3, e4⟩) hus hf hl h0
end Go.Proofs.YthhlbhnogcfnjaaDoor
