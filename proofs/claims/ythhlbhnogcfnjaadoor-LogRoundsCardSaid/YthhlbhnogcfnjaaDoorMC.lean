/-
  Regions that draw their order, by hand: within a fence as without, where no operation calls; steps whose run is known.
-/
import Derived.Deep.RegionHeld3
import Derived.OrdersIn
import Derived.OwnWalkIn
import Derived.WalkKit
import Derived.Test.YthhlbhnogcfnjaaDoorMB
import Derived.Deep.RegionLaw
import Derived.Deep.WholeRow
import Derived.Great.BuildSlice
namespace Go.Proofs.YthhlbhnogcfnjaaDoor
open Go.RowKit

/-- Q at the region's end alone. -/
def Np (Q : Exit → Act → World → Prop) : Exit → Act → World → Prop
  | .normal, a, w => Q .normal a w
  | _, _, _ => False

/-- It neither calls nor leaves. -/
def plainOp : Op → Bool
  | .move _ | .assign _ | .alloc _ | .box _ _ | .build _ _ | .load _ _ | .store _ _ _ | .nilCheck _ | .fieldAddr _ _ _ | .indexAddr _ _ _ | .binOp _ _ _ _ _ | .unOp _ _ _ => true
  | _ => false

/-- What a plain operation comes to. -/
def plainRes : Result Next → Bool
  | .ok (.value _) _ | .ok .skip _ | .halt _ _ => true
  | _ => false
theorem plain_v {P : Program} (s : Sem Value) (w : World) : plainRes ((do let x ← s; pure (Next.value x) : Sem Next).run P w) = true := by
  rw [Sem.run_bind]
  cases s.run P w <;> rfl
theorem plain_u {P : Program} (s : Sem Unit) (w : World) : plainRes ((do s; pure Next.skip : Sem Next).run P w) = true := by
  rw [Sem.run_bind]
  cases s.run P w <;> rfl
theorem plain_bind {P : Program} {β : Type} (s : Sem β) (k : β → Sem Next) (w : World) (h : ∀ b w, plainRes ((k b).run P w) = true) : plainRes ((s >>= k).run P w) = true := by
  rw [Sem.run_bind]
  cases s.run P w with
  | ok b w' => exact h b w'
  | halt x w' => rfl
theorem plain_run {P : Program} (o : Oper) (h : plainOp o.op = true) (ρ : Operand → Value) (w : World) : plainRes ((execOp ρ o).run P w) = true := by
  unfold execOp
  cases ho : o.op <;> rw [ho] at h <;> first
    | (exfalso; simp [plainOp] at h; done)
    | exact plain_v _ w
    | exact plain_u _ w
    | rfl
    | (dsimp only
       split
       · rfl
       · rfl
       · rfl
       · split
         · rfl
         · refine plain_bind _ _ w fun p w => plain_bind _ _ w fun b w => ?_
           split
           · rfl
           · rfl
         · rfl
       · rfl)

theorem wpOpIn_of {F : Fence} {n : Nat} {P : Program} {ops : Array Oper} {Q : Exit → Act → World → Prop} {i : Nat} {K K' : Act → World → Prop} {a : Act} {w : World} (hp : ∀ o, ops[i]? = some o → plainOp o.op = true)
    (hK : ∀ a w, K a w → K' a w) (h : wpOp P ops (Np Q) i K a w) : wpOpIn F n P ops Q i K' a w := by
  unfold wpOp at h
  unfold wpOpIn
  cases ho : ops[i]? with
  | none => rw [ho] at h; exact hK _ _ h
  | some o =>
    rw [ho] at h
    have hpl := hp o ho
    have hab : ∀ f, o.about P w a.eval = some f → F.fn f := fun f hf => by
      unfold Oper.about at hf
      cases hop : o.op <;> rw [hop] at hf hpl <;> first | cases hf | cases hpl
    simp only at h ⊢
    split
    · rename_i hw
      rw [if_pos hw] at h
      rcases h with h | ⟨_, a', w', hx⟩
      · refine ⟨hab, ?_⟩
        rw [Oper.semAt_plain F _ _ (fun c hc => by rw [hc] at hpl; cases hpl)]
        unfold Oper.wp at h
        have hr := plain_run (P := P) o hpl a.eval w
        generalize (execOp a.eval o).run P w = r at h hr
        cases r with
        | ok x w' =>
          cases x <;> simp only [plainRes] at hr <;> first
            | exact hK _ _ h
            | cases hr
        | halt x w' =>
          cases x <;> simp only [Oper.upon, Np] at h
      · exact absurd hx (by simp [Np])
    · rename_i hw
      rw [if_neg hw] at h
      exact ⟨hab, hK _ _ h⟩
theorem wpAnyIn_of {F : Fence} {n : Nat} {P : Program} {md : Region.Mode} {ops : Array Oper} {Q : Exit → Act → World → Prop} (hp : ∀ (i : Nat) (o : Oper), ops[i]? = some o → plainOp o.op = true) :
    ∀ (fuel : Nat) (listed : Array Bool) (a : Act) (w : World), wpAny P md ops (Np Q) fuel listed a w → wpAnyIn F n P md ops Q fuel listed a w
  | 0, _, _, _, h => h
  | fuel + 1, _, _, _, h => ⟨h.1, fun i hi => wpOpIn_of (hp i) (fun a' w' h' => wpAnyIn_of hp fuel _ a' w' h') (h.2 i hi)⟩
theorem plain_all {ops : Array Oper} (h : ops.all (fun o => plainOp o.op) = true) : ∀ (i : Nat) (o : Oper), ops[i]? = some o → plainOp o.op = true := fun i o ho => by
  rw [Array.all_eq_true_iff_forall_mem] at h
  exact h o (Array.mem_of_getElem? ho)
/-- A region that draws its order and calls nothing, within a fence: as without one. -/
theorem wpIn_region_plain {F : Fence} {n : Nat} {P : Program} {ops : Array Oper} {Q : Exit → Act → World → Prop} {S : World → Prop} {id : Nat} {a : Act} {w : World} (hm : P.follows .mixedOrders = true) (hp : ops.all (fun o => plainOp o.op) = true) (hS : S w.drew)
    (h : S w.drew → wpAnyH P .any ops (Np Q) S ops.size (Array.replicate ops.size false) a w.drew) : (Code.region id ops true).wpIn F n P Q a w :=
  wpIn_region_any hm (wpAnyIn_of (plain_all hp) _ _ _ _ (wpAny_of_held _ _ _ _ (h hS)))

/-- A step whose run is known. -/
theorem step_run {P : Program} {ops : Array Oper} {o : Oper} {a : Act} {ts : Array Value} {w w' : World} {K : Act → World → Prop} {Q : Exit → Act → World → Prop} {E : Prop} {v : Value} (hg : o.guard = none) (hrun : (execOp a.eval o).run P w = .ok (.value v) w')
    (hK : K (a.put o.dst v) w') : if Region.wanted o (yielded ops ts) = true then Oper.wp P o a w K Q else E := by
  have hw : Region.wanted o (yielded ops ts) = true := by simp [Region.wanted, hg]
  rw [if_pos hw]
  unfold Oper.wp
  rw [hrun]
  exact hK
theorem exec_append {P : Program} {o : Oper} {ρ : Operand → Value} {w w' : World} (s x : Operand) (t : TypeId) (hop : o.op = Op.call { callee := Callee.builtin Builtin.append, args := #[s, x], argTypes := #[t, t] }) {v u v' : Value} (hs : ρ s = v) (hx : ρ x = u)
    (hrun : (Builtin.append_ #[t, t] o.type #[v, u]).run P w = .ok v' w') : (execOp ρ o).run P w = .ok (.value v') w' := by
  simp [execOp, hop, resolve, invoke, builtin, hs, hx, hrun, Result.andThen]
theorem exec_buildSlice {P : Program} {o : Oper} {ρ : Operand → Value} {w w' : World} (t : TypeId) (len : Nat) (k : Nat) (x : Operand) (hop : o.op = Op.buildSlice t len #[(k, x)]) {v v' : Value} (hx : ρ x = v)
    (hrun : (Instr.buildSlice t len #[(k, v)]).run P w = .ok v' w') : (execOp ρ o).run P w = .ok (.value v') w' := by
  simp [execOp, hop, hx, hrun, Result.andThen]
theorem exec_load {P : Program} {o : Oper} {ρ : Operand → Value} {w w' : World} (t : TypeId) (x : Operand) (hop : o.op = Op.load t x) {v v' : Value} (hx : ρ x = v)
    (hrun : (Instr.loadAt t v).run P w = .ok v' w') : (execOp ρ o).run P w = .ok (.value v') w' := by
  simp [execOp, hop, hx, hrun, Result.andThen]
end Go.Proofs.YthhlbhnogcfnjaaDoor

namespace Go.Proofs.YthhlbhnogcfnjaaDoor
open Go.RowKit

/-- A Write's cells ahead of its bytes. -/
abbrev wrA (i : Int) (s : List Int) : Array Value := (Value.int .i64 i :: secV s).toArray
theorem run_build_wr (i : Int) (w : World) : (Instr.build 69 #[(0, .int .i64 i)]).run Tryd.prog w = .ok (.agg (wrA i nought)) w := by kernel_rfl
theorem run_alloc_wr (w : World) : (Instr.alloc 69 true (.tuple #[])).run Tryd.prog w = .ok (.pointer (some ⟨w.heap.size, 0, none⟩)) (w.alloc (.cells (wrA 0 nought) 69)) := by kernel_rfl
theorem infoWr : (Tryd.prog.info? 69).map (fun i => (i.zero, i.size, i.bytes)) = some (some (.agg (wrA 0 nought)), 65, 72) := by kernel_rfl

theorem zero_wr (w : World) : (zeroValue 69).run Tryd.prog w = .ok (.agg (wrA 0 nought)) w := by kernel_rfl
theorem set_new (w : World) (c : Array Value) (t : TypeId) (o : Nat) (v : Value) : (w.alloc (.cells c t)).setCell ⟨w.heap.size, o, none⟩ v = w.alloc (.cells (c.setIfInBounds o v) t) := by
  have hm : ∀ (a : Array Obj) (x : Obj) (f : Obj → Obj), (a.push x).modify a.size f = a.push (f x) := by
    intro a x f
    apply Array.ext
    · simp
    · intro i h1 h2
      simp only [Array.getElem_modify, Array.getElem_push]
      by_cases h : a.size = i
      · subst h
        simp
      · have hi : i < a.size := by simp at h1; omega
        simp [h, hi]
  unfold World.setCell
  show ({ w.alloc (.cells c t) with heap := (w.heap.push (.cells c t)).modify w.heap.size _ } : World) = _
  rw [hm]
  rfl
theorem sets_new (w : World) (t : TypeId) : ∀ (vs : List Value) (o : Nat) (c : Array Value), (w.alloc (.cells c t)).setCells w.heap.size o vs = w.alloc (.cells (setAll c.toList o vs).toArray t)
  | [], _, c => by simp [World.setCells, setAll]
  | v :: r, o, c => by
    rw [World.setCells, set_new, sets_new w t r (o + 1)]
    simp [setAll]
theorem wrA_set (i : Int) {s s' : List Int} (h : s.length = s'.length) : setAll (wrA i s).toList 1 (secV s') = (wrA i s').toList := by
  have := setAll_mid (secV s') (secV s) [Value.int .i64 i] [] (by simp [secV, h])
  simpa using this
theorem wrA_one (i : Int) (s : List Int) : (wrA i s).all (·.oneCell') = true := by
  refine all_oneCell_toArray fun v hv => ?_
  rcases List.mem_cons.1 hv with rfl | hv
  · rfl
  · exact secV_one s v hv
theorem wrA_size (i : Int) {s : List Int} (h : Sec s) : (wrA i s).size = 65 := by simp [secV, h.1]
/-- A Write's cells into the block that was made last. -/
theorem store_wr (w : World) (c c' : Array Value) (h : c.size = 65) (h' : c'.size = 65) (h1 : c'.all (·.oneCell') = true) : (storeCells ⟨w.heap.size, 0, none⟩ c'.toList).run Tryd.prog (w.alloc (.cells c 69)) = .ok () (w.alloc (.cells c' 69)) := by
  obtain ⟨i0, hi, hz0, hz1, hz2⟩ := info_parts infoWr
  exact run_storeCells_new w _ c c' (by rw [hi]; simp [hz1, h']) (by omega) h1
/-- 'copy(w.is[:], b)'. -/
theorem copy_wr {w : World} {i : Int} {s : List Int} (hs : Sec s) {b off cap : Nat} (hc : ∀ j, j < 64 → w.cell? ⟨b, off + j, none⟩ = some (.int .u8 (s.getD j 0))) :
    (Builtin.copy_ #[32, 32] 3 #[.slice (some ⟨w.heap.size, 1, none⟩) 64 64, .slice (some ⟨b, off, none⟩) 64 cap]).run Tryd.prog (w.alloc (.cells (wrA i nought) 69)) = .ok (.int .i64 64) (w.alloc (.cells (wrA i s) 69)) := by
  obtain ⟨i0, hi, hz0, hz1, hz2⟩ := info_parts infoU8
  have hnew : (w.alloc (.cells (wrA i nought) 69)).heap[w.heap.size]? = some (.cells (wrA i nought) 69 (0, 0)) := heap_new w _
  have h0 := run_copy_cells (P := Tryd.prog) (w.alloc (.cells (wrA i nought) 69)) 32 32 3 5 w.heap.size 1 64 64 ⟨b, off, none⟩ 64 cap (secV s) Tryd.underlying32 (by rw [hi]; simp [hz1]) (by simp [secV, hs.1])
    (fun j v hv => by
      have hj : j < s.length := by have := (List.getElem?_eq_some_iff.1 hv).1; simpa [secV] using this
      rw [Addr.add_lit, World.cell?_alloc_lt _ _ _ (show b < w.heap.size from lt_of_cell (hc 0 (by omega))), hc j (by rw [← hs.1]; exact hj), ← hv]
      simp [secV, hj])
    (fun j hj => by
      have hj : j < 64 := by simpa [secV, hs.1] using hj
      rw [cell_of_row _ _ _ _ _ _ hnew]
      have : 1 + j < (wrA i nought).size := by rw [wrA_size i sec_nought]; omega
      simp only [Array.getElem?_eq_getElem this, Option.isSome_some])
    (fun j hj => frozen_of_row _ _ _ _ _ hnew) (secV_one s)
  rw [h0, sets_new, wrA_set i (by simp [nought, hs.1])]
  have e : (secV s).length = 64 := by simp [secV, hs.1]
  rw [e]
  rfl
theorem load_waits (w : World) (a : Addr) (v : Value) (h : w.cell? a = some v) : (Instr.loadAt 44 (.pointer (some a))).run Tryd.prog w = .ok v w := by
  go_simp
theorem load_mid_wr (w : World) (b : Nat) (i : Int) {s : List Int} (hs : Sec s) (h : w.rangeAt b 0 (wrA i s).toList) : (Instr.loadAt 69 (.pointer (some ⟨b, 0, none⟩))).run Tryd.prog w = .ok (.agg (wrA i s)) w := by
  obtain ⟨i0, hi, hz0, hz1, hz2⟩ := info_parts infoWr
  have := run_loadAt_mid (P := Tryd.prog) w b 0 69 _ _ h Tryd.underlying69 rfl (by rw [hi]; simp [hz1, secV, hs.1])
  exact this
theorem foldl_set : ∀ (l : List Value) (k : Nat) (C : Array Value), (l.zipIdx k).foldl (fun cs (x : Value × Nat) => cs.setIfInBounds (0 + x.2) x.1) C = (setAll C.toList k l).toArray
  | [], _, C => by simp [setAll]
  | v :: r, k, C => by
    simp only [List.zipIdx_cons, List.foldl_cons, setAll]
    rw [foldl_set r (k + 1)]
    simp
theorem fill_all (W C : Array Value) (h : C.size = W.size) : Instr.fill (fun i => some (i * W.size, W.size)) C [(0, .agg W)] = some W := by
  have e1 : ¬ (W.size ≠ W.size || 0 * W.size + W.size > C.size) = true := by simp; omega
  have e2 : W.zipIdx.foldl (fun cs (x : Value × Nat) => cs.setIfInBounds (0 * W.size + x.2) x.1) C = W := by
    rw [← Array.foldl_toList, Array.toList_zipIdx, Nat.zero_mul, foldl_set]
    have := setAll_mid W.toList C.toList [] [] (by simpa using h)
    simp only [List.nil_append, List.append_nil, List.length_nil] at this
    rw [this]
  exact (if_neg e1).trans (congrArg some e2)
theorem build_waits (i : Int) {s : List Int} (hs : Sec s) (w : World) : (Instr.buildSlice 44 1 #[(0, .agg (wrA i s))]).run Tryd.prog w = .ok (.slice (some ⟨w.heap.size, 0, none⟩) 1 1) (w.alloc (.cells (wrA i s) 69)) := by
  obtain ⟨i0, hi, hz0, hz1, hz2⟩ := info_parts infoWr
  have hsz := wrA_size i hs
  refine run_buildSlice w 44 69 1 _ _ i0 _ Tryd.underlying44 hi hz0 (by rw [hz1]; decide) (by rw [hz1]; decide) ?_
  rw [hz1, ← hsz]
  exact fill_all _ _ (by simp)

/-- The struct's block is none of the rows'. -/
theorem ne_of_type {w : World} {B g : Nat} {c c' : Array Value} {t t' : TypeId} {f f' : Nat × Nat} (h : w.heap[B]? = some (.cells c t f)) (h' : w.heap[g]? = some (.cells c' t' f')) (hne : t ≠ t') : B ≠ g := by
  rintro rfl
  rw [h] at h'
  injection h' with e1
  injection e1 with _ e2 _
  exact hne e2

/-- All that Write's walk owes to memory. -/
theorem write_mem {w : World} {base B n : Nat} {d : Dk} (h : DiskIs w base B n d) {i : Nat} (hi : i < n) {s : List Int} (hs : Sec s) (hd : d.left ≠ 0) (hwl : d.wait.length ≤ 1000000) (hwr : d.writes ≤ 1000000000) :
    ∃ gn cn vw, (w.alloc (.cells (wrA i s) 69)).drew.cell? ⟨B, 1, none⟩ = some (.slice (some ⟨gn, 0, none⟩) n cn) ∧
      (w.alloc (.cells (wrA i s) 69)).drew.rangeAt w.heap.size 1 (secV s) ∧
      (w.alloc (.cells (wrA i s) 69)).drew.there gn (i * 64) 64 ∧ gn < w.heap.size ∧ B ≠ gn ∧
      ∀ w2, w2 = ((w.alloc (.cells (wrA i s) 69)).drew.setCells gn (i * 64) (secV s)).drew →
        w2.cell? ⟨B, 2, none⟩ = some vw ∧ w2.rangeAt w.heap.size 0 (wrA i s).toList ∧
        ∃ g cap w4, (Builtin.append_ #[44, 44] 44 #[vw, .slice (some ⟨w2.heap.size, 0, none⟩) 1 1]).run Tryd.prog (w2.alloc (.cells (wrA i s) 69)) = .ok (.slice (some ⟨g, 0, none⟩) (d.wait.length + 1) cap) w4 ∧
          w4.cell? ⟨B, 2, none⟩ = some vw ∧ w4.frozen? ⟨B, 2, none⟩ = false ∧ w4.cell? ⟨B, 3, none⟩ = some (.int .i64 d.writes) ∧ w4.frozen? ⟨B, 3, none⟩ = false ∧
          DiskIs ((w4.setCell ⟨B, 2, none⟩ (.slice (some ⟨g, 0, none⟩) (d.wait.length + 1) cap)).setCell ⟨B, 3, none⟩ (.int .i64 (d.writes + 1))) base B n ⟨d.last, d.wait ++ [(i, s)], d.writes + 1, d.left⟩ ∧
          Kd base w ((w4.setCell ⟨B, 2, none⟩ (.slice (some ⟨g, 0, none⟩) (d.wait.length + 1) cap)).setCell ⟨B, 3, none⟩ (.int .i64 (d.writes + 1))) := by
  have hbase := h.base_le
  obtain ⟨ho, hn, hB, gl, cl, gn, cn, vw, hh, hne, b1, b2, b3⟩ := h
  have hnl := ho.now_len
  obtain ⟨i0, hi0, hz0, hz1, hz2⟩ := info_parts infoWr
  -- the first world: the Write in a variable of its own
  obtain ⟨W, hW⟩ : ∃ W, W = wrA i s := ⟨_, rfl⟩
  have hWs : W.size = 65 := by rw [hW]; exact wrA_size _ hs
  rw [← hW]
  obtain ⟨w1, hw1⟩ : ∃ w1, (w.alloc (.cells W 69)).drew = w1 := ⟨_, rfl⟩
  rw [hw1]
  have f1 : Below w.heap.size w w1 := by rw [← hw1]; exact ((Below.refl _ w).alloc (Nat.le_refl _) _).drew
  have n1 : w1.heap[w.heap.size]? = some (.cells W 69 (0, 0)) := by rw [← hw1]; exact heap_new w _
  have s1 : w1.heap.size = w.heap.size + 1 := by rw [← hw1]; show (w.alloc _).heap.size = _; simp
  have hh1 : w1.heap[B]? = _ := (f1.block B (lt_of_heap hh)).trans hh
  have c1 := b1.below f1
  have c2 := b2.below f1
  have c3 := b3.below f1
  clear hw1
  have hgl := (b1.2.lt gl rfl).2
  have hgn := (b2.2.lt gn rfl).2
  obtain ⟨_, q2⟩ := own_heap c2.2 (k := gn) rfl
  obtain ⟨_, q1⟩ := own_heap c1.2 (k := gl) rfl
  have hBgn : B ≠ gn := ne_of_type hh1 q2 (by decide)
  refine ⟨gn, cn, vw, cell_of_row w1 B 1 _ _ _ hh1, fun j v hv => ?_, c2.there (by simp [hnl]) (by simp [hnl, hi]), hgn, hBgn, ?_⟩
  · rw [cell_of_row _ _ _ _ _ _ n1, hW, Nat.add_comm 1 j]
    simpa using hv
  -- the second: the sector is written
  intro w2 hw2
  have g2 : w1.grownBy w2 (some gn) := by
    rw [hw2]
    have := grown_setCells gn (secV s) (i * 64) w1
    exact ⟨this.os, this.tape, this.output, this.size, this.block⟩
  have s2 : w2.heap.size = w1.heap.size := by
    rw [hw2]
    show (w1.setCells gn (i * 64) (secV s)).heap.size = _
    have : ∀ (vs : List Value) (o : Nat) (u : World), (u.setCells gn o vs).heap.size = u.heap.size := by
      intro vs
      induction vs with
      | nil => intro o u; rfl
      | cons v r ih => intro o u; rw [World.setCells, ih]; simp [World.setCell]
    exact this _ _ _
  have d2 : Blocks w2 base 67 64 (.slice (some ⟨gn, 0, none⟩) n cn) ((d.now.map secV).set i (secV s)) := by
    rw [hw2]
    have := c2.set (by simp [hnl]) (i := i) (by simp [hnl, hi]) (b := secV s) (secV_len hs)
    exact this.same fun k _ => rfl
  have hh2 : w2.heap[B]? = _ := (g2.block B (lt_of_heap hh1) (fun e => by injection e with e; exact hBgn e)).trans hh1
  have d1 : Blocks w2 base 67 64 (.slice (some ⟨gl, 0, none⟩) n cl) (d.last.map secV) := c1.same fun k hk => by
    simp [Value.ownBlock] at hk
    subst hk
    exact g2.block gl (by omega) (fun e => by injection e with e; exact hne e)
  have d3 : Blocks w2 base 69 65 vw (d.wait.map wrV) := c3.same fun k hk => by
    obtain ⟨_, q3⟩ := own_heap c3.2 hk
    exact g2.block k (lt_of_heap q3) (fun e => by injection e with e; subst e; exact ne_of_type q3 q2 (by decide) rfl)
  have n2 : w2.heap[w.heap.size]? = some (.cells W 69 (0, 0)) := (g2.block _ (by omega) (fun e => by injection e with e; omega)).trans n1
  have k2 : Kd base w w2 := (Kd.fresh f1 (by omega)).trans (Kd.row g2 (own_base b2.2 gn rfl) (by omega) q2 (.inr (.inl rfl)))
  clear hw2
  refine ⟨cell_of_row w2 B 2 _ _ _ hh2, fun j v hv => ?_, ?_⟩
  · rw [Nat.zero_add, cell_of_row _ _ _ _ _ _ n2]
    simpa using hv
  -- the third: the Write in a slice of one
  obtain ⟨w3, hw3⟩ : ∃ w3, w2.alloc (.cells W 69) = w3 := ⟨_, rfl⟩
  rw [hw3]
  have f3 : Below w2.heap.size w2 w3 := by rw [← hw3]; exact (Below.refl _ w2).alloc (Nat.le_refl _) _
  have n3 : w3.heap[w2.heap.size]? = some (.cells W 69 (0, 0)) := by rw [← hw3]; exact heap_new w2 _
  have e1 := d1.below f3
  have e2 := d2.below f3
  have e3 := d3.below f3
  have hh3 : w3.heap[B]? = _ := (f3.block B (lt_of_heap hh2)).trans hh2
  have k3 : Kd base w w3 := k2.trans (Kd.fresh f3 (by omega))
  clear hw3
  obtain ⟨v', w4, hrun, hown, hgrow, hnil⟩ := run_append_own (P := Tryd.prog) w3 base 44 44 69 i0 _ 65 72 Tryd.underlying44 hi0 hz0 hz1 hz2 (wrA_size 0 sec_nought) (by decide) vw _ _ e3.2
    ⟨w2.heap.size, 0, none⟩ 1 1 W.toList (by simp [hWs]) (fun j u hu => by rw [Addr.add_lit, Nat.zero_add, cell_of_row _ _ _ _ _ _ n3]; simpa using hu)
    (fun u hu => by rw [hW] at hu; exact wrV_one (i, s) u (by simpa [wrV] using hu)) (by simp [maxLen]; omega) (by simp; omega) (by have := f3.size; omega)
  obtain ⟨g, cap, cur, rfl, hg, hg4, hcap⟩ : ∃ g cap cur, v' = .slice (some ⟨g, 0, none⟩) ((d.wait.map wrV).length + 1) cap ∧ base ≤ g ∧ w4.heap[g]? = some (.cells cur 69 (0, 0)) ∧ True := by
    rcases hown.2 with ⟨_, h0⟩ | ⟨g, cap, cur, rfl, hg, hh4, _⟩
    · omega
    · exact ⟨g, cap, cur, rfl, hg, hh4, trivial⟩
  have key : ∀ k, k < w3.heap.size → (∀ c t f, w3.heap[k]? = some (.cells c t f) → t ≠ 69) → w4.heap[k]? = w3.heap[k]? := fun k hk ht => hgrow.block k hk (fun e => by
    obtain ⟨c, hc⟩ := own_heap e3.2 e.symm
    exact ht _ _ _ hc rfl)
  have hh4 : w4.heap[B]? = _ := (key B (lt_of_heap hh3) (fun c t f hx => by rw [hh3] at hx; injection hx with e1; injection e1 with _ e2 _; subst e2; decide)).trans hh3
  have k4 : Kd base w w4 := k3.trans ⟨(Below.refl base w3).grown hgrow (by have := f3.size; omega) (own_base e3.2), fun k c t f hk h1 h2 h3 => key k (lt_of_heap hk) (fun c' t' f' hx => by rw [hk] at hx; injection hx with e1; injection e1 with _ e2 _; subst e2; exact h3), fun k o hk ho => (key k (lt_of_heap hk) (fun c' t' f' hx => by rw [hk] at hx; injection hx with e1; exact absurd e1 (ho _ _ _))).trans hk⟩
  have sec4 : ∀ (g' n' c' : Nat) (bl : List (List Value)), Blocks w3 base 67 64 (.slice (some ⟨g', 0, none⟩) n' c') bl → Blocks w4 base 67 64 (.slice (some ⟨g', 0, none⟩) n' c') bl := fun g' n' c' bl hb => hb.same fun k hk => by
    obtain ⟨c, hc⟩ := own_heap hb.2 hk
    exact key k (lt_of_heap hc) (fun c' t f hx => by rw [hc] at hx; injection hx with e1; injection e1 with _ e2 _; subst e2; decide)
  have r1 := sec4 _ _ _ _ e1
  have r2 := sec4 _ _ _ _ e2
  have r3 : Blocks w4 base 69 65 (.slice (some ⟨g, 0, none⟩) ((d.wait.map wrV).length + 1) cap) ((d.wait ++ [(i, s)]).map wrV) := by
    refine ⟨fun b hb => ?_, ?_⟩
    · simp only [List.map_append, List.mem_append] at hb
      rcases hb with hb | hb
      · exact e3.1 b hb
      · simp at hb; subst hb; exact wrV_len hs
    · have : ((d.wait ++ [(i, s)]).map wrV).flatten = (d.wait.map wrV).flatten ++ W.toList := by rw [hW]; simp [wrV]
      rw [this]
      simpa using hown
  refine ⟨g, cap, w4, by simpa using hrun, cell_of_row w4 B 2 _ _ _ hh4, frozen_of_row w4 B 2 _ _ hh4, cell_of_row w4 B 3 _ _ _ hh4, frozen_of_row w4 B 3 _ _ hh4, ?_⟩
  -- the struct's fields
  have g5 := grown_setCell w4 B 2 (.slice (some ⟨g, 0, none⟩) (d.wait.length + 1) cap)
  obtain ⟨w5, hw5⟩ : ∃ w5, w4.setCell ⟨B, 2, none⟩ (.slice (some ⟨g, 0, none⟩) (d.wait.length + 1) cap) = w5 := ⟨_, rfl⟩
  have hh5 := heap_setCell_same w4 B 2 _ _ (.slice (some ⟨g, 0, none⟩) (d.wait.length + 1) cap) hh4
  rw [hw5] at g5 hh5 ⊢
  clear hw5
  have g6 := grown_setCell w5 B 3 (.int .i64 (d.writes + 1))
  obtain ⟨w6, hw6⟩ : ∃ w6, w5.setCell ⟨B, 3, none⟩ (.int .i64 (d.writes + 1)) = w6 := ⟨_, rfl⟩
  have hh6 := heap_setCell_same w5 B 3 _ _ (.int .i64 (d.writes + 1)) hh5
  rw [hw6] at g6 hh6 ⊢
  clear hw6
  have row6 : ∀ (e : TypeId) (m : Nat) (v : Value) (bl : List (List Value)), e ≠ 46 → Blocks w4 base e m v bl → Blocks w6 base e m v bl := fun e m v bl he hb => hb.same fun k hk => by
    obtain ⟨c, hc⟩ := own_heap hb.2 hk
    have hkB : k ≠ B := fun e' => ne_of_type hh4 hc (fun e2 => he e2.symm) e'.symm
    have h5 := g5.block k (lt_of_heap hc) (fun e' => by injection e' with e'; exact hkB e')
    have hc5 := h5.trans hc
    exact (g6.block k (lt_of_heap hc5) (fun e' => by injection e' with e'; exact hkB e')).trans h5
  have hnow : app d.last (d.wait ++ [(i, s)]) = d.now.set i s := app_snoc _ _ _
  refine ⟨⟨⟨ho.len, ho.secs, (ho.write hd hi hs).waits, ho.left0, ho.left1, by have := ho.w0; simp; omega⟩, hn, hB, gl, cl, gn, cn, .slice (some ⟨g, 0, none⟩) (d.wait.length + 1) cap, ?_, hne, row6 _ _ _ _ (by decide) r1, ?_, ?_⟩, ?_⟩
  · rw [hh6]; rfl
  · have := row6 _ _ _ _ (by decide) r2
    rw [← List.map_set, ← hnow] at this
    exact this
  · have := row6 _ _ _ _ (by decide) r3
    rw [List.length_map] at this
    exact this
  · have bs4 : base ≤ w4.heap.size := by have := k4.size; omega
    have bs5 : base ≤ w5.heap.size := Nat.le_trans bs4 g5.size
    exact (k4.trans (Kd.row g5 hB bs4 hh4 (.inl rfl))).trans (Kd.row g6 hB bs5 hh5 (.inl rfl))
end Go.Proofs.YthhlbhnogcfnjaaDoor
