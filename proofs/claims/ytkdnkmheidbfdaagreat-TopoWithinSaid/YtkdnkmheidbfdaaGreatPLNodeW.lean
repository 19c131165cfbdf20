/-
  Layer 14: plan's byNode.
-/
import Derived.Test.YtkdnkmheidbfdaaGreatME
namespace Go.Proofs.YtkdnkmheidbfdaaGreat
open Go.RowKit Go.Shelf Go.Sort

attribute [local go_sem] Oper.semAt_some

def ldT (xs : List ER) (ls : List (List Pp)) (k : Nat) : LdT := (ldW xs k, ldN xs k, ldD ls k)
theorem Ke.putObj (W : World) (l : Nat) (o o' : Obj) (h : W.heap[l]? = some o) (ho : o.isCells = false) : Ke W (W.putObj l o') :=
  ⟨(grownBy_putObj' W l o').size, fun k c t f hk _ => (grownBy_putObj' W l o').block k (lt_of_heap hk) (fun e => by
    injection e with e
    subst e
    rw [h] at hk
    injection hk with hk
    subst hk
    cases ho)⟩
theorem stepRun {P : Program} {ops : Array Oper} {o : Oper} {a : Act} {ts : Array Value} {w w' : World} {K : Act → World → Prop} {Q : Exit → Act → World → Prop} {E : Prop} {v : Value} (hg : o.guard = none) (hrun : (execOp a.eval o).run P w = .ok (.value v) w')
    (hK : K (a.put o.dst v) w') : if Region.wanted o (yielded ops ts) = true then Oper.wp P o a w K Q else E := by
  have hw : Region.wanted o (yielded ops ts) = true := by simp [Region.wanted, hg]
  rw [if_pos hw]
  unfold Oper.wp
  rw [hrun]
  exact hK
theorem stepSkip {P : Program} {ops : Array Oper} {o : Oper} {a : Act} {ts : Array Value} {w w' : World} {K : Act → World → Prop} {Q : Exit → Act → World → Prop} {E : Prop} (hg : o.guard = none) (hrun : (execOp a.eval o).run P w = .ok .skip w')
    (hK : K (a.put o.dst undef) w') : if Region.wanted o (yielded ops ts) = true then Oper.wp P o a w K Q else E := by
  have hw : Region.wanted o (yielded ops ts) = true := by simp [Region.wanted, hg]
  rw [if_pos hw]
  unfold Oper.wp
  rw [hrun]
  exact hK
theorem execAppend {P : Program} {o : Oper} {ρ : Operand → Value} {w w' : World} (s x : Operand) (t : TypeId) (hop : o.op = Op.call { callee := Callee.builtin Builtin.append, args := #[s, x], argTypes := #[t, t] }) {v u v' : Value} (hs : ρ s = v) (hx : ρ x = u)
    (hrun : (Builtin.append_ #[t, t] o.type #[v, u]).run P w = .ok v' w') : (execOp ρ o).run P w = .ok (.value v') w' := by
  simp [execOp, hop, resolve, invoke, builtin, hs, hx, hrun, Result.andThen]
theorem execBuild {P : Program} {o : Oper} {ρ : Operand → Value} {w w' : World} (t : TypeId) (len : Nat) (k : Nat) (x : Operand) (hop : o.op = Op.buildSlice t len #[(k, x)]) {v v' : Value} (hx : ρ x = v)
    (hrun : (Instr.buildSlice t len #[(k, v)]).run P w = .ok v' w') : (execOp ρ o).run P w = .ok (.value v') w' := by
  simp [execOp, hop, hx, hrun, Result.andThen]
theorem execLook {P : Program} {o : Oper} {ρ : Operand → Value} {w w' : World} (t : TypeId) (m x : Operand) (hop : o.op = Op.lookup t m x false) {u v z : Value} (hm : ρ m = u) (hx : ρ x = v)
    (hrun : (Instr.lookup t u v false).run P w = .ok z w') : (execOp ρ o).run P w = .ok (.value z) w' := by
  simp [execOp, hop, hm, hx, hrun, Result.andThen]
theorem execPut {P : Program} {o : Oper} {ρ : Operand → Value} {w w' : World} (t : TypeId) (m x y : Operand) (hop : o.op = Op.mapUpdate t m x y) {u v z : Value} (hm : ρ m = u) (hx : ρ x = v) (hy : ρ y = z)
    (hrun : (Instr.mapUpdate t u v z).run P w = .ok () w') : (execOp ρ o).run P w = .ok .skip w' := by
  simp [execOp, hop, hm, hx, hy, hrun, Result.andThen]
theorem buildLead (p : LdT) (w : World) : (Instr.buildSlice 141 1 #[(0, .agg #[.int .i64 p.1, .int .i64 p.2.1, .int .i64 p.2.2.1, .int .i64 p.2.2.2])]).run Tryz.prog w = .ok (.slice (some ⟨w.heap.size, 0, none⟩) 1 1) (w.alloc (.cells #[.int .i64 p.1, .int .i64 p.2.1, .int .i64 p.2.2.1, .int .i64 p.2.2.2] 157)) := by
  kernel_rfl
theorem wpIn_region_callsR {l n : Nat} {P : Program} {ops : Array Oper} {Q : Exit → Act → World → Prop} {S : World → Prop} {id : Nat} {a : Act} {w : World} (hm : P.follows .mixedOrders = true) (hp : ops.all (fun o => notDefer o.op) = true) (hS : S w.drew)
    (h : S w.drew → wpAnyH P .any ops (Np Q) S ops.size (Array.replicate ops.size false) a w.drew) : (Code.region id ops true).wpIn (Fence.wide.inRound l) n P Q a w :=
  wpIn_region_any hm (wpAnyIn_calls (calls_all hp) _ _ _ _ (wpAny_of_held _ _ _ _ (h hS)))
theorem cellsTurn {W W' : World} {row : Option Nat} (hg : W.grownBy W' row) (hr : ∀ r, row = some r → ∃ o : Obj, W.heap[r]? = some o ∧ o.isCells = false) {k : Nat} {c : Array Value} {t : TypeId} {f : Nat × Nat} (hk : W.heap[k]? = some (.cells c t f)) : W'.heap[k]? = some (.cells c t f) :=
  (hg.block k (lt_of_heap hk) (fun e => by
    obtain ⟨o, ho, hc⟩ := hr k e.symm
    rw [hk] at ho
    injection ho with e1
    subst e1
    cases hc)).trans hk

/-- What is asked of a plan's edges and their lines. -/
structure PlE (w : World) (b off n : Nat) (ao : Option Addr) (xs : List ER) (ls : List (List Pp)) : Prop where
  len : xs.length = n
  few : n ≤ 400
  deg : ∀ k, (grp ((List.range (2 * n)).map (ldT xs ls)) k).length ≤ 60
  cells : EAts w b off xs
  rise : Rise xs
  at' : 1 ≤ n → ao = some ⟨b, off, Option.none⟩
  nil : n = 0 → ao = Option.none
  ids : ∀ x ∈ xs, 1 ≤ x.id ∧ x.id ≤ 1000000
  nodes : ∀ x ∈ xs, -1000000 ≤ x.st ∧ x.st ≤ 1000000 ∧ -1000000 ≤ x.en ∧ x.en ≤ 1000000
  short : ∀ k, (ls.getD k []).length ≤ 1000
  lines : ∀ (k : Nat) (x : ER), xs[k]? = some x → Src w (.slice x.lo x.ll x.lc) (ls.getD k []) ∧ ∀ a, x.lo = some a → ∃ c f, w.heap[a.block]? = some (.cells c 23 f)

set_option maxRecDepth 100000 in
set_option maxHeartbeats 3200000 in
theorem byNode_inB {w : World} {b off n cap : Nat} {ao : Option Addr} {xs : List ER} {ls : List (List Pp)} (h : PlE w b off n ao xs ls) (no : Option Addr) (nl nc : Nat) :
    CallsIn Fence.wide 12 Tryz.prog 108 #[plV (.slice no nl nc) (.slice ao n cap)] w fun e w' => ∃ B f, e = .returned (.map (some B)) ∧ MapV w' B (2 * n) f ∧ (∀ k, LRow w' w.heap.size ((f k).getD nilL) (grp ((List.range (2 * n)).map (ldT xs ls)) k)) ∧ (∀ j k, j ≠ k → Apart ((f j).getD nilL) ((f k).getD nilL)) ∧ (∀ k, f k = none ↔ grp ((List.range (2 * n)).map (ldT xs ls)) k = []) ∧ w.heap.size ≤ B ∧ Below w.heap.size w w' := by
  have hfn : ∀ k, Fence.wide.fn k := fun _ => trivial
  have hmx : Tryz.prog.follows .mixedOrders = true := by kernel_rfl
  obtain ⟨wA, hwA⟩ : ∃ wA, w.alloc (.cells #[.slice no nl nc, .slice ao n cap] 32) = wA := ⟨_, rfl⟩
  obtain ⟨wB, hwB⟩ : ∃ wB, wA.alloc (.map #[] 0) = wB := ⟨_, rfl⟩
  obtain ⟨wC, hwC⟩ : ∃ wC, wB.alloc (.cells #[.map (some (w.heap.size + 1))] 142) = wC := ⟨_, rfl⟩
  have sA : wA.heap.size = w.heap.size + 1 := by rw [← hwA]; simp
  have sB : wB.heap.size = w.heap.size + 2 := by rw [← hwB]; simp [sA]
  have sC : wC.heap.size = w.heap.size + 3 := by rw [← hwC]; simp [sB]
  have hbA : Below w.heap.size w wA := by rw [← hwA]; exact (Below.refl _ w).alloc (Nat.le_refl _) _
  have hbB : Below wA.heap.size wA wB := by rw [← hwB]; exact (Below.refl _ wA).alloc (Nat.le_refl _) _
  have hbC : Below wB.heap.size wB wC := by rw [← hwC]; exact (Below.refl _ wB).alloc (Nat.le_refl _) _
  have hhA : wA.heap[w.heap.size]? = some (.cells #[.slice no nl nc, .slice ao n cap] 32) := by rw [← hwA]; unfold World.alloc; simp
  have hhC := (hbC.block w.heap.size (by omega)).trans ((hbB.block w.heap.size (by omega)).trans hhA)
  have c0 : wC.cell? ⟨w.heap.size, 0, none⟩ = some (.slice no nl nc) := by simp [World.cell?, hhC]
  have c1 : wC.cell? ⟨w.heap.size, 1, none⟩ = some (.slice ao n cap) := by simp [World.cell?, hhC]
  have bAC : Below w.heap.size w wC := (hbA.trans (hbB.mono (by omega))).trans (hbC.mono (by omega))
  have hmkm := @run_makeMap Tryz.prog
  have HLE := hid (leads_any (w := wC) (cap := cap) h.len h.few (fun k x hx => (h.cells k x hx).below bAC (h.cells k x hx).lt) h.rise h.at' h.nil no nl nc)
  refine callsIn_of_wp_marks Tryz.func108 rfl trivial ?_ rfl
  simp only [Tryz.ntmps108, List.size_toArray, List.length_cons, List.length_nil, Nat.reduceAdd, Nat.reduceSub, Array.replicate_succ, Array.replicate_zero, List.push_toArray, List.append_toArray, List.nil_append, List.cons_append]
  have HH := hid h
  clear h
  gi_wp2_with (first
    | (gi_at_call 116; refine (callsIn_wide.2 HLE.out).mono ?_; rintro e w1 ⟨⟨Bx, v, rfl, hbx, hBx, hnew⟩, hb1⟩; clear HLE))
  obtain ⟨ao1, b1, cap1, hv1, hn1, hE1⟩ := hnew
  subst hv1
  have bw1 : Below w.heap.size w w1 := bAC.trans (hb1.mono (by omega))
  have hs1 : w.heap.size + 3 ≤ w1.heap.size := by have := hb1.size; omega
  have hLd : LdM w1 Bx b1 ao1 n cap1 xs ls := ⟨hbx, fun hx => (hn1 hx).1, fun hx => (hn1 hx).2.2, hE1, fun k x hx => by
    obtain ⟨l1, l2⟩ := HH.out.lines k x hx
    refine ⟨l1.below bw1, fun a ha => ?_⟩
    obtain ⟨c, f, hc⟩ := l2 a ha
    exact ⟨c, f, (bw1.block _ (lt_of_heap hc)).trans hc⟩, HH.out.len⟩
  have hbm : w1.heap[w.heap.size + 2]? = some (.cells #[.map (some (w.heap.size + 1))] 142 (0, 0)) := by
    refine (hb1.block _ (by omega)).trans ?_
    rw [← hwC, ← sB]
    unfold World.alloc
    simp
  have hmv : MapV w1 (w.heap.size + 1) 0 (fun _ => none) := by
    have h0 := MapV.made wA
    rw [hwB, sA] at h0
    exact (h0.kept (grownOf hbC) (by simp)).kept (grownOf hb1) (by simp)
  have hG0 : GrI w w.heap.size (w.heap.size + 1) (w.heap.size + 2) [] w1 := ⟨hbm, ⟨_, hmv, fun k => LRow.nil _ _, fun j k _ i hi => (by cases hi), fun k => (by simp [grp])⟩, bw1⟩
  have HG0 := hid hG0
  have HLD := hid hLd
  have HS := hid (And.intro hs1 bw1)
  clear hbx hBx hb1 hn1 hE1 hLd hbm hmv hG0 hwA hwB hwC hbA hbB hbC hhA hhC c0 c1 bAC bw1 sA sB sC hmkm
  refine wpIn_rangeFunc_ownH rfl (by decide) (gf := 144) (lb := #[.pointer (some ⟨Bx, 0, none⟩)]) rfl trivial (enters_of Tryz.func144 (by kernel_rfl) rfl)
    (leads_stops (12 - 1) (by decide) Bx b1 n cap1 ao1 xs ls (by have := HH.out.few; omega) HH.out.ids HH.out.short w1 HLD.out) (fun h k => Ke.trans h k) (fun W l o o' _ h2 h3 _ => Ke.putObj W l o o' h2 h3) (Below.refl _ _) (fun _ => rfl)
    (fun pre W => GrI w w.heap.size (w.heap.size + 1) (w.heap.size + 2) (pre.map fun x => ldT xs ls x.1) W) (fun _ _ _ => False) ?hI ?hIx HG0.out
    (fun x a' W => ∃ Bq, a' = { tmps := #[plV (.slice no nl nc) (.slice ao n cap), .pointer (some ⟨w.heap.size, 0, none⟩), .map none, .pointer (some ⟨w.heap.size + 2, 0, none⟩), .pointer (some ⟨Bq, 0, none⟩), .map (some (w.heap.size + 1)), .agg #[.slice no nl nc, .slice ao n cap], .func (.func 144) #[] #[.pointer (some ⟨Bx, 0, none⟩)], .agg #[.int .i64 (ldW xs x.1), .int .i64 (ldN xs x.1), .int .i64 (ldD ls x.1).1, .int .i64 (ldD ls x.1).2], undef, undef, undef, undef, undef, undef, undef, undef, undef, undef, undef], defers := [] } ∧ W.heap[Bq]? = some (.cells #[.int .i64 (ldW xs x.1), .int .i64 (ldN xs x.1), .int .i64 (ldD ls x.1).1, .int .i64 (ldD ls x.1).2] 157 (0, 0)) ∧ ∃ N f, MapV W (w.heap.size + 1) N f ∧ ∀ k, ((f k).getD nilL).ownBlock ≠ some Bq)
    ?hAx ?assign ?body ?done ?stop
  case hI =>
    rintro s A B' row hs hg' hrow
    exact hs.turn hg' (fun e => by have := (hrow _ e.symm).1; omega) (fun r e => ⟨by have := (hrow r e).1; omega, (hrow r e).2⟩)
  case hIx =>
    rintro c s A B' row h
    exact h.elim
  case stop => exact fun _ _ _ _ _ _ h => h.elim
  case hAx =>
    rintro x a' _ A B' row ⟨Bq, rfl, h1, N, f, h2, h3⟩ hg hrow
    have hs1 := HS.out.1
    exact ⟨Bq, rfl, cellsTurn hg (fun r e => (hrow r e).2) h1, N, f, h2.kept hg (fun e => by have := (hrow _ e.symm).1; omega), h3⟩
  case assign =>
    intro l pre x W K hI hK
    have hfr : Below W.heap.size W (W.alloc (.cells #[.int .i64 (ldW xs x.1), .int .i64 (ldN xs x.1), .int .i64 (ldD ls x.1).1, .int .i64 (ldD ls x.1).2] 157)) := (Below.refl _ W).alloc (Nat.le_refl _) _
    have hax : ∃ N f, MapV (W.alloc (.cells #[.int .i64 (ldW xs x.1), .int .i64 (ldN xs x.1), .int .i64 (ldD ls x.1).1, .int .i64 (ldD ls x.1).2] 157)) (w.heap.size + 1) N f ∧ ∀ k, ((f k).getD nilL).ownBlock ≠ some W.heap.size := by
      obtain ⟨f, h1, h2, _⟩ := hI.map
      exact ⟨_, f, h1.kept (grownOf hfr) (by simp), fun k e => by have := ((h2 k).lt e).1; omega⟩
    have HK := hid (hK _ _ ((keeps_fresh hfr).from _) (Ke.fresh hfr) (hI.turn (grownOf hfr) (by simp) (fun r e => by cases e)) ⟨W.heap.size, rfl, by unfold World.alloc; simp, hax⟩)
    clear hK hI hfr hax
    gi_wp2
    exact HK.out
  case body =>
    rintro l pre x a' W _ _ hI ⟨Bq, rfl, hq, N', f', hm', hne'⟩ hlt
    have hx2 := x.2
    obtain ⟨p, hp⟩ : ∃ p, ldT xs ls x.1 = p := ⟨_, rfl⟩
    have hp1 : ldW xs x.1 = p.1 := by rw [← hp]; rfl
    have hp2 : ldN xs x.1 = p.2.1 := by rw [← hp]; rfl
    have hp3 : ldD ls x.1 = p.2.2 := by rw [← hp]; rfl
    have hnd : -1000000 ≤ p.2.1 ∧ p.2.1 ≤ 1000000 := by
      rw [← hp2]
      have hk2 : x.1 / 2 < xs.length := by rw [HH.out.len]; omega
      have hm := HH.out.nodes (xs.getD (x.1 / 2) default) (by rw [List.getD_eq_getElem?_getD, List.getElem?_eq_getElem hk2]; exact List.getElem_mem hk2)
      unfold ldN
      split <;> omega
    rw [hp1, hp2, hp3] at hq
    have hs1 := HS.out.1
    have hbW := hI.below
    have hdr : Below W.heap.size W W.drew := (Below.refl _ W).drew
    have hId := hI.turn (grownOf hdr) (by simp) (fun r e => by cases e)
    obtain ⟨v, ao3, cap3, W2, W3, hlook, happ, hput, hG3, hK3, hs2, hoth, hkv, hbx2, hcel3, hlook2⟩ := hId.step (by show w.heap.size ≤ W.heap.size; exact hbW.size) (Nat.le_refl _) (by omega) (by rw [List.length_map]; have := HH.out.few; omega) p (by omega) (by omega)
    obtain ⟨M3, hM3⟩ : ∃ M3, (grp (pre.map fun x => ldT xs ls x.1) p.2.1).length + 1 = M3 := ⟨_, rfl⟩
    rw [hM3] at happ hput
    have hvv : v.ownBlock ≠ some Bq := by
      have e1 := hlook W.drew (grownOf (Below.refl _ _))
      have e2 := (hm'.kept (grownOf hdr) (by simp)).look Tryz.underlying142 (zeroL _) (k := p.2.1) (by omega) (by omega)
      rw [e1] at e2
      injection e2 with e2 _
      rw [e2]
      exact hne' _
    have hBq : Bq < W.heap.size := lt_of_heap hq
    have hcells : ∀ Z : World, Z.heap[Bq]? = W.heap[Bq]? → Z.heap[w.heap.size + 2]? = W.heap[w.heap.size + 2]? → Z.cell? ⟨w.heap.size + 2, 0, none⟩ = some (.map (some (w.heap.size + 1))) ∧ Z.cell? ⟨Bq, 0, none⟩ = some (.int .i64 p.1) ∧ Z.cell? ⟨Bq, 1, none⟩ = some (.int .i64 p.2.1) ∧ Z.cell? ⟨Bq, 2, none⟩ = some (.int .i64 p.2.2.1) ∧ Z.cell? ⟨Bq, 3, none⟩ = some (.int .i64 p.2.2.2) := fun Z e1 e2 => by
      rw [hq] at e1
      rw [hI.box] at e2
      refine ⟨by simp [World.cell?, e2], ?_, ?_, ?_, ?_⟩ <;> simp [World.cell?, e1]
    have S0 : Hid ((fun W' : World => W'.cell? ⟨w.heap.size + 2, 0, none⟩ = some (.map (some (w.heap.size + 1))) ∧ W'.cell? ⟨Bq, 0, none⟩ = some (.int .i64 p.1) ∧ W'.cell? ⟨Bq, 1, none⟩ = some (.int .i64 p.2.1) ∧ W'.cell? ⟨Bq, 2, none⟩ = some (.int .i64 p.2.2.1) ∧ W'.cell? ⟨Bq, 3, none⟩ = some (.int .i64 p.2.2.2)) W.drew) := by
      exact hcells W.drew rfl rfl
    obtain ⟨V1, hV1⟩ : ∃ V1, W.drew.alloc (.cells #[.int .i64 p.1, .int .i64 p.2.1, .int .i64 p.2.2.1, .int .i64 p.2.2.2] 157) = V1 := ⟨_, rfl⟩
    have hbV : Below W.drew.heap.size W.drew V1 := by rw [← hV1]; exact (Below.refl _ _).alloc (Nat.le_refl _) _
    have S1 : Hid ((fun W' : World => W'.cell? ⟨w.heap.size + 2, 0, none⟩ = some (.map (some (w.heap.size + 1))) ∧ W'.cell? ⟨Bq, 0, none⟩ = some (.int .i64 p.1) ∧ W'.cell? ⟨Bq, 1, none⟩ = some (.int .i64 p.2.1) ∧ W'.cell? ⟨Bq, 2, none⟩ = some (.int .i64 p.2.2.1) ∧ W'.cell? ⟨Bq, 3, none⟩ = some (.int .i64 p.2.2.2)) V1) := by
      exact hcells V1 (hbV.block _ hBq) (hbV.block _ (lt_of_heap hI.box))
    have S2 : Hid ((fun W' : World => W'.cell? ⟨w.heap.size + 2, 0, none⟩ = some (.map (some (w.heap.size + 1))) ∧ W'.cell? ⟨Bq, 0, none⟩ = some (.int .i64 p.1) ∧ W'.cell? ⟨Bq, 1, none⟩ = some (.int .i64 p.2.1) ∧ W'.cell? ⟨Bq, 2, none⟩ = some (.int .i64 p.2.2.1) ∧ W'.cell? ⟨Bq, 3, none⟩ = some (.int .i64 p.2.2.2)) W2) := by
      exact hcells W2 (hkv _ hBq hvv) hbx2
    have S3 : Hid ((fun W' : World => W'.cell? ⟨w.heap.size + 2, 0, none⟩ = some (.map (some (w.heap.size + 1))) ∧ W'.cell? ⟨Bq, 0, none⟩ = some (.int .i64 p.1) ∧ W'.cell? ⟨Bq, 1, none⟩ = some (.int .i64 p.2.1) ∧ W'.cell? ⟨Bq, 2, none⟩ = some (.int .i64 p.2.2.1) ∧ W'.cell? ⟨Bq, 3, none⟩ = some (.int .i64 p.2.2.2)) W3) := by
      refine hcells W3 ?_ ?_
      · have e := (hkv _ hBq hvv).trans hq
        exact (hcel3 _ _ _ _ e).trans hq.symm
      · have e := hbx2.trans (show W.drew.heap[w.heap.size + 2]? = _ from hI.box)
        exact (hcel3 _ _ _ _ e).trans hI.box.symm
    have HL0 := hid (hlook W.drew (grownOf (Below.refl _ _)))
    have HL1 := hid (hlook V1 (grownOf hbV))
    rw [hV1] at happ
    have HAPP := hid happ
    have HPUT := hid hput
    have HBL := hid (buildLead p W.drew)
    rw [hV1] at HBL
    have HEND := hid (show KeepsFrom w1.heap.size W W3 ∧ Ke W W3 ∧ GrI w w.heap.size (w.heap.size + 1) (w.heap.size + 2) ((pre ++ [x]).map fun x => ldT xs ls x.1) W3 from ⟨⟨Nat.le_trans hdr.size (hK3.size), fun k o hk0 hk1 hk2 => hoth k o (by omega) hk1 hk2⟩, (Ke.fresh hdr).trans hK3, by rw [List.map_append, List.map_cons, List.map_nil, hp]; exact hG3⟩)
    rw [hp1, hp2, hp3]
    clear hlook happ hput hG3 hK3 hs2 hoth hkv hbx2 hcel3 hlook2 hM3 hvv hcells hI hId hq hm' hne' hdr hbV hV1 hbW
    gi_wp2
    refine wpIn_region_callsR (S := fun W' : World => W'.cell? ⟨w.heap.size + 2, 0, none⟩ = some (.map (some (w.heap.size + 1))) ∧ W'.cell? ⟨Bq, 0, none⟩ = some (.int .i64 p.1) ∧ W'.cell? ⟨Bq, 1, none⟩ = some (.int .i64 p.2.1) ∧ W'.cell? ⟨Bq, 2, none⟩ = some (.int .i64 p.2.2.1) ∧ W'.cell? ⟨Bq, 3, none⟩ = some (.int .i64 p.2.2.2)) hmx (by kernel_rfl) S0.out (fun hHeld => ?_)
    refine wpAnyH_take (i := 0) (v := .map (some (w.heap.size + 1))) rfl (by kernel_rfl) (by kernel_rfl) (by kernel_rfl) (fun _ _ _ h => h) (Or.inl ⟨by rfl, fun wx hS => by obtain ⟨q1, q2, q3, q4, q5⟩ := hS; go_simp⟩) (by assumption) ?_
    simp only [List.getElem_toArray, List.getElem_cons_zero, Act.put, List.setIfInBounds_toArray, List.set_cons_zero, List.set_cons_succ]
    refine wpAnyH_take (i := 1) (v := .pointer (some ⟨Bq, 1, none⟩)) rfl (by kernel_rfl) (by kernel_rfl) (by kernel_rfl) (fun _ _ _ h => h) (Or.inl ⟨by rfl, fun wx hS => by obtain ⟨q1, q2, q3, q4, q5⟩ := hS; go_simp⟩) (by assumption) ?_
    simp only [List.getElem_toArray, List.getElem_cons_succ, List.getElem_cons_zero, Act.put, List.setIfInBounds_toArray, List.set_cons_zero, List.set_cons_succ]
    refine wpAnyH_take (i := 2) (v := .int .i64 p.2.1) rfl (by kernel_rfl) (by kernel_rfl) (by kernel_rfl) (fun _ _ _ h => h) (Or.inl ⟨by rfl, fun wx hS => by obtain ⟨q1, q2, q3, q4, q5⟩ := hS; go_simp⟩) (by assumption) ?_
    simp only [List.getElem_toArray, List.getElem_cons_succ, List.getElem_cons_zero, Act.put, List.setIfInBounds_toArray, List.set_cons_zero, List.set_cons_succ]
    refine wpAnyH_take (i := 3) (v := .map (some (w.heap.size + 1))) rfl (by kernel_rfl) (by kernel_rfl) (by kernel_rfl) (fun _ _ _ h => h) (Or.inl ⟨by rfl, fun wx hS => by obtain ⟨q1, q2, q3, q4, q5⟩ := hS; go_simp⟩) (by assumption) ?_
    simp only [List.getElem_toArray, List.getElem_cons_succ, List.getElem_cons_zero, Act.put, List.setIfInBounds_toArray, List.set_cons_zero, List.set_cons_succ]
    refine wpAnyH_take (i := 4) (v := .pointer (some ⟨Bq, 1, none⟩)) rfl (by kernel_rfl) (by kernel_rfl) (by kernel_rfl) (fun _ _ _ h => h) (Or.inl ⟨by rfl, fun wx hS => by obtain ⟨q1, q2, q3, q4, q5⟩ := hS; go_simp⟩) (by assumption) ?_
    simp only [List.getElem_toArray, List.getElem_cons_succ, List.getElem_cons_zero, Act.put, List.setIfInBounds_toArray, List.set_cons_zero, List.set_cons_succ]
    refine wpAnyH_take (i := 5) (v := .int .i64 p.2.1) rfl (by kernel_rfl) (by kernel_rfl) (by kernel_rfl) (fun _ _ _ h => h) (Or.inl ⟨by rfl, fun wx hS => by obtain ⟨q1, q2, q3, q4, q5⟩ := hS; go_simp⟩) (by assumption) ?_
    simp only [List.getElem_toArray, List.getElem_cons_succ, List.getElem_cons_zero, Act.put, List.setIfInBounds_toArray, List.set_cons_zero, List.set_cons_succ]
    refine wpAnyH_take (i := 7) (v := .agg #[.int .i64 p.1, .int .i64 p.2.1, .int .i64 p.2.2.1, .int .i64 p.2.2.2]) rfl (by kernel_rfl) (by kernel_rfl) (by kernel_rfl) (fun _ _ _ h => h) (Or.inl ⟨by rfl, fun wx hS => by obtain ⟨q1, q2, q3, q4, q5⟩ := hS; go_simp⟩) (by assumption) ?_
    simp only [List.getElem_toArray, List.getElem_cons_succ, List.getElem_cons_zero, Act.put, List.setIfInBounds_toArray, List.set_cons_zero, List.set_cons_succ]
    refine wpAnyH_ready (rs := [6, 8]) (by kernel_rfl) (by simp) ?_
    refine AllReadyH.cons rfl (fun K hK => ?_) (AllReadyH.cons rfl (fun K hK => ?_) AllReadyH.nil)
    · dsimp only [List.getElem_toArray, List.getElem_cons_succ, List.getElem_cons_zero]
      refine stepRun (v := v) (w' := W.drew) rfl ?_ (hK.out _ _ S0.out (fun _ => ?_))
      · exact execLook 142 (.tmp 12) (.tmp 14) rfl rfl rfl HL0.out
      clear hK K
      simp only [Act.put, List.setIfInBounds_toArray, List.set_cons_zero, List.set_cons_succ]
      refine wpAnyH_ready (rs := [8]) (by kernel_rfl) (by simp) ?_
      refine AllReadyH.cons rfl (fun K hK => ?_) AllReadyH.nil
      dsimp only [List.getElem_toArray, List.getElem_cons_succ, List.getElem_cons_zero]
      refine stepRun (v := .slice (some ⟨W.drew.heap.size, 0, none⟩) 1 1) (w' := V1) rfl ?_ (hK.out _ _ S1.out (fun _ => ?_))
      · exact execBuild 141 1 0 (.tmp 16) rfl rfl HBL.out
      clear hK K
      simp only [Act.put, List.setIfInBounds_toArray, List.set_cons_zero, List.set_cons_succ]
      refine wpAnyH_ready (rs := [9]) (by kernel_rfl) (by simp) ?_
      refine AllReadyH.cons rfl (fun K hK => ?_) AllReadyH.nil
      dsimp only [List.getElem_toArray, List.getElem_cons_succ, List.getElem_cons_zero]
      refine stepRun (v := .slice ao3 M3 cap3) (w' := W2) rfl ?_ (hK.out _ _ S2.out (fun _ => ?_))
      · exact execAppend (v := v) (u := .slice (some ⟨W.drew.heap.size, 0, none⟩) 1 1) (.tmp 15) (.tmp 17) 141 rfl rfl rfl HAPP.out
      clear hK K
      simp only [Act.put, List.setIfInBounds_toArray, List.set_cons_zero, List.set_cons_succ]
      refine wpAnyH_ready (rs := [10]) (by kernel_rfl) (by simp) ?_
      refine AllReadyH.cons rfl (fun K hK => ?_) AllReadyH.nil
      dsimp only [List.getElem_toArray, List.getElem_cons_succ, List.getElem_cons_zero]
      refine stepSkip (w' := W3) rfl ?_ (hK.out _ _ S3.out (fun _ => ?_))
      · exact execPut 142 (.tmp 9) (.tmp 11) (.tmp 18) rfl rfl rfl rfl HPUT.out
      clear hK K
      refine wpAnyH_done (by kernel_rfl) ?_ _
      dsimp only [Np]
      gi_wp2
      exact HEND.out
    · dsimp only [List.getElem_toArray, List.getElem_cons_succ, List.getElem_cons_zero]
      refine stepRun (v := .slice (some ⟨W.drew.heap.size, 0, none⟩) 1 1) (w' := V1) rfl ?_ (hK.out _ _ S1.out (fun _ => ?_))
      · exact execBuild 141 1 0 (.tmp 16) rfl rfl HBL.out
      clear hK K
      simp only [Act.put, List.setIfInBounds_toArray, List.set_cons_zero, List.set_cons_succ]
      refine wpAnyH_ready (rs := [6]) (by kernel_rfl) (by simp) ?_
      refine AllReadyH.cons rfl (fun K hK => ?_) AllReadyH.nil
      dsimp only [List.getElem_toArray, List.getElem_cons_succ, List.getElem_cons_zero]
      refine stepRun (v := v) (w' := V1) rfl ?_ (hK.out _ _ S1.out (fun _ => ?_))
      · exact execLook 142 (.tmp 12) (.tmp 14) rfl rfl rfl HL1.out
      clear hK K
      simp only [Act.put, List.setIfInBounds_toArray, List.set_cons_zero, List.set_cons_succ]
      refine wpAnyH_ready (rs := [9]) (by kernel_rfl) (by simp) ?_
      refine AllReadyH.cons rfl (fun K hK => ?_) AllReadyH.nil
      dsimp only [List.getElem_toArray, List.getElem_cons_succ, List.getElem_cons_zero]
      refine stepRun (v := .slice ao3 M3 cap3) (w' := W2) rfl ?_ (hK.out _ _ S2.out (fun _ => ?_))
      · exact execAppend (v := v) (u := .slice (some ⟨W.drew.heap.size, 0, none⟩) 1 1) (.tmp 15) (.tmp 17) 141 rfl rfl rfl HAPP.out
      clear hK K
      simp only [Act.put, List.setIfInBounds_toArray, List.set_cons_zero, List.set_cons_succ]
      refine wpAnyH_ready (rs := [10]) (by kernel_rfl) (by simp) ?_
      refine AllReadyH.cons rfl (fun K hK => ?_) AllReadyH.nil
      dsimp only [List.getElem_toArray, List.getElem_cons_succ, List.getElem_cons_zero]
      refine stepSkip (w' := W3) rfl ?_ (hK.out _ _ S3.out (fun _ => ?_))
      · exact execPut 142 (.tmp 9) (.tmp 11) (.tmp 18) rfl rfl rfl rfl HPUT.out
      clear hK K
      refine wpAnyH_done (by kernel_rfl) ?_ _
      dsimp only [Np]
      gi_wp2
      exact HEND.out
  case done =>
    rintro D ys W hD hS hI hK
    have hmm : (ys.map fun x => ldT xs ls x.1) = (List.range (2 * n)).map (ldT xs ls) := by rw [← hS, List.map_map]; rfl
    rw [hmm] at hI
    have hs1 := HS.out.1
    have cb : W.cell? ⟨w.heap.size + 2, 0, none⟩ = some (.map (some (w.heap.size + 1))) := by have := hI.box; simp [World.cell?, this]
    have hT := hI.turn (grownBy_putObj' W D (.deferred none)) (fun e => by injection e with e; omega) (fun r e => by injection e with e; subst e; exact ⟨by omega, _, hK, rfl⟩)
    have HT := hid hT
    have HK := hid hK
    clear hI hT hK hS hmm
    gi_wp2
    refine ⟨by simp, .inl ⟨_, _, rfl, run_takeDeferred HK.out, ?_⟩⟩
    obtain ⟨f, h1, h2, h3, h4⟩ := HT.out.map
    rw [List.length_map, List.length_range] at h1
    refine ⟨.map (some (w.heap.size + 1)), ?_, _, f, rfl, h1, h2, h3, h4, Nat.le_succ _, HT.out.below⟩
    simp [results, Tryz.f108, go_sem]
theorem byNode_in {w : World} {b off n cap : Nat} {ao : Option Addr} {xs : List ER} {ls : List (List Pp)} (h : PlE w b off n ao xs ls) (no : Option Addr) (nl nc : Nat) :
    CallsIn Fence.wide 12 Tryz.prog 108 #[plV (.slice no nl nc) (.slice ao n cap)] w fun e w' => ∃ B f, e = .returned (.map (some B)) ∧ MapV w' B (2 * n) f ∧ (∀ k, LRow w' w.heap.size ((f k).getD nilL) (grp ((List.range (2 * n)).map (ldT xs ls)) k)) ∧ (∀ j k, j ≠ k → Apart ((f j).getD nilL) ((f k).getD nilL)) ∧ (∀ k, f k = none ↔ grp ((List.range (2 * n)).map (ldT xs ls)) k = []) ∧ Below w.heap.size w w' :=
  (byNode_inB h no nl nc).mono fun _ _ ⟨B, f, e, h1, h2, h3, h4, _, h6⟩ => ⟨B, f, e, h1, h2, h3, h4, h6⟩
theorem byNode_any {w : World} {b off n cap : Nat} {ao : Option Addr} {xs : List ER} {ls : List (List Pp)} (h : PlE w b off n ao xs ls) (no : Option Addr) (nl nc : Nat) :
    Calls Tryz.prog 108 #[plV (.slice no nl nc) (.slice ao n cap)] w fun e w' => ∃ B f, e = .returned (.map (some B)) ∧ MapV w' B (2 * n) f ∧ (∀ k, LRow w' w.heap.size ((f k).getD nilL) (grp ((List.range (2 * n)).map (ldT xs ls)) k)) ∧ (∀ j k, j ≠ k → Apart ((f j).getD nilL) ((f k).getD nilL)) ∧ (∀ k, f k = none ↔ grp ((List.range (2 * n)).map (ldT xs ls)) k = []) ∧ Below w.heap.size w w' :=
  callsIn_wide.1 (byNode_in h no nl nc)
end Go.Proofs.YtkdnkmheidbfdaaGreat
