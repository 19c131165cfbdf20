/-
  Layer 14: plan's leads: the closure, and what a round of its range must keep.
-/
import Derived.Test.YtkdnkmheidbfdaaGreatM2
import Derived.Test.YtkdnkmheidbfdaaGreatMD
import Derived.Laws.Rows
import Derived.Maps.Own
import Derived.Maps.Views
import Derived.Maps.OwnSet
namespace Go.Proofs.YtkdnkmheidbfdaaGreat
open Go.RowKit Go.Shelf Go.Sort

theorem box_setE {W : World} {b : Nat} {u v : Value} {t : TypeId} (h : W.heap[b]? = some (.cells #[u] t (0, 0))) : (W.setCell ⟨b, 0, none⟩ v).heap[b]? = some (.cells #[v] t (0, 0)) := by
  rw [heap_setCell_same W b 0 _ _ _ h]
  rfl

set_option maxRecDepth 100000 in
set_option maxHeartbeats 1600000 in
theorem leads_any {w : World} {b off n cap : Nat} {xs : List ER} (hn : xs.length = n) (hl : n ≤ 400) (h : EAts w b off xs) (hr : Rise xs) {ao : Option Addr} (hao : 1 ≤ n → ao = some ⟨b, off, none⟩) (h0 : n = 0 → ao = none) (no : Option Addr) (nl nc : Nat) :
    Calls Tryz.prog 116 #[plV (.slice no nl nc) (.slice ao n cap)] w fun e w' => (∃ Bx v, e = .returned (.func (.func 144) #[] #[.pointer (some ⟨Bx, 0, none⟩)]) ∧ w'.heap[Bx]? = some (.cells #[v] 30 (0, 0)) ∧ w.heap.size ≤ Bx ∧ NewE w w' v n xs) ∧ Below w.heap.size w w' := by
  obtain ⟨wA, hwA⟩ : ∃ wA, w.alloc (.cells #[.slice no nl nc, .slice ao n cap] 32) = wA := ⟨_, rfl⟩
  have hbA : Below w.heap.size w wA := by rw [← hwA]; exact (Below.refl _ w).alloc (Nat.le_refl _) _
  have hhA : wA.heap[w.heap.size]? = some (.cells #[.slice no nl nc, .slice ao n cap] 32) := by rw [← hwA]; unfold World.alloc; simp
  have c0 : wA.cell? ⟨w.heap.size, 0, none⟩ = some (.slice no nl nc) := by simp [World.cell?, hhA]
  have c1 : wA.cell? ⟨w.heap.size, 1, none⟩ = some (.slice ao n cap) := by simp [World.cell?, hhA]
  have hE : EAts wA b off xs := fun k x hx => (h k x hx).below hbA (h k x hx).lt
  have HB := hid (byID_any (cap := cap) hn hl hE hr hao h0 no nl nc)
  have HBA := hid hbA
  clear hE hbA hhA h hao h0
  go_enter Tryz.func116, Tryz.ntmps116
  go_wp2_with (first
    | (go_at_call 143; refine HB.out.mono ?_; rintro e w1 ⟨⟨v1, rfl, ao1, b1, cap1, rfl, h1, h2⟩, hb1⟩; have HX1 := hid (And.intro h1 (And.intro h2 hb1)); obtain ⟨w2, hw2⟩ : ∃ w2, w1.alloc (.cells #[.slice none 0 0] 30) = w2 := ⟨_, rfl⟩; have x2 : w2.heap[w1.heap.size]? = some (.cells #[.slice none 0 0] 30 (0, 0)) := (by rw [← hw2]; unfold World.alloc; simp); have z2 : w2.cell? ⟨w1.heap.size, 0, none⟩ = some (.slice none 0 0) := (by simp [World.cell?, x2]); have f2 : w2.frozen? ⟨w1.heap.size, 0, none⟩ = false := (by simp [World.frozen?, x2]); clear HB h1 h2 hb1))
  go_ret
  have hb2 : Below w1.heap.size w1 w2 := by rw [← hw2]; exact (Below.refl _ w1).alloc (Nat.le_refl _) _
  have hb3 : Below w1.heap.size w1 (w2.setCell ⟨w1.heap.size, 0, none⟩ (.slice ao1 n cap1)) := hb2.setCell (p := ⟨w1.heap.size, 0, none⟩) (Nat.le_refl _) _
  obtain ⟨h1, h2, hb1⟩ := HX1.out
  have hsA := HBA.out.size
  have hs1 := hb1.size
  exact ⟨⟨w1.heap.size, _, rfl, box_setE x2, by omega, ao1, b1, cap1, rfl, fun hx => ⟨(h1 hx).1, by have := (h1 hx).2.1; omega, ⟨(h1 hx).2.2.choose, (hb3.block b1 (lt_of_heap (h1 hx).2.2.choose_spec)).trans (h1 hx).2.2.choose_spec⟩⟩, fun k x hx => (h2 k x hx).below hb3 (h2 k x hx).lt⟩, (HBA.out.trans (hb1.mono hsA)).trans (hb3.mono (by omega))⟩
end Go.Proofs.YtkdnkmheidbfdaaGreat

namespace Go.Proofs.YtkdnkmheidbfdaaGreat
open Go.RowKit Go.Shelf Go.Sort

attribute [local go_sem] Oper.semAt_some

theorem grownOf {w w' : World} (h : Below w.heap.size w w') : w.grownBy w' none := ⟨h.os, h.tape, h.output, h.size, fun k hk _ => h.block k hk⟩
/-- What a round keeps: edges, points, the boxes of rows of edges. -/
structure Ke (W W' : World) : Prop where
  size : W.heap.size ≤ W'.heap.size
  keep : ∀ (k : Nat) (c : Array Value) (t : TypeId) (f : Nat × Nat), W.heap[k]? = some (Obj.cells c t f) → t = 29 ∨ t = 23 ∨ t = 30 → W'.heap[k]? = W.heap[k]?
theorem Ke.trans {A B C : World} (h : Ke A B) (k : Ke B C) : Ke A C := ⟨Nat.le_trans h.size k.size, fun i c t f hi ht => (k.keep i c t f ((h.keep i c t f hi ht).trans hi) ht).trans (h.keep i c t f hi ht)⟩
theorem Ke.fresh {A B : World} (h : Below A.heap.size A B) : Ke A B := ⟨h.size, fun k _ _ _ hk _ => h.block k (lt_of_heap hk)⟩
theorem Src.block {w w' : World} {lo : Option Addr} {ll lc : Nat} {ps : List Pp} (h : Src w (.slice lo ll lc) ps) (hb : ∀ a, lo = some a → w'.heap[a.block]? = w.heap[a.block]?) : Src w' (.slice lo ll lc) ps := by
  rcases h with h | ⟨b, off, cap, e, hc, hx⟩
  · exact .inl h
  · injection e with e1 e2 e3
    subst e1 e2 e3
    refine .inr ⟨b, off, _, rfl, hc, fun k p hk => ?_⟩
    have := hb _ rfl
    obtain ⟨z0, z1⟩ := hx k p hk
    exact ⟨(World.cell?_of_block (a := ⟨b, off + k * 2, none⟩) this).trans z0, (World.cell?_of_block (a := ⟨b, off + k * 2 + 1, none⟩) this).trans z1⟩
/-- The edges and their lines, where leads's closure finds them. -/
structure LdM (W : World) (Bx b : Nat) (ao : Option Addr) (n cap : Nat) (xs : List ER) (ls : List (List Pp)) : Prop where
  box : W.heap[Bx]? = some (.cells #[.slice ao n cap] 30 (0, 0))
  ao : 1 ≤ n → ao = some ⟨b, 0, none⟩
  row : 1 ≤ n → ∃ c, W.heap[b]? = some (.cells c 29 (0, 0))
  cells : EAts W b 0 xs
  lines : ∀ (k : Nat) (x : ER), xs[k]? = some x → Src W (.slice x.lo x.ll x.lc) (ls.getD k []) ∧ ∀ a, x.lo = some a → ∃ c f, W.heap[a.block]? = some (.cells c 23 f)
  len : xs.length = n
theorem LdM.ke {W W' : World} {Bx b : Nat} {ao : Option Addr} {n cap : Nat} {xs : List ER} {ls : List (List Pp)} (h : LdM W Bx b ao n cap xs ls) (hk : Ke W W') : LdM W' Bx b ao n cap xs ls := by
  refine ⟨(hk.keep _ _ _ _ h.box (.inr (.inr rfl))).trans h.box, h.ao, fun h1 => ?_, fun k x hx => ?_, fun k x hx => ⟨?_, fun a ha => ?_⟩, h.len⟩
  · obtain ⟨c, hc⟩ := h.row h1
    exact ⟨c, (hk.keep _ _ _ _ hc (.inl rfl)).trans hc⟩
  · have h1 : 1 ≤ n := by have := (List.getElem?_eq_some_iff.1 hx).1; have := h.len; omega
    obtain ⟨c, hc⟩ := h.row h1
    have e := hk.keep _ _ _ _ hc (.inl rfl)
    obtain ⟨z0, z1, z2, z3, z4, z5⟩ := h.cells k x hx
    have key : ∀ o, W'.cell? ⟨b, o, none⟩ = W.cell? ⟨b, o, none⟩ := fun o => World.cell?_of_block (a := ⟨b, o, none⟩) e
    exact ⟨(key _).trans z0, (key _).trans z1, (key _).trans z2, (key _).trans z3, (key _).trans z4, (key _).trans z5⟩
  · obtain ⟨h1, h2⟩ := h.lines k x hx
    refine h1.block fun a ha => ?_
    obtain ⟨c, f, hc⟩ := h2 a ha
    exact hk.keep _ _ _ _ hc (.inr (.inl rfl))
  · obtain ⟨c, f, hc⟩ := (h.lines k x hx).2 a ha
    exact ⟨c, f, (hk.keep _ _ _ _ hc (.inr (.inl rfl))).trans hc⟩

/-- A way by its number: how it begins. -/
abbrev Ln (n : Nat) : Type := { x : Nat // x < n }
instance : Inhabited ER := ⟨⟨0, 0, 0, none, 0, 0, 0, 0⟩⟩
def ldW (xs : List ER) (k : Nat) : Int := if k % 2 = 0 then (xs.getD (k / 2) default).id else -(xs.getD (k / 2) default).id
def ldN (xs : List ER) (k : Nat) : Int := if k % 2 = 0 then (xs.getD (k / 2) default).st else (xs.getD (k / 2) default).en
def ldD (ls : List (List Pp)) (k : Nat) : Pp := if k % 2 = 0 then hdD (ls.getD (k / 2) []) else hdD ((ls.getD (k / 2) []).drop ((ls.getD (k / 2) []).length - 2)).reverse
abbrev ldV (xs : List ER) (ls : List (List Pp)) (k : Nat) : Array Value := #[.agg #[.int .i64 (ldW xs k), .int .i64 (ldN xs k), .int .i64 (ldD ls k).1, .int .i64 (ldD ls k).2]]

theorem ld_even {xs : List ER} {ls : List (List Pp)} {k : Nat} {x : ER} (hx : xs[k]? = some x) : ldW xs (2 * k) = x.id ∧ ldN xs (2 * k) = x.st ∧ ldD ls (2 * k) = hdD (ls.getD k []) := by
  unfold ldW ldN ldD
  rw [show 2 * k % 2 = 0 by omega, show 2 * k / 2 = k by omega]
  simp [List.getD_eq_getElem?_getD, hx]
theorem ld_odd {xs : List ER} {ls : List (List Pp)} {k : Nat} {x : ER} (hx : xs[k]? = some x) : ldW xs (2 * k + 1) = -x.id ∧ ldN xs (2 * k + 1) = x.en ∧ ldD ls (2 * k + 1) = hdD ((ls.getD k []).drop ((ls.getD k []).length - 2)).reverse := by
  unfold ldW ldN ldD
  rw [show (2 * k + 1) % 2 = 1 by omega, show (2 * k + 1) / 2 = k by omega]
  simp [List.getD_eq_getElem?_getD, hx]

set_option maxRecDepth 100000 in
set_option maxHeartbeats 3200000 in
theorem leads_in (m : Nat) (hm : 3 ≤ m) (l Bx b n cap : Nat) (ao : Option Addr) (xs : List ER) (ls : List (List Pp)) (hl : n ≤ 1000) (hid' : ∀ x ∈ xs, 1 ≤ x.id ∧ x.id ≤ 1000000) (hln : ∀ k, (ls.getD k []).length ≤ 1000) (J Jx : List (Ln (2 * n)) → World → Prop) (W : World) (hAb : AbidesFrom W.heap.size J)
    (hY : ∀ pre x W1, J pre W1 → pre.length < 2 * n → YieldAt Fence.wide (m - 1) Tryz.prog l (ldV xs ls x.1) W1 fun e W' =>
      (e = .returned (.bool true) ∧ J (pre ++ [x]) W' ∧ Ke W1 W') ∨ (e = .returned (.bool false) ∧ Jx (pre ++ [x]) W'))
    (hM : LdM W Bx b ao n cap xs ls) (h0 : J [] W) :
    CallsIn Fence.wide m Tryz.prog 144 #[.func (.yield l) #[] #[], .pointer (some ⟨Bx, 0, none⟩)] W fun e W' => (∃ v, e = .returned v) ∧
      ((∃ ys, ys.map (·.1) = List.range (2 * n) ∧ J ys W') ∨ (∃ pre, True ∧ Jx pre W')) := by
  have hfn : ∀ k, Fence.wide.fn k := fun _ => trivial
  have hmx : Tryz.prog.follows .mixedOrders = true := by kernel_rfl
  have hm1 : 1 ≤ m := by omega
  have hbx : W.cell? ⟨Bx, 0, none⟩ = some (.slice ao n cap) := by have := hM.box; simp [World.cell?, this]
  have HID := hid hid'
  have HLN := hid hln
  have HM := hid hM
  clear hid' hln hM
  refine callsIn_of_wp Tryz.func144 rfl trivial ?_ rfl
  simp only [Tryz.ntmps144, List.size_toArray, List.length_cons, List.length_nil, Nat.reduceAdd, Nat.reduceSub, Array.replicate_succ, Array.replicate_zero, List.push_toArray, List.append_toArray, List.nil_append, List.cons_append]
  gi_wp2
  gi_loopw [4, 5, 6, 9] (fun _ _ _ i wr => ∃ (k : Nat) (pre : List (Ln (2 * n))), k ≤ n ∧ i = .int .i64 k ∧ pre.map (·.1) = List.range (2 * k) ∧ J pre wr ∧ LdM wr Bx b ao n cap xs ls) (fun _ _ _ i _ => n - (intOf i).toNat)
  case atStart => exact ⟨0, [], Nat.zero_le _, rfl, rfl, h0, HM.out⟩
  case round =>
    obtain ⟨k, pre, hk, rfl, hpre, hJs, hLd⟩ := hrel
    by_cases hlt : k < n
    · have hltI : (k : Int) < (n : Int) := by omega
      obtain rfl := hLd.ao (by omega)
      obtain ⟨x, hx⟩ : ∃ x, xs[k]? = some x := ⟨xs[k]'(by have := hLd.len; omega), by rw [List.getElem?_eq_getElem]⟩
      obtain ⟨a0, a1, a2, a3, a4, a5⟩ := hLd.cells k x hx
      simp only [Nat.zero_add] at a0 a1 a2 a3 a4 a5
      obtain ⟨V1, hV1⟩ : ∃ V1, wr.alloc (.cells #[.int .i64 x.id, .int .i64 x.st, .int .i64 x.en, .slice x.lo x.ll x.lc, .int .i64 x.lf, .int .i64 x.rt] 29) = V1 := ⟨_, rfl⟩
      have hb1 : Below wr.heap.size wr V1 := by rw [← hV1]; exact (Below.refl _ wr).alloc (Nat.le_refl _) _
      have hE1 : EAt V1 wr.heap.size 0 x := by rw [← hV1]; exact ebox wr x _
      have hLd1 := hLd.ke (Ke.fresh hb1)
      have hJ1 : J pre V1 := hAb _ _ _ none hJs (grownOf hb1) (fun r hr => by cases hr)
      obtain ⟨N, hN⟩ : ∃ N, wr.heap.size = N := ⟨_, rfl⟩
      rw [hN] at hE1
      have hNV : N < V1.heap.size := hE1.lt
      have S0 : V1.drew.cell? ⟨N, 0, none⟩ = some (.int .i64 x.id) ∧ V1.drew.cell? ⟨N, 1, none⟩ = some (.int .i64 x.st) ∧ V1.drew.cell? ⟨N, 2, none⟩ = some (.int .i64 x.en) ∧ V1.drew.cell? ⟨N, 3, none⟩ = some (.slice x.lo x.ll x.lc) := ⟨hE1.1, hE1.2.1, hE1.2.2.1, hE1.2.2.2.1⟩
      obtain ⟨hsrc, _⟩ := hLd1.lines k x hx
      have HH := hid (heading_any _ _ V1.drew (hsrc.below (Below.refl _ V1).drew) (by have := HLN.out k; omega))
      have HX := hid hx
      have HP := hid hpre
      have HJ := hid hJs
      have HLD := hid hLd
      have HE1 := hid hE1
      have HBK := hid (show V1.heap[N]? = some (.cells #[.int .i64 x.id, .int .i64 x.st, .int .i64 x.en, .slice x.lo x.ll x.lc, .int .i64 x.lf, .int .i64 x.rt] 29 (0, 0)) by rw [← hV1, ← hN]; unfold World.alloc; simp)
      have HJ1 := hid hJ1
      have HLD1 := hid hLd1
      have HB1 := hid hb1
      obtain ⟨dx, dy, hdd⟩ : ∃ dx dy, hdD (ls.getD k []) = (dx, dy) := ⟨_, _, rfl⟩
      rw [hdd] at HH
      dsimp only at HH
      have HDD := hid hdd
      have S0' := hid S0
      clear hx hpre hJs hLd hE1 hJ1 hLd1 hb1 hsrc hdd
      gi_wp2
      refine wpIn_region_front (S := fun w' => w'.cell? ⟨N, 0, none⟩ = some (.int .i64 x.id) ∧ w'.cell? ⟨N, 1, none⟩ = some (.int .i64 x.st) ∧ w'.cell? ⟨N, 2, none⟩ = some (.int .i64 x.en) ∧ w'.cell? ⟨N, 3, none⟩ = some (.slice x.lo x.ll x.lc)) 9 hmx (by kernel_rfl) (by kernel_rfl) S0'.out (fun hHeld => ?_)
      simp only [List.take, List.drop]
      refine wpAnyH_take (i := 0) (v := .func (.yield l) #[] #[]) rfl (by kernel_rfl) (by kernel_rfl) (by kernel_rfl) (fun _ _ _ h => h) (Or.inl ⟨by rfl, fun wx hS => by obtain ⟨q1, q2, q3, q4⟩ := hS; go_simp⟩) (by assumption) ?_
      simp only [List.getElem_toArray, List.getElem_cons_zero, Act.put, List.setIfInBounds_toArray, List.set_cons_zero, List.set_cons_succ]
      refine wpAnyH_take (i := 1) (v := .pointer (some ⟨N, 0, none⟩)) rfl (by kernel_rfl) (by kernel_rfl) (by kernel_rfl) (fun _ _ _ h => h) (Or.inl ⟨by rfl, fun wx hS => by obtain ⟨q1, q2, q3, q4⟩ := hS; go_simp⟩) (by assumption) ?_
      simp only [List.getElem_toArray, List.getElem_cons_succ, List.getElem_cons_zero, Act.put, List.setIfInBounds_toArray, List.set_cons_zero, List.set_cons_succ]
      refine wpAnyH_take (i := 2) (v := .int .i64 x.id) rfl (by kernel_rfl) (by kernel_rfl) (by kernel_rfl) (fun _ _ _ h => h) (Or.inl ⟨by rfl, fun wx hS => by obtain ⟨q1, q2, q3, q4⟩ := hS; go_simp⟩) (by assumption) ?_
      simp only [List.getElem_toArray, List.getElem_cons_succ, List.getElem_cons_zero, Act.put, List.setIfInBounds_toArray, List.set_cons_zero, List.set_cons_succ]
      refine wpAnyH_take (i := 3) (v := .pointer (some ⟨N, 1, none⟩)) rfl (by kernel_rfl) (by kernel_rfl) (by kernel_rfl) (fun _ _ _ h => h) (Or.inl ⟨by rfl, fun wx hS => by obtain ⟨q1, q2, q3, q4⟩ := hS; go_simp⟩) (by assumption) ?_
      simp only [List.getElem_toArray, List.getElem_cons_succ, List.getElem_cons_zero, Act.put, List.setIfInBounds_toArray, List.set_cons_zero, List.set_cons_succ]
      refine wpAnyH_take (i := 4) (v := .int .i64 x.st) rfl (by kernel_rfl) (by kernel_rfl) (by kernel_rfl) (fun _ _ _ h => h) (Or.inl ⟨by rfl, fun wx hS => by obtain ⟨q1, q2, q3, q4⟩ := hS; go_simp⟩) (by assumption) ?_
      simp only [List.getElem_toArray, List.getElem_cons_succ, List.getElem_cons_zero, Act.put, List.setIfInBounds_toArray, List.set_cons_zero, List.set_cons_succ]
      refine wpAnyH_take (i := 5) (v := .pointer (some ⟨N, 3, none⟩)) rfl (by kernel_rfl) (by kernel_rfl) (by kernel_rfl) (fun _ _ _ h => h) (Or.inl ⟨by rfl, fun wx hS => by obtain ⟨q1, q2, q3, q4⟩ := hS; go_simp⟩) (by assumption) ?_
      simp only [List.getElem_toArray, List.getElem_cons_succ, List.getElem_cons_zero, Act.put, List.setIfInBounds_toArray, List.set_cons_zero, List.set_cons_succ]
      refine wpAnyH_take (i := 6) (v := .slice x.lo x.ll x.lc) rfl (by kernel_rfl) (by kernel_rfl) (by kernel_rfl) (fun _ _ _ h => h) (Or.inl ⟨by rfl, fun wx hS => by obtain ⟨q1, q2, q3, q4⟩ := hS; go_simp⟩) (by assumption) ?_
      simp only [List.getElem_toArray, List.getElem_cons_succ, List.getElem_cons_zero, Act.put, List.setIfInBounds_toArray, List.set_cons_zero, List.set_cons_succ]
      refine wpAnyH_ready (rs := [7]) (by kernel_rfl) (by simp) ?_
      refine AllReadyH.cons rfl (fun K hK => ?_) AllReadyH.nil
      go_simp
      refine HH.out.mono ?_
      rintro e w2 ⟨rfl, hb2⟩
      have hb12 : Below V1.heap.size V1 w2 := (Below.refl _ V1).drew.trans hb2
      have hEs : ∀ Z, Ke V1 Z → Z.heap[N]? = V1.heap[N]? := fun Z hZ => hZ.keep _ _ _ _ HBK.out (.inl rfl)
      have hcl : ∀ Z, Ke V1 Z → Z.cell? ⟨N, 0, none⟩ = some (.int .i64 x.id) ∧ Z.cell? ⟨N, 1, none⟩ = some (.int .i64 x.st) ∧ Z.cell? ⟨N, 2, none⟩ = some (.int .i64 x.en) ∧ Z.cell? ⟨N, 3, none⟩ = some (.slice x.lo x.ll x.lc) := fun Z hZ => by
        have key : ∀ o, Z.cell? ⟨N, o, none⟩ = V1.cell? ⟨N, o, none⟩ := fun o => World.cell?_of_block (a := ⟨N, o, none⟩) (hEs Z hZ)
        exact ⟨(key _).trans HE1.out.1, (key _).trans HE1.out.2.1, (key _).trans HE1.out.2.2.1, (key _).trans HE1.out.2.2.2.1⟩
      have hJ2 : J pre w2 := hAb _ _ _ none HJ1.out (grownOf hb12) (fun r hr => by cases hr)
      have hprel : pre.length = 2 * k := by
        have := congrArg List.length HP.out
        rwa [List.length_map, List.length_range] at this
      have HY1 := hid (hY pre ⟨2 * k, by omega⟩ w2 hJ2 (by omega))
      obtain ⟨g1, g2, g3⟩ := ld_even (ls := ls) HX.out
      dsimp only [ldV] at HY1
      rw [g1, g2, g3, HDD.out] at HY1
      dsimp only at HY1
      have HK12 := hid (Ke.fresh hb12)
      refine hK.out _ _ (hcl w2 HK12.out) (fun hHeld1 => ?_)
      clear hK K
      have HCL := hid hcl
      have HPL := hid hprel
      clear hcl hEs hJ2 hb12 hb2 g1 g2 g3 hprel
      refine wpAnyH_take (i := 8) (v := .agg #[.int .i64 x.id, .int .i64 x.st, .int .i64 dx, .int .i64 dy]) rfl (by kernel_rfl) (by kernel_rfl) (by kernel_rfl) (fun _ _ _ h => h) (Or.inl ⟨by rfl, fun wx hS => by obtain ⟨q1, q2, q3, q4⟩ := hS; go_simp⟩) (by assumption) ?_
      simp only [List.getElem_toArray, List.getElem_cons_succ, List.getElem_cons_zero, Act.put, List.setIfInBounds_toArray, List.set_cons_zero, List.set_cons_succ]
      refine wpAnyH_done (by kernel_rfl) ?_ _
      dsimp only [Np, Hd]
      obtain ⟨fn, tmps, assign, body, hy, hR⟩ := HY1.out
      have HR := hid hR
      clear hR HY1 hHeld1 hHeld
      gi_wp2
      refine HR.out.mono ?_
      rintro e W3 (⟨rfl, hJ3, hk3⟩ | ⟨rfl, hJx3⟩)
      · clear hy
        have hK13 : Ke V1 W3 := HK12.out.trans hk3
        have hLd3 := HLD1.out.ke hK13
        obtain ⟨u0, u1, u2, u3⟩ := HCL.out W3 hK13
        have hbx3 : W3.cell? ⟨Bx, 0, none⟩ = some (.slice (some ⟨b, 0, none⟩) n cap) := by have := hLd3.box; simp [World.cell?, this]
        have hxm : x ∈ xs := List.mem_of_getElem? HX.out
        have hxb := HID.out x hxm
        have hneg : IntKind.i64.wrap (-x.id) = -x.id := by rw [IntKind.wrap_i64]; omega
        have HBN := hid (binE_any (cap := cap) hLd3.len (by omega) hLd3.cells (-x.id) (fun y hy => by have := HID.out y hy; omega) (fun _ => rfl))
        have HJ3 := hid hJ3
        have HLD3 := hid hLd3
        have HK13 := hid hK13
        clear hJ3 hk3 hK13 hLd3 hxm HR
        gi_wp2_with (first
          | (gi_at_call 146; refine (callsIn_wide.2 HBN.out).mono ?_; rintro e W4 ⟨rfl, hb4⟩; have HB4 := hid hb4; clear HBN hb4))
        have hK14 : Ke V1 W4 := HK13.out.trans (Ke.fresh HB4.out)
        have S4 := HCL.out W4 hK14
        have hLd4 := HLD3.out.ke (Ke.fresh HB4.out)
        obtain ⟨hsrc4, _⟩ := hLd4.lines k x HX.out
        have hln4 := HLN.out k
        have HLT := hid (lastTurned_any _ _ W4.drew (hsrc4.below (Below.refl _ W4).drew) (by omega))
        have S4' := hid (show W4.drew.cell? ⟨N, 0, none⟩ = some (.int .i64 x.id) ∧ W4.drew.cell? ⟨N, 1, none⟩ = some (.int .i64 x.st) ∧ W4.drew.cell? ⟨N, 2, none⟩ = some (.int .i64 x.en) ∧ W4.drew.cell? ⟨N, 3, none⟩ = some (.slice x.lo x.ll x.lc) from S4)
        have HK14 := hid hK14
        have HLD4 := hid hLd4
        clear hK14 hLd4 hsrc4 S4 u0 u1 u2 u3
        refine wpIn_region_front (S := fun w' => w'.cell? ⟨N, 0, none⟩ = some (.int .i64 x.id) ∧ w'.cell? ⟨N, 1, none⟩ = some (.int .i64 x.st) ∧ w'.cell? ⟨N, 2, none⟩ = some (.int .i64 x.en) ∧ w'.cell? ⟨N, 3, none⟩ = some (.slice x.lo x.ll x.lc)) 11 hmx (by kernel_rfl) (by kernel_rfl) S4'.out (fun hHeld => ?_)
        simp only [List.take, List.drop]
        refine wpAnyH_take (i := 0) (v := .func (.yield l) #[] #[]) rfl (by kernel_rfl) (by kernel_rfl) (by kernel_rfl) (fun _ _ _ h => h) (Or.inl ⟨by rfl, fun wx hS => by obtain ⟨q1, q2, q3, q4⟩ := hS; go_simp⟩) (by assumption) ?_
        simp only [List.getElem_toArray, List.getElem_cons_zero, Act.put, List.setIfInBounds_toArray, List.set_cons_zero, List.set_cons_succ]
        refine wpAnyH_take (i := 1) (v := .pointer (some ⟨N, 0, none⟩)) rfl (by kernel_rfl) (by kernel_rfl) (by kernel_rfl) (fun _ _ _ h => h) (Or.inl ⟨by rfl, fun wx hS => by obtain ⟨q1, q2, q3, q4⟩ := hS; go_simp⟩) (by assumption) ?_
        simp only [List.getElem_toArray, List.getElem_cons_succ, List.getElem_cons_zero, Act.put, List.setIfInBounds_toArray, List.set_cons_zero, List.set_cons_succ]
        refine wpAnyH_take (i := 2) (v := .int .i64 x.id) rfl (by kernel_rfl) (by kernel_rfl) (by kernel_rfl) (fun _ _ _ h => h) (Or.inl ⟨by rfl, fun wx hS => by obtain ⟨q1, q2, q3, q4⟩ := hS; go_simp⟩) (by assumption) ?_
        simp only [List.getElem_toArray, List.getElem_cons_succ, List.getElem_cons_zero, Act.put, List.setIfInBounds_toArray, List.set_cons_zero, List.set_cons_succ]
        refine wpAnyH_take (i := 3) (v := .int .i64 (-x.id)) rfl (by kernel_rfl) (by kernel_rfl) (by kernel_rfl) (fun _ _ _ h => h) (Or.inl ⟨by rfl, fun wx hS => by obtain ⟨q1, q2, q3, q4⟩ := hS; go_simp⟩) (by assumption) ?_
        simp only [List.getElem_toArray, List.getElem_cons_succ, List.getElem_cons_zero, Act.put, List.setIfInBounds_toArray, List.set_cons_zero, List.set_cons_succ]
        refine wpAnyH_take (i := 4) (v := .pointer (some ⟨N, 2, none⟩)) rfl (by kernel_rfl) (by kernel_rfl) (by kernel_rfl) (fun _ _ _ h => h) (Or.inl ⟨by rfl, fun wx hS => by obtain ⟨q1, q2, q3, q4⟩ := hS; go_simp⟩) (by assumption) ?_
        simp only [List.getElem_toArray, List.getElem_cons_succ, List.getElem_cons_zero, Act.put, List.setIfInBounds_toArray, List.set_cons_zero, List.set_cons_succ]
        refine wpAnyH_take (i := 5) (v := .int .i64 x.en) rfl (by kernel_rfl) (by kernel_rfl) (by kernel_rfl) (fun _ _ _ h => h) (Or.inl ⟨by rfl, fun wx hS => by obtain ⟨q1, q2, q3, q4⟩ := hS; go_simp⟩) (by assumption) ?_
        simp only [List.getElem_toArray, List.getElem_cons_succ, List.getElem_cons_zero, Act.put, List.setIfInBounds_toArray, List.set_cons_zero, List.set_cons_succ]
        refine wpAnyH_take (i := 6) (v := .pointer (some ⟨N, 3, none⟩)) rfl (by kernel_rfl) (by kernel_rfl) (by kernel_rfl) (fun _ _ _ h => h) (Or.inl ⟨by rfl, fun wx hS => by obtain ⟨q1, q2, q3, q4⟩ := hS; go_simp⟩) (by assumption) ?_
        simp only [List.getElem_toArray, List.getElem_cons_succ, List.getElem_cons_zero, Act.put, List.setIfInBounds_toArray, List.set_cons_zero, List.set_cons_succ]
        refine wpAnyH_take (i := 7) (v := .slice x.lo x.ll x.lc) rfl (by kernel_rfl) (by kernel_rfl) (by kernel_rfl) (fun _ _ _ h => h) (Or.inl ⟨by rfl, fun wx hS => by obtain ⟨q1, q2, q3, q4⟩ := hS; go_simp⟩) (by assumption) ?_
        simp only [List.getElem_toArray, List.getElem_cons_succ, List.getElem_cons_zero, Act.put, List.setIfInBounds_toArray, List.set_cons_zero, List.set_cons_succ]
        refine wpAnyH_ready (rs := [8]) (by kernel_rfl) (by simp) ?_
        refine AllReadyH.cons rfl (fun K hK => ?_) AllReadyH.nil
        go_simp
        refine HLT.out.mono ?_
        rintro e w5 ⟨⟨u, rfl, hu⟩, hb5⟩
        have hb45 : Below W4.heap.size W4 w5 := (Below.refl _ W4).drew.trans hb5
        have hK15 : Ke V1 w5 := HK14.out.trans (Ke.fresh hb45)
        have HH5 := hid (heading_any u _ w5 hu (by rw [List.length_reverse, List.length_drop]; omega))
        obtain ⟨ex, ey, hed⟩ : ∃ ex ey, hdD ((ls.getD k []).drop ((ls.getD k []).length - 2)).reverse = (ex, ey) := ⟨_, _, rfl⟩
        rw [hed] at HH5
        dsimp only at HH5
        refine hK.out _ _ (HCL.out w5 hK15) (fun hHeld5 => ?_)
        clear hK K
        refine wpAnyH_ready (rs := [9]) (by kernel_rfl) (by simp) ?_
        refine AllReadyH.cons rfl (fun K hK => ?_) AllReadyH.nil
        go_simp
        refine HH5.out.mono ?_
        rintro e w6 ⟨rfl, hb6⟩
        have hb46 : Below W4.heap.size W4 w6 := hb45.trans (hb6.mono hb45.size)
        have hK16 : Ke V1 w6 := HK14.out.trans (Ke.fresh hb46)
        have hJ6 : J (pre ++ [⟨2 * k, by omega⟩]) w6 := hAb _ _ _ none HJ3.out (grownOf (HB4.out.trans (hb46.mono HB4.out.size))) (fun r hr => by cases hr)
        have HY6 := hid (hY _ ⟨2 * k + 1, by omega⟩ w6 hJ6 (by rw [List.length_append, HPL.out]; simp; omega))
        obtain ⟨g1, g2, g3⟩ := ld_odd (ls := ls) HX.out
        dsimp only [ldV] at HY6
        rw [g1, g2, g3, hed] at HY6
        dsimp only at HY6
        have HLD6 := hid (HLD4.out.ke (Ke.fresh hb46))
        refine hK.out _ _ (HCL.out w6 hK16) (fun hHeld6 => ?_)
        clear hK K
        clear hJ6 hb45 hb46 hb5 hb6 hK15 hK16 hu g1 g2 g3 hed HH5
        refine wpAnyH_take (i := 10) (v := .agg #[.int .i64 (-x.id), .int .i64 x.en, .int .i64 ex, .int .i64 ey]) rfl (by kernel_rfl) (by kernel_rfl) (by kernel_rfl) (fun _ _ _ h => h) (Or.inl ⟨by rfl, fun wx hS => by obtain ⟨q1, q2, q3, q4⟩ := hS; go_simp⟩) (by assumption) ?_
        simp only [List.getElem_toArray, List.getElem_cons_succ, List.getElem_cons_zero, Act.put, List.setIfInBounds_toArray, List.set_cons_zero, List.set_cons_succ]
        refine wpAnyH_done (by kernel_rfl) ?_ _
        dsimp only [Np, Hd]
        obtain ⟨fn, tmps, assign, body, hy, hR⟩ := HY6.out
        have HR := hid hR
        clear hR HY6 hHeld5 hHeld6 hHeld
        gi_wp2
        refine HR.out.mono ?_
        rintro e W7 (⟨rfl, hJ7, hk7⟩ | ⟨rfl, hJx7⟩)
        · clear hy
          have HJ7 := hid hJ7
          have HLD7 := hid (HLD6.out.ke hk7)
          clear hJ7 hk7
          gi_wp2
          go_roundw
          case rel =>
            refine ⟨k + 1, _, by omega, by go_num, ?_, HJ7.out, HLD7.out⟩
            rw [List.map_append, List.map_append, HP.out, show 2 * (k + 1) = 2 * k + 1 + 1 by omega, List.range_succ, List.range_succ]
            rfl
          case measure => simp [intOf]; omega
        · clear hy
          gi_wp2
          refine bodyPost_ret (results_none rfl _ _ _) rfl ?_
          exact ⟨⟨_, rfl⟩, .inr ⟨_, trivial, hJx7⟩⟩
      · clear hy
        gi_wp2
        refine bodyPost_ret (results_none rfl _ _ _) rfl ?_
        exact ⟨⟨_, rfl⟩, .inr ⟨_, trivial, hJx3⟩⟩
    · obtain rfl : k = n := by omega
      have HF := hid hpre
      have HJ := hid hJs
      clear hpre hJs hLd
      gi_wp2
      go_end0
      exact ⟨⟨_, rfl⟩, .inl ⟨pre, HF.out, HJ.out⟩⟩
theorem leads_stops (m : Nat) (hm : 3 ≤ m) (Bx b n cap : Nat) (ao : Option Addr) (xs : List ER) (ls : List (List Pp)) (hl : n ≤ 1000) (hid' : ∀ x ∈ xs, 1 ≤ x.id ∧ x.id ≤ 1000000) (hln : ∀ k, (ls.getD k []).length ≤ 1000) (w : World) (hM : LdM w Bx b ao n cap xs ls) :
    SeqStopsK Fence.wide m Tryz.prog 144 #[.pointer (some ⟨Bx, 0, none⟩)] (fun x : Ln (2 * n) => ldV xs ls x.1) Ke (fun ys => ys.map (·.1) = List.range (2 * n)) (fun _ => True) (2 * n) w := fun l J Jx W hW hJ _ hY h0 =>
  leads_in m hm l Bx b n cap ao xs ls hl hid' hln J Jx W hJ hY (hM.ke (Ke.fresh hW)) h0
end Go.Proofs.YtkdnkmheidbfdaaGreat

namespace Go.Proofs.YtkdnkmheidbfdaaGreat
open Go.RowKit Go.Sort Go.Maps

/-- Each value reads as itself. -/
def RV (v : Value) : Option (DataW Value × List MemPlace) := some (.held v, [])
/-- Block B is a map of at most n entries; at each key what f tells, none where there is none. -/
def MapV (w : World) (B n : Nat) (f : Int → Option Value) : Prop :=
  ∃ D : DataW Value, w.ownsMap Tryz.prog 3 RV B n D ∧ Maps.IsMap D ∧ ∀ k, -9223372036854775808 ≤ k → k ≤ 9223372036854775807 → ∀ z, D.atKey (.int .i64 k) (.held z) = .held ((f k).getD z)
theorem intKeyed : Keyed Tryz.prog 3 := int_keyed Tryz.underlying3
theorem i64_wf {k : Int} (h0 : -9223372036854775808 ≤ k) (h1 : k ≤ 9223372036854775807) : (Lit.int .i64 k).wf = true := by
  have e1 : IntKind.i64.min = -9223372036854775808 := by decide
  have e2 : IntKind.i64.max = 9223372036854775807 := by decide
  simp [Lit.wf, e1, e2]
  omega
theorem MapV.made (w : World) : MapV (w.alloc (.map #[] 0)) w.heap.size 0 (fun _ => none) :=
  ⟨.map [], World.ownsMap_made w _ _ _, isMap_empty, fun k _ _ z => by rfl⟩
theorem MapV.kept {w w' : World} {B n : Nat} {f : Int → Option Value} {row : Option Nat} (h : MapV w B n f) (hg : w.grownBy w' row) (hne : some B ≠ row) : MapV w' B n f := by
  obtain ⟨D, h1, h2, h3⟩ := h
  exact ⟨D, h1.kept hg hne, h2, h3⟩
theorem MapV.look {w : World} {B n : Nat} {f : Int → Option Value} (h : MapV w B n f) {t e : TypeId} (ht : Tryz.prog.underlying t = some (.map 3 e)) {z : Value} (hz : (zeroValue e).run Tryz.prog w = .ok z w) {k : Int} (h0 : -9223372036854775808 ≤ k) (h1 : k ≤ 9223372036854775807) :
    (Instr.lookup t (.map (some B)) (.int .i64 k) false).run Tryz.prog w = .ok ((f k).getD z) w := by
  obtain ⟨D, h2, h3, h4⟩ := h
  obtain ⟨v, ps, hrun, hv⟩ := h2.lookup intKeyed ht hz (zd := .held z) (zp := []) rfl (keyOf_int_mk Tryz.underlying3 (i64_wf h0 h1))
  rw [h4 k h0 h1 z] at hv
  simp only [RV, Option.some.injEq, Prod.mk.injEq, DataW.held.injEq] at hv
  rw [hrun, hv.1]
theorem MapV.put {w : World} {B n : Nat} {f : Int → Option Value} (h : MapV w B n f) {t e : TypeId} (ht : Tryz.prog.underlying t = some (.map 3 e)) (hn : n < maxLen) {k : Int} (h0 : -9223372036854775808 ≤ k) (h1 : k ≤ 9223372036854775807) (v : Value) :
    ∃ w', (Instr.mapUpdate t (.map (some B)) (.int .i64 k) v).run Tryz.prog w = .ok () w' ∧ MapV w' B (n + 1) (fun j => if j = k then some v else f j) ∧ w.grownBy w' (some B) := by
  obtain ⟨D, h2, h3, h4⟩ := h
  obtain ⟨w', hrun, hown, hg⟩ := h2.update (key := .int .i64 k) (val := v) (d := .held v) (ps := []) intKeyed ht hn (keyOf_int_mk Tryz.underlying3 (i64_wf h0 h1)) rfl
  refine ⟨w', hrun, ⟨_, hown, h3.put _ _, fun j hj0 hj1 z => ?_⟩, hg⟩
  dsimp only
  by_cases hj : j = k
  · subst hj
    rw [if_pos rfl]
    exact atKey_put_same h3 (show WideAt.IsKeyLit (.int .i64 j) from trivial) _ _
  · rw [if_neg hj, atKey_put_other (fun e => hj (by injection e))]
    exact h4 j hj0 hj1 z
end Go.Proofs.YtkdnkmheidbfdaaGreat

namespace Go.Proofs.YtkdnkmheidbfdaaGreat
open Go.RowKit Go.Sort

/-- How a way begins: its number, its node, its direction. -/
abbrev LdT : Type := Int × Int × Pp
def lcs (l : LdT) : List Value := [.int .i64 l.1, .int .i64 l.2.1, .int .i64 l.2.2.1, .int .i64 l.2.2.2]
def lCells : List LdT → List Value
  | [] => []
  | l :: ls => lcs l ++ lCells ls
theorem lCells_app : ∀ a b : List LdT, lCells (a ++ b) = lCells a ++ lCells b
  | [], _ => rfl
  | l :: a, b => by rw [List.cons_append, lCells, lCells, lCells_app a b, List.append_assoc]
theorem lCells_len : ∀ ls : List LdT, (lCells ls).length = ls.length * 4
  | [] => rfl
  | l :: ls => by rw [lCells, List.length_append, lCells_len ls, List.length_cons, Nat.succ_mul]; simp [lcs]; omega
theorem lCells_at : ∀ (ls : List LdT) (k r : Nat) (l : LdT), r < 4 → ls[k]? = some l → (lCells ls)[k * 4 + r]? = (lcs l)[r]?
  | [], k, r, l, _, h => by simp at h
  | y :: ls, 0, r, l, hr, h => by
    simp at h
    subst h
    rw [lCells, List.getElem?_append_left (by simp [lcs]; omega), Nat.zero_mul, Nat.zero_add]
  | y :: ls, k + 1, r, l, hr, h => by
    rw [List.getElem?_cons_succ] at h
    rw [lCells, List.getElem?_append_right (by simp [lcs]; omega), show (k + 1) * 4 + r - (lcs y).length = k * 4 + r by simp [lcs]; omega]
    exact lCells_at ls k r l hr h
def LRow (W : World) (base : Nat) (v : Value) (ls : List LdT) : Prop := W.ownsRow base 157 4 v ls.length (lCells ls)
theorem LRow.below {w w' : World} {base : Nat} {v : Value} {ls : List LdT} (h : LRow w base v ls) (hb : Below w.heap.size w w') : LRow w' base v ls := by
  refine ⟨h.1, ?_⟩
  rcases h.2 with h0 | ⟨g, cap, cur, h1, h2, h3, h4⟩
  · exact .inl h0
  · exact .inr ⟨g, cap, cur, h1, h2, (hb.block g (lt_of_heap h3)).trans h3, h4⟩
theorem LRow.form {w : World} {base : Nat} {v : Value} {ls : List LdT} (h : LRow w base v ls) : ∃ ao cap, v = .slice ao ls.length cap := by
  rcases h.2 with ⟨rfl, h0⟩ | ⟨g, cap, cur, rfl, _⟩
  · exact ⟨none, 0, by rw [h0]⟩
  · exact ⟨_, cap, rfl⟩
theorem LRow.nil (w : World) (base : Nat) : LRow w base (.slice none 0 0) [] := World.ownsRow_nil w base _ 4
theorem LRow.lt {w : World} {base : Nat} {v : Value} {ls : List LdT} (h : LRow w base v ls) {k : Nat} (hk : v.ownBlock = some k) : k < w.heap.size ∧ base ≤ k := by
  rcases h.2 with ⟨rfl, h0⟩ | ⟨g, cap, cur, rfl, h1, h2, _⟩
  · cases hk
  · cases hk
    exact ⟨lt_of_heap h2, h1⟩
theorem LRow.keep {w w' : World} {base : Nat} {v u u' : Value} {ls : List LdT} (h : LRow w base v ls) (hg : GrewBy w w' u u') (ha : Apart u v) : LRow w' base v ls ∧ Apart u' v := by
  refine ⟨⟨h.1, ?_⟩, fun k hk hv => ?_⟩
  · rcases h.2 with h0 | ⟨g, cap, cur, rfl, h2, h3, h4⟩
    · exact .inl h0
    · exact .inr ⟨g, cap, cur, rfl, h2, (hg.keep g (lt_of_heap h3) fun e => ha g e rfl).trans h3, h4⟩
  · rcases hg.own k hk with e | e
    · exact ha k e hv
    · have := (h.lt hv).1
      omega
theorem infoLd : (Tryz.prog.info? 157).map (fun i => (i.zero, i.size, i.bytes)) = some (some (.agg #[.int .i64 0, .int .i64 0, .int .i64 0, .int .i64 0]), 4, 32) := by kernel_rfl
theorem LRow.snoc {w : World} {base : Nat} {v : Value} {ls : List LdT} (h : LRow w base v ls) (hb : base ≤ w.heap.size) (hl : ls.length ≤ 1000000) (p : LdT) :
    ∃ ao cap w', (Builtin.append_ #[141, 141] 141 #[v, .slice (some ⟨w.heap.size, 0, none⟩) 1 1]).run Tryz.prog (w.alloc (.cells #[.int .i64 p.1, .int .i64 p.2.1, .int .i64 p.2.2.1, .int .i64 p.2.2.2] 157)) = .ok (.slice ao (ls.length + 1) cap) w' ∧
      LRow w' base (.slice ao (ls.length + 1) cap) (ls ++ [p]) ∧ Below base w w' ∧ GrewBy w w' v (.slice ao (ls.length + 1) cap) := by
  obtain ⟨i0, hi, hz0, hz1, hz2⟩ := info_parts infoLd
  obtain ⟨wA, hwA⟩ : ∃ wA, wA = w.alloc (.cells #[.int .i64 p.1, .int .i64 p.2.1, .int .i64 p.2.2.1, .int .i64 p.2.2.2] 157) := ⟨_, rfl⟩
  have hbA : Below w.heap.size w wA := by rw [hwA]; exact (Below.refl _ _).alloc (Nat.le_refl _) _
  have hP : wA.heap[w.heap.size]? = some (.cells #[.int .i64 p.1, .int .i64 p.2.1, .int .i64 p.2.2.1, .int .i64 p.2.2.2] 157) := by rw [hwA]; unfold World.alloc; simp
  have h2 := h.below hbA
  obtain ⟨v', w', hrun, r1, r2, _, r4⟩ := run_append_own_at (P := Tryz.prog) wA base 141 141 157 i0 _ 4 32 Tryz.underlying141 hi hz0 hz1 hz2 rfl (by decide) v ls.length _ h2 ⟨w.heap.size, 0, none⟩ 1 1 (lcs p) rfl
    (fun j u hj => by
      match j, hj with
      | 0, hj => simp [lcs] at hj; subst hj; rw [addr_add]; simp [World.cell?, hP]
      | 1, hj => simp [lcs] at hj; subst hj; rw [addr_add]; simp [World.cell?, hP]
      | 2, hj => simp [lcs] at hj; subst hj; rw [addr_add]; simp [World.cell?, hP]
      | 3, hj => simp [lcs] at hj; subst hj; rw [addr_add]; simp [World.cell?, hP]
      | j + 4, hj => simp [lcs] at hj) (by intro u hu'; simp [lcs] at hu'; rcases hu' with rfl | rfl | rfl | rfl <;> rfl) (by unfold maxLen; omega) (by omega) (by rw [hwA]; simp; omega)
  obtain ⟨ao, cap, rfl⟩ : ∃ ao cap, v' = .slice ao (ls.length + 1) cap := by
    rcases r1.2 with ⟨rfl, h0⟩ | ⟨g, cap, cur, rfl, _, _, hc, _⟩
    · omega
    · exact ⟨_, cap, rfl⟩
  rw [← hwA]
  refine ⟨ao, cap, w', hrun, ?_, ?_, ?_⟩
  · unfold LRow
    rw [lCells_app, List.length_append]
    show w'.ownsRow base _ 4 _ (ls.length + 1) (lCells ls ++ (lcs p ++ []))
    rw [List.append_nil]
    exact r1
  · refine (hbA.mono hb).grown r2 (Nat.le_trans hb hbA.size) (fun k e => ?_)
    rcases h.2 with ⟨rfl, _⟩ | ⟨g, cap', cur, rfl, hg, _⟩
    · cases e
    · cases e
      exact hg
  · refine ⟨fun b hb' hne => (r2.block b (Nat.lt_of_lt_of_le hb' hbA.size) (fun e => hne e.symm)).trans (hbA.block b hb'), fun k hk => ?_⟩
    rcases r4 with r4 | r4
    · exact .inl (r4.symm.trans hk)
    · rw [r4] at hk
      injection hk with hk
      exact .inr (by rw [← hk]; exact hbA.size)
end Go.Proofs.YtkdnkmheidbfdaaGreat

namespace Go.Proofs.YtkdnkmheidbfdaaGreat
open Go.RowKit Go.Shelf Go.Sort

/-- The leads that begin at a node, in their order. -/
def grp (ys : List LdT) (k : Int) : List LdT := ys.filter fun l => l.2.1 == k
theorem grp_snoc_same (ys : List LdT) (p : LdT) : grp (ys ++ [p]) p.2.1 = grp ys p.2.1 ++ [p] := by simp [grp, List.filter_append]
theorem grp_snoc_other (ys : List LdT) (p : LdT) {k : Int} (h : k ≠ p.2.1) : grp (ys ++ [p]) k = grp ys k := by
  have : (p.2.1 == k) = false := by simp; exact fun e => h e.symm
  simp [grp, List.filter_append, this]
theorem grp_len (ys : List LdT) (k : Int) : (grp ys k).length ≤ ys.length := List.length_filter_le _ _
abbrev nilL : Value := .slice none 0 0

/-- Between two rounds: the box of the map, the map, each node's row. -/
structure GrI (w : World) (base B Bm : Nat) (ys : List LdT) (W : World) : Prop where
  box : W.heap[Bm]? = some (.cells #[.map (some B)] 142 (0, 0))
  map : ∃ f, MapV W B ys.length f ∧ (∀ k, LRow W base ((f k).getD nilL) (grp ys k)) ∧ (∀ j k, j ≠ k → Apart ((f j).getD nilL) ((f k).getD nilL)) ∧ (∀ k, f k = none ↔ grp ys k = [])
  below : Below w.heap.size w W
theorem LRow.turn {w w' : World} {base : Nat} {v : Value} {ls : List LdT} {row : Option Nat} (h : LRow w base v ls) (hg : w.grownBy w' row) (hr : ∀ r, row = some r → ∃ o : Obj, w.heap[r]? = some o ∧ o.isCells = false) : LRow w' base v ls := by
  refine ⟨h.1, ?_⟩
  rcases h.2 with h0 | ⟨g, cap, cur, h1, h2, h3, h4⟩
  · exact .inl h0
  · refine .inr ⟨g, cap, cur, h1, h2, (hg.block g (lt_of_heap h3) (fun e => ?_)).trans h3, h4⟩
    obtain ⟨o, ho, hc⟩ := hr g e.symm
    rw [h3] at ho
    injection ho with ho
    subst ho
    cases hc
theorem GrI.turn {w W W' : World} {base B Bm : Nat} {ys : List LdT} {row : Option Nat} (h : GrI w base B Bm ys W) (hg : W.grownBy W' row) (hB : some B ≠ row) (hr : ∀ r, row = some r → w.heap.size ≤ r ∧ ∃ o : Obj, W.heap[r]? = some o ∧ o.isCells = false) : GrI w base B Bm ys W' := by
  obtain ⟨f, h1, h2, h3, h4⟩ := h.map
  refine ⟨(hg.block _ (lt_of_heap h.box) (fun e => ?_)).trans h.box, ⟨f, h1.kept hg hB, fun k => (h2 k).turn hg (fun r e => (hr r e).2), h3, h4⟩, h.below.grown hg h.below.size (fun k e => (hr k e).1)⟩
  obtain ⟨o, ho, hc⟩ := (hr _ e.symm).2
  rw [h.box] at ho
  injection ho with ho
  subst ho
  cases hc
theorem zeroL (w : World) : (zeroValue 141).run Tryz.prog w = .ok nilL w := by kernel_rfl

/-- What a round does to the map: the look-up, the append, the store. -/
theorem GrI.step {w W : World} {base B Bm : Nat} {ys : List LdT} (h : GrI w base B Bm ys W) (hbw : base ≤ W.heap.size) (hwB : w.heap.size ≤ base) (hB : w.heap.size ≤ B) (hl : ys.length ≤ 100000) (p : LdT) (hk0 : -9223372036854775808 ≤ p.2.1) (hk1 : p.2.1 ≤ 9223372036854775807) :
    ∃ v ao cap W2 W3, (∀ Z, W.grownBy Z none → (Instr.lookup 142 (.map (some B)) (.int .i64 p.2.1) false).run Tryz.prog Z = .ok v Z) ∧
      (Builtin.append_ #[141, 141] 141 #[v, .slice (some ⟨W.heap.size, 0, none⟩) 1 1]).run Tryz.prog (W.alloc (.cells #[.int .i64 p.1, .int .i64 p.2.1, .int .i64 p.2.2.1, .int .i64 p.2.2.2] 157)) = .ok (.slice ao ((grp ys p.2.1).length + 1) cap) W2 ∧
      (Instr.mapUpdate 142 (.map (some B)) (.int .i64 p.2.1) (.slice ao ((grp ys p.2.1).length + 1) cap)).run Tryz.prog W2 = .ok () W3 ∧
      GrI w base B Bm (ys ++ [p]) W3 ∧ Ke W W3 ∧ W.heap.size ≤ W2.heap.size ∧ (∀ (k : Nat) (o : Obj), k ≠ B → W.heap[k]? = some o → o.isCells = false → W3.heap[k]? = some o) ∧ (∀ k, k < W.heap.size → v.ownBlock ≠ some k → W2.heap[k]? = W.heap[k]?) ∧ W2.heap[Bm]? = W.heap[Bm]? ∧ (∀ (k : Nat) (c : Array Value) (t : TypeId) (q : Nat × Nat), W2.heap[k]? = some (.cells c t q) → W3.heap[k]? = some (.cells c t q)) ∧ (Instr.lookup 142 (.map (some B)) (.int .i64 p.2.1) false).run Tryz.prog W2 = .ok v W2 := by
  obtain ⟨f, h1, h2, h3, h4⟩ := h.map
  have hv := h2 p.2.1
  obtain ⟨ao, cap, W2, hrun, hrow, hbl, hgr⟩ := hv.snoc hbw (by have := grp_len ys p.2.1; omega) p
  have hlt := lt_of_heap h.box
  -- the append leaves the map and the other rows
  have hBlt : B < W.heap.size := by obtain ⟨D, hD, _⟩ := h1; exact hD.lt
  have hBne : ∀ k, some B ≠ ((f k).getD nilL).ownBlock := fun k e => by
    obtain ⟨D, ⟨es, ck, hm, _⟩, _⟩ := h1
    rcases (h2 k).2 with ⟨e1, _⟩ | ⟨g, c, cur, e1, _, hg2, _⟩
    · rw [e1] at e; cases e
    · rw [e1] at e
      simp only [Value.ownBlock, Option.some.injEq] at e
      subst e
      rw [hm] at hg2
      cases hg2
  have hM2 : MapV W2 B ys.length f := by
    obtain ⟨D, ⟨es, ck, hm, hrest⟩, hD2⟩ := h1
    exact ⟨D, ⟨es, ck, (hgr.keep B hBlt (fun e => hBne p.2.1 e.symm)).trans hm, hrest⟩, hD2⟩
  obtain ⟨W3, hput, hM3, hg3⟩ := hM2.put (t := 142) (e := 141) Tryz.underlying142 (by unfold maxLen; omega) hk0 hk1 (.slice ao ((grp ys p.2.1).length + 1) cap)
  have hisM : ∀ r, some B = some r → ∃ o : Obj, W2.heap[r]? = some o ∧ o.isCells = false := fun r e => by
    injection e with e
    subst e
    obtain ⟨D, ⟨es, ck, hm, _⟩, _⟩ := hM2
    exact ⟨_, hm, rfl⟩
  have hother : ∀ k, k ≠ p.2.1 → LRow W2 base ((f k).getD nilL) (grp ys k) ∧ Apart (.slice ao ((grp ys p.2.1).length + 1) cap) ((f k).getD nilL) := fun k hk => (h2 k).keep hgr (h3 _ _ (fun e => hk e.symm))
  have hboxk : W2.heap[Bm]? = W.heap[Bm]? := hgr.keep Bm hlt (fun e => by
    rcases (h2 p.2.1).2 with ⟨e1, _⟩ | ⟨g, c, cur, e1, _, hg2, _⟩
    · rw [e1] at e; cases e
    · rw [e1] at e
      simp only [Value.ownBlock, Option.some.injEq] at e
      subst e
      rw [h.box] at hg2
      injection hg2 with e2
      injection e2 with _ e3 _
      cases e3)
  have hb3 : Below w.heap.size w W3 := (h.below.trans (hbl.mono hwB)).grown hg3 (Nat.le_trans h.below.size hbl.size) (fun k e => by injection e with e; omega)
  refine ⟨(f p.2.1).getD nilL, ao, cap, W2, W3, fun Z hZ => (h1.kept hZ (by simp)).look Tryz.underlying142 (zeroL Z) hk0 hk1, hrun, hput, ⟨?_, ⟨_, by rw [List.length_append]; exact hM3, fun k => ?_, fun j k hjk => ?_, fun k => ?_⟩, hb3⟩, ⟨Nat.le_trans hbl.size hg3.size, fun k c t g hk ht => ?_⟩, hbl.size, fun k o hkB hko ho => ?_, fun k hk hne => hgr.keep k hk hne, hboxk, fun k c t q hk => ?_, hM2.look Tryz.underlying142 (zeroL W2) hk0 hk1⟩
  · refine (hg3.block Bm (by have := hbl.size; omega) (fun e => ?_)).trans (hboxk.trans h.box)
    obtain ⟨o, ho, hc⟩ := hisM Bm e.symm
    rw [hboxk, h.box] at ho
    injection ho with ho
    subst ho
    cases hc
  · by_cases hk : k = p.2.1
    · subst hk
      rw [if_pos rfl, grp_snoc_same]
      exact hrow.turn hg3 hisM
    · rw [if_neg hk, grp_snoc_other ys p hk]
      exact (hother k hk).1.turn hg3 hisM
  · by_cases hj : j = p.2.1
    · by_cases hk : k = p.2.1
      · exact absurd (hj.trans hk.symm) hjk
      · rw [if_pos hj, if_neg hk]
        exact (hother k hk).2
    · by_cases hk : k = p.2.1
      · rw [if_neg hj, if_pos hk]
        exact (hother j hj).2.symm
      · rw [if_neg hj, if_neg hk]
        exact h3 j k hjk
  · by_cases hk : k = p.2.1
    · subst hk
      rw [if_pos rfl, grp_snoc_same]
      simp
    · rw [if_neg hk, grp_snoc_other ys p hk]
      exact h4 k
  · have e2 : W2.heap[k]? = W.heap[k]? := hgr.keep k (lt_of_heap hk) (fun e => by
      rcases (h2 p.2.1).2 with ⟨e1, _⟩ | ⟨g', c', cur, e1, _, hg2, _⟩
      · rw [e1] at e; cases e
      · rw [e1] at e
        simp only [Value.ownBlock, Option.some.injEq] at e
        subst e
        rw [hk] at hg2
        injection hg2 with e2
        injection e2 with _ e3 _
        rcases ht with rfl | rfl | rfl <;> cases e3)
    refine (hg3.block k (by have := lt_of_heap hk; have := hbl.size; omega) (fun e => ?_)).trans e2
    obtain ⟨o, ho, hc⟩ := hisM k e.symm
    rw [e2, hk] at ho
    injection ho with ho
    subst ho
    cases hc
  · have e2 : W2.heap[k]? = W.heap[k]? := hgr.keep k (lt_of_heap hko) (fun e => by
      rcases (h2 p.2.1).2 with ⟨e1, _⟩ | ⟨g', c', cur, e1, _, hg2, _⟩
      · rw [e1] at e; cases e
      · rw [e1] at e
        simp only [Value.ownBlock, Option.some.injEq] at e
        subst e
        rw [hko] at hg2
        injection hg2 with e2
        subst e2
        cases ho)
    exact (hg3.block k (by have := lt_of_heap hko; have := hbl.size; omega) (fun e => hkB (by injection e))).trans (e2.trans hko)
  · refine (hg3.block k (lt_of_heap hk) (fun e => ?_)).trans hk
    obtain ⟨o, ho, hc⟩ := hisM k e.symm
    rw [hk] at ho
    injection ho with ho
    subst ho
    cases hc
end Go.Proofs.YtkdnkmheidbfdaaGreat
