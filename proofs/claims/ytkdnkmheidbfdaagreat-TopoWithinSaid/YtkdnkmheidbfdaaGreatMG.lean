/-
  Layer 14: leads compared by their ways.
-/
import Derived.Test.YtkdnkmheidbfdaaGreatMF
import Derived.Test.YtkdnkmheidbfdaaGreatMA
namespace Go.Proofs.YtkdnkmheidbfdaaGreat
open Go.RowKit Go.Shelf Go.Sort

/-- A lead as a value. -/
abbrev ltV (l : LdT) : Value := .agg #[.int .i64 l.1, .int .i64 l.2.1, .int .i64 l.2.2.1, .int .i64 l.2.2.2]

set_option maxRecDepth 100000 in
set_option maxHeartbeats 1600000 in
theorem round1_any (x y : LdT) (w : World) :
    Calls Tryz.prog 169 #[ltV x, ltV y] w fun e w' => e = .returned (.int .i64 (sgn (x.1 - y.1))) ∧ Below w.heap.size w w' := by
  obtain ⟨wA, hwA⟩ : ∃ wA, w.alloc (.cells #[.int .i64 x.1, .int .i64 x.2.1, .int .i64 x.2.2.1, .int .i64 x.2.2.2] 157) = wA := ⟨_, rfl⟩
  obtain ⟨wB, hwB⟩ : ∃ wB, wA.alloc (.cells #[.int .i64 y.1, .int .i64 y.2.1, .int .i64 y.2.2.1, .int .i64 y.2.2.2] 157) = wB := ⟨_, rfl⟩
  have hbA : Below w.heap.size w wA := by rw [← hwA]; exact (Below.refl _ w).alloc (Nat.le_refl _) _
  have hsA : wA.heap.size = w.heap.size + 1 := by rw [← hwA]; simp
  have hbB : Below wA.heap.size wA wB := by rw [← hwB]; exact (Below.refl _ wA).alloc (Nat.le_refl _) _
  have hhA : wA.heap[w.heap.size]? = some (.cells #[.int .i64 x.1, .int .i64 x.2.1, .int .i64 x.2.2.1, .int .i64 x.2.2.2] 157) := by rw [← hwA]; unfold World.alloc; simp
  have hhB : wB.heap[w.heap.size + 1]? = some (.cells #[.int .i64 y.1, .int .i64 y.2.1, .int .i64 y.2.2.1, .int .i64 y.2.2.2] 157) := by rw [← hwB, ← hsA]; unfold World.alloc; simp
  have a0 : wB.cell? ⟨w.heap.size, 0, none⟩ = some (.int .i64 x.1) := by simp [World.cell?, (hbB.block w.heap.size (by omega)).trans hhA]
  have b0 : wB.cell? ⟨w.heap.size + 1, 0, none⟩ = some (.int .i64 y.1) := by simp [World.cell?, hhB]
  have HC := hid (compareI_any x.1 y.1 wB)
  have HB := hid (hbA.trans (hbB.mono (by omega)))
  clear hbA hbB hhA hhB
  go_enter Tryz.func169, Tryz.ntmps169
  go_wp2_with (first
    | (go_at_call 102; refine HC.out.mono ?_; rintro e w1 ⟨rfl, hb1⟩; replace HB := hid (HB.out.trans (hb1.mono HB.out.size)); clear HC hb1))
  go_ret
  exact ⟨rfl, HB.out⟩
end Go.Proofs.YtkdnkmheidbfdaaGreat

namespace Go.Proofs.YtkdnkmheidbfdaaGreat
open Go.RowKit Go.Shelf Go.Sort

set_option maxRecDepth 100000 in
set_option maxHeartbeats 1600000 in
theorem values_any (ao : Option Addr) (n cap : Nat) (w : World) :
    Calls Tryz.prog 168 #[.slice ao n cap] w fun e w' => e = .returned (.func (.func 186) #[] #[.pointer (some ⟨w.heap.size, 0, none⟩)]) ∧ w'.heap[w.heap.size]? = some (.cells #[.slice ao n cap] 141) ∧ w'.heap.size = w.heap.size + 1 ∧ Below w.heap.size w w' := by
  obtain ⟨wA, hwA⟩ : ∃ wA, w.alloc (.cells #[.slice ao n cap] 141) = wA := ⟨_, rfl⟩
  have hbA : Below w.heap.size w wA := by rw [← hwA]; exact (Below.refl _ w).alloc (Nat.le_refl _) _
  have hsA : wA.heap.size = w.heap.size + 1 := by rw [← hwA]; simp
  have hhA : wA.heap[w.heap.size]? = some (.cells #[.slice ao n cap] 141) := by rw [← hwA]; unfold World.alloc; simp
  have HA := hid (And.intro hhA (And.intro hsA hbA))
  clear hbA hhA hsA
  go_enter Tryz.func168, Tryz.ntmps168
  go_wp2
  go_ret
  exact ⟨rfl, HA.out⟩
end Go.Proofs.YtkdnkmheidbfdaaGreat

namespace Go.Proofs.YtkdnkmheidbfdaaGreat
open Go.RowKit Go.Shelf Go.Sort

attribute [local go_sem] Oper.semAt_some

/-- A row of leads in memory. -/
def LAts (w : World) (b : Nat) (ys : List LdT) : Prop := ∀ (k : Nat) (l : LdT), ys[k]? = some l → w.cell? ⟨b, k * 4, none⟩ = some (.int .i64 l.1) ∧ w.cell? ⟨b, k * 4 + 1, none⟩ = some (.int .i64 l.2.1) ∧ w.cell? ⟨b, k * 4 + 2, none⟩ = some (.int .i64 l.2.2.1) ∧ w.cell? ⟨b, k * 4 + 3, none⟩ = some (.int .i64 l.2.2.2)
theorem LAts.below {w w' : World} {b B : Nat} {ys : List LdT} (h : LAts w b ys) (hb : Below B w w') (hB : b < B) : LAts w' b ys := fun k l hl => by
  obtain ⟨a0, a1, a2, a3⟩ := h k l hl
  exact ⟨cell_below a0 hb hB, cell_below a1 hb hB, cell_below a2 hb hB, cell_below a3 hb hB⟩
/-- The lead at a place. -/
def ldAt (ys : List LdT) (k : Nat) : LdT := ys.getD k (0, 0, 0, 0)

set_option maxRecDepth 100000 in
set_option maxHeartbeats 3200000 in
theorem values_in (m : Nat) (hm : 2 ≤ m) (l Bx B b n cap : Nat) (ao : Option Addr) (ys : List LdT) (hn : ys.length = n) (hl : n ≤ 1000) (hao : 1 ≤ n → ao = some ⟨b, 0, none⟩) (hbB : b < B) (J Jx : List (Ln n) → World → Prop) (W : World) (hBW : B ≤ W.heap.size) (hAb : AbidesFrom W.heap.size J)
    (hY : ∀ pre x W1, J pre W1 → pre.length < n → YieldAt Fence.wide (m - 1) Tryz.prog l #[ltV (ldAt ys x.1)] W1 fun e W' =>
      (e = .returned (.bool true) ∧ J (pre ++ [x]) W' ∧ Below B W1 W') ∨ (e = .returned (.bool false) ∧ Jx (pre ++ [x]) W'))
    (hx : W.cell? ⟨Bx, 0, none⟩ = some (.slice ao n cap)) (hc : LAts W b ys) (h0 : J [] W) :
    CallsIn Fence.wide m Tryz.prog 186 #[.func (.yield l) #[] #[], .pointer (some ⟨Bx, 0, none⟩)] W fun e W' => (∃ v, e = .returned v) ∧
      ((∃ zs, zs.map (·.1) = List.range n ∧ J zs W') ∨ (∃ pre, True ∧ Jx pre W')) := by
  have hfn : ∀ k, Fence.wide.fn k := fun _ => trivial
  have HC := hid hc
  have HN := hid hn
  have HAO := hid hao
  clear hc hn hao
  refine callsIn_of_wp Tryz.func186 rfl trivial ?_ rfl
  simp only [Tryz.ntmps186, List.size_toArray, List.length_cons, List.length_nil, Nat.reduceAdd, Nat.reduceSub, Array.replicate_succ, Array.replicate_zero, List.push_toArray, List.append_toArray, List.nil_append, List.cons_append]
  gi_wp2
  gi_loopw [4, 7] (fun _ i wr => ∃ (k : Nat) (pre : List (Ln n)), k ≤ n ∧ i = .int .i64 k ∧ pre.map (·.1) = List.range k ∧ J pre wr ∧ Below B W wr) (fun _ i _ => n - (intOf i).toNat)
  case atStart => exact ⟨0, [], Nat.zero_le _, rfl, rfl, h0, Below.refl _ _⟩
  case round =>
    obtain ⟨k, pre, hk, rfl, hpre, hJs, hbr⟩ := hrel
    by_cases hlt : k < n
    · have hprel : pre.length = k := by
        have := congrArg List.length hpre
        rwa [List.length_map, List.length_range] at this
      have hltI : (k : Int) < (n : Int) := by omega
      obtain rfl := HAO.out (by omega)
      obtain ⟨x, hxk⟩ : ∃ x, ys[k]? = some x := ⟨ys[k]'(by have := HN.out; omega), by rw [List.getElem?_eq_getElem]⟩
      obtain ⟨a0, a1, a2, a3⟩ := (HC.out.below hbr hbB) k x hxk
      obtain ⟨V1, hV1⟩ : ∃ V1, wr.alloc (.cells #[.int .i64 x.1, .int .i64 x.2.1, .int .i64 x.2.2.1, .int .i64 x.2.2.2] 157) = V1 := ⟨_, rfl⟩
      have hb1 : Below wr.heap.size wr V1 := by rw [← hV1]; exact (Below.refl _ wr).alloc (Nat.le_refl _) _
      have hh1 : V1.heap[wr.heap.size]? = some (.cells #[.int .i64 x.1, .int .i64 x.2.1, .int .i64 x.2.2.1, .int .i64 x.2.2.2] 157) := by rw [← hV1]; unfold World.alloc; simp
      have e0 : V1.cell? ⟨wr.heap.size, 0, none⟩ = some (.int .i64 x.1) := by simp [World.cell?, hh1]
      have e1 : V1.cell? ⟨wr.heap.size, 1, none⟩ = some (.int .i64 x.2.1) := by simp [World.cell?, hh1]
      have e2 : V1.cell? ⟨wr.heap.size, 2, none⟩ = some (.int .i64 x.2.2.1) := by simp [World.cell?, hh1]
      have e3 : V1.cell? ⟨wr.heap.size, 3, none⟩ = some (.int .i64 x.2.2.2) := by simp [World.cell?, hh1]
      have hJ1 : J pre V1 := hAb _ _ _ none hJs (grownOf hb1) (fun r hr => by cases hr)
      have hat : ldAt ys k = x := by simp [ldAt, List.getD_eq_getElem?_getD, hxk]
      have hY1 := hY pre ⟨k, hlt⟩ _ hJ1 (by omega)
      dsimp only at hY1
      rw [hat] at hY1
      obtain ⟨fn, tmps, assign, body, hy, hR⟩ := hY1
      have HP := hid hpre
      have HR := hid hR
      have HBR := hid (hbr.trans (hb1.mono (Nat.le_trans hBW hbr.size)))
      clear hpre hprel hR hb1 hh1 hJ1 hJs hbr hat hxk
      gi_wp2
      refine ⟨fun _ => by omega, HR.out.mono ?_⟩
      rintro e W3 (⟨rfl, hJ3, hb3⟩ | ⟨rfl, hJx3⟩)
      · clear hy
        gi_wp2
        go_roundw
        case rel =>
          refine ⟨k + 1, _, by omega, by go_num, ?_, hJ3, HBR.out.trans hb3⟩
          rw [List.map_append, HP.out, List.range_succ]
          rfl
        case measure => simp [intOf]; omega
      · clear hy
        gi_wp2
        refine bodyPost_ret (results_none rfl _ _ _) rfl ?_
        exact ⟨⟨_, rfl⟩, .inr ⟨_, trivial, hJx3⟩⟩
    · obtain rfl : k = n := by omega
      have HF := hid hpre
      clear hpre
      gi_wp2
      go_end0
      exact ⟨⟨_, rfl⟩, .inl ⟨pre, HF.out, hJs⟩⟩
theorem values_stops (m : Nat) (hm : 2 ≤ m) (Bx B b n cap : Nat) (ao : Option Addr) (ys : List LdT) (hn : ys.length = n) (hl : n ≤ 1000) (hao : 1 ≤ n → ao = some ⟨b, 0, none⟩) (hbB : b < B) (w : World) (hBW : B ≤ w.heap.size) (hx : w.cell? ⟨Bx, 0, none⟩ = some (.slice ao n cap)) (hc : LAts w b ys) :
    SeqStopsK Fence.wide m Tryz.prog 186 #[.pointer (some ⟨Bx, 0, none⟩)] (fun x : Ln n => #[ltV (ldAt ys x.1)]) (Below B) (fun zs => zs.map (·.1) = List.range n) (fun _ => True) n w := fun l J Jx W hW hJ _ hY h0 =>
  values_in m hm l Bx B b n cap ao ys hn hl hao hbB J Jx W (Nat.le_trans hBW hW.size) hJ hY (cell_below hx hW (lt_of_cell hx)) (hc.below hW (Nat.lt_of_lt_of_le hbB hBW)) h0
end Go.Proofs.YtkdnkmheidbfdaaGreat

namespace Go.Proofs.YtkdnkmheidbfdaaGreat
open Go.RowKit Go.Sort

theorem getD_of {l : List Pp} {k : Nat} (h : k < l.length) : l.getD k (0, 0) = l[k] := by
  rw [List.getD_eq_getElem?_getD, List.getElem?_eq_getElem h]
  rfl
theorem stepF_in (l : List Pp) (i : Nat) (d : Pp) (way : Int) (best k : Nat) : stepF l i d way best k = best ∨ stepF l i d way best k = k := by
  unfold stepF
  split
  · exact .inl rfl
  · split
    · exact .inr rfl
    · exact .inl rfl
theorem range_foldl {α : Type} (f : α → Nat → α) (a : α) (k : Nat) : (List.range (k + 1)).foldl f a = f ((List.range k).foldl f a) k := by
  rw [List.range_succ, List.foldl_append, List.foldl_cons, List.foldl_nil]






























































































































































































































































































































































































































































































































































































































































































































































end Go.Proofs.YtkdnkmheidbfdaaGreat

namespace Go.Proofs.YtkdnkmheidbfdaaGreat
open Go.RowKit Go.Sort

def natsI (l : List Nat) : List Int := List.map (fun x : Nat => (x : Int)) l
theorem natsI_length (l : List Nat) : (natsI l).length = l.length := by unfold natsI; simp
theorem natsI_at {l : List Nat} {k x : Nat} (h : l[k]? = some x) : (natsI l)[k]? = some (x : Int) := by
  unfold natsI
  rw [List.getElem?_map, h]
  rfl
def sortN (l : List Pp) (k : Nat) : List Nat := (List.range k).foldl (insD l) []
theorem sortN_succ (l : List Pp) (k : Nat) : sortN l (k + 1) = insD l (sortN l k) k := range_foldl _ _ _
theorem sortN_len (l : List Pp) (k : Nat) : (sortN l k).length = k := sortN_length l k
theorem sortN_lt (l : List Pp) : ∀ (k : Nat), ∀ x ∈ sortN l k, x < k
  | 0, x, h => by simp [sortN] at h
  | k + 1, x, h => by
    rw [sortN_succ] at h
    unfold insD at h
    rw [List.mem_append, List.mem_cons] at h
    rcases h with h | h | h
    · exact Nat.lt_succ_of_lt (sortN_lt l k x (List.mem_of_mem_take h))
    · omega
    · exact Nat.lt_succ_of_lt (sortN_lt l k x (List.mem_of_mem_drop h))
/-- The row with a gap at j, which holds anything. -/
def gapD (out : List Nat) (j x : Nat) : List Nat := out.take j ++ x :: out.drop j
theorem gapD_len (out : List Nat) {j : Nat} (x : Nat) (h : j ≤ out.length) : (gapD out j x).length = out.length + 1 := by
  unfold gapD
  simp
  omega
theorem gapD_end (out : List Nat) (x : Nat) : gapD out out.length x = out ++ [x] := by unfold gapD; simp
theorem gapD_low {out : List Nat} {j t x : Nat} (h : t < j) (hj : j ≤ out.length) : (gapD out j x)[t]? = out[t]? := by
  unfold gapD
  rw [List.getElem?_append_left (by simp; omega), List.getElem?_take, if_pos h]
theorem gapD_step {out : List Nat} {j x y : Nat} (hj : j < out.length) (hy : out[j]? = some y) : (gapD out (j + 1) x).set (j + 1) y = gapD out j y := by
  unfold gapD
  have hl : (out.take (j + 1)).length = j + 1 := by simp; omega
  rw [List.set_append_right (h := by omega), hl, Nat.sub_self, List.set_cons_zero]
  have hy' : out[j] = y := by simpa [hj] using hy
  rw [List.take_add_one, hy, List.drop_eq_getElem_cons hj, hy']
  simp
theorem gapD_put (out : List Nat) {j : Nat} (x y : Nat) (h : j ≤ out.length) : (gapD out j x).set j y = gapD out j y := by
  unfold gapD
  have hl : (out.take j).length = j := by simp; omega
  rw [List.set_append_right (h := by omega), hl, Nat.sub_self, List.set_cons_zero]
theorem natsI_set (l : List Nat) (j y : Nat) : (natsI l).set j (y : Int) = natsI (l.set j y) := by
  unfold natsI
  rw [List.map_set]
theorem NRow.put {w : World} {base g n cap : Nat} {zs : List Int} (h : NRow w base (.slice (some ⟨g, 0, none⟩) n cap) zs) (hn : zs.length = n) (j : Nat) (z : Int) :
    NRow (w.setCell ⟨g, j, none⟩ (.int .i64 z)) base (.slice (some ⟨g, 0, none⟩) n cap) (zs.set j z) := by
  subst hn
  have h' : w.ownsRow base 3 1 (.slice (some ⟨g, 0, none⟩) zs.length cap) zs.length (zs.map (Value.int .i64)) := h
  have h2 := h'.stored j (.int .i64 z)
  unfold NRow
  rw [List.length_set, List.map_set]
  exact h2.1
theorem NRow.frz {w : World} {base g n cap : Nat} {zs : List Int} (h : NRow w base (.slice (some ⟨g, 0, none⟩) n cap) zs) (hn : zs.length = n) (j : Nat) : w.frozen? ⟨g, j, none⟩ = false := by
  subst hn
  have h' : w.ownsRow base 3 1 (.slice (some ⟨g, 0, none⟩) zs.length cap) zs.length (zs.map (Value.int .i64)) := h
  exact h'.frozenAt j
theorem NRow.cell {w : World} {base g n cap : Nat} {zs : List Int} (h : NRow w base (.slice (some ⟨g, 0, none⟩) n cap) zs) (hn : zs.length = n) {j : Nat} {z : Int} (hz : zs[j]? = some z) : w.cell? ⟨g, j, none⟩ = some (.int .i64 z) := by
  subst hn
  have h' : w.ownsRow base 3 1 (.slice (some ⟨g, 0, none⟩) zs.length cap) zs.length (zs.map (Value.int .i64)) := h
  have hlt := (List.getElem?_eq_some_iff.1 hz).1
  exact (h'.cellAt j (by omega)).trans (by rw [List.getElem?_map, hz]; rfl)
theorem NRow.some {w : World} {base n cap : Nat} {ao : Option Addr} {zs : List Int} (h : NRow w base (.slice ao n cap) zs) (hn : 1 ≤ zs.length) : ∃ g, ao = some ⟨g, 0, none⟩ ∧ base ≤ g ∧ g < w.heap.size := by
  rcases h.2 with ⟨e, h0⟩ | ⟨g, cap', cur, e, hg, hh, _⟩
  · omega
  · injection e with e1
    exact ⟨g, e1, hg, lt_of_heap hh⟩



















































































































































































































































































































end Go.Proofs.YtkdnkmheidbfdaaGreat
