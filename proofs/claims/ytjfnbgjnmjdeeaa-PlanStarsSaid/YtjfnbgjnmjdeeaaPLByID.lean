/-
  Layer 14: slices.Clone of edges; plan's byID where the IDs rise.
-/
import Derived.Test.YtjfnbgjnmjdeeaaPLSort
import Derived.Lib.SliceRun
import Derived.Maps.AppendAt
namespace Go.Proofs.Ytjfnbgjnmjdeeaa
open Go.RowKit Go.Sort

def ER.cs (x : ER) : List Value := [.int .i64 x.id, .int .i64 x.st, .int .i64 x.en, .slice x.lo x.ll x.lc, .int .i64 x.lf, .int .i64 x.rt]
/-- The cells of a row of edges. -/
def ecs : List ER → List Value
  | [] => []
  | x :: xs => x.cs ++ ecs xs
theorem ecs_len : ∀ xs : List ER, (ecs xs).length = xs.length * 6
  | [] => rfl
  | x :: xs => by rw [ecs, List.length_append, ecs_len xs, List.length_cons, Nat.succ_mul]; simp [ER.cs]; omega
theorem ecs_at : ∀ (xs : List ER) (k r : Nat) (x : ER), r < 6 → xs[k]? = some x → (ecs xs)[k * 6 + r]? = x.cs[r]?
  | [], k, r, x, _, h => by simp at h
  | y :: xs, 0, r, x, hr, h => by
    simp at h
    subst h
    rw [ecs, List.getElem?_append_left (by simp [ER.cs]; omega), Nat.zero_mul, Nat.zero_add]
  | y :: xs, k + 1, r, x, hr, h => by
    rw [List.getElem?_cons_succ] at h
    rw [ecs, List.getElem?_append_right (by simp [ER.cs]; omega), show (k + 1) * 6 + r - y.cs.length = k * 6 + r by simp [ER.cs]; omega]
    exact ecs_at xs k r x hr h
theorem ecs_one {xs : List ER} : ∀ u ∈ ecs xs, u.oneCell' = true := by
  induction xs with
  | nil => intro u hu; simp [ecs] at hu
  | cons x xs ih =>
    intro u hu
    rw [ecs, List.mem_append] at hu
    rcases hu with hu | hu
    · simp only [ER.cs, List.mem_cons, List.not_mem_nil, or_false] at hu
      rcases hu with rfl | rfl | rfl | rfl | rfl | rfl <;> rfl
    · exact ih u hu
theorem addr_add (b o j : Nat) : (⟨b, o, none⟩ : Addr).add j = ⟨b, o + j, none⟩ := by
  unfold Addr.add
  split
  · rename_i h; simp
  · rfl
theorem EAts.cells {w : World} {b off : Nat} {xs : List ER} (h : EAts w b off xs) : ∀ (j : Nat) (u : Value), (ecs xs)[j]? = some u → w.cell? ((⟨b, off, none⟩ : Addr).add j) = some u := fun j u hu => by
  have hj : j < xs.length * 6 := by rw [← ecs_len]; exact (List.getElem?_eq_some_iff.1 hu).1
  obtain ⟨x, hx⟩ : ∃ x, xs[j / 6]? = some x := ⟨xs[j / 6]'(by omega), by rw [List.getElem?_eq_getElem]⟩
  have hat := ecs_at xs (j / 6) (j % 6) x (by omega) hx
  rw [show j / 6 * 6 + j % 6 = j by omega, hu] at hat
  obtain ⟨h0, h1, h2, h3, h4, h5⟩ := h (j / 6) x hx
  rw [addr_add, show off + j = off + j / 6 * 6 + j % 6 by omega]
  generalize hr : j % 6 = r at hat ⊢
  have hr6 : r < 6 := by omega
  match r, hr6, hat with
  | 0, _, hat => simp [ER.cs] at hat; rw [hat]; exact h0
  | 1, _, hat => simp [ER.cs] at hat; rw [hat]; exact h1
  | 2, _, hat => simp [ER.cs] at hat; rw [hat]; exact h2
  | 3, _, hat => simp [ER.cs] at hat; rw [hat]; exact h3
  | 4, _, hat => simp [ER.cs] at hat; rw [hat]; exact h4
  | 5, _, hat => simp [ER.cs] at hat; rw [hat]; exact h5
theorem EAts.of_own {w : World} {base g n cap : Nat} {xs : List ER} (h : w.ownsRow base 33 6 (.slice (some ⟨g, 0, none⟩) n cap) n (ecs xs)) (hn : xs.length = n) : EAts w g 0 xs := fun k x hx => by
  have hk : k < xs.length := (List.getElem?_eq_some_iff.1 hx).1
  have key : ∀ r, r < 6 → w.cell? ⟨g, 0 + k * 6 + r, none⟩ = x.cs[r]? := fun r hr => by
    have := h.cellAt (k * 6 + r) (by omega)
    rw [ecs_at xs k r x hr hx] at this
    rw [Nat.zero_add]
    exact this
  exact ⟨key 0 (by omega), key 1 (by omega), key 2 (by omega), key 3 (by omega), key 4 (by omega), key 5 (by omega)⟩

theorem infoEd : (Try.prog.info? 33).map (fun i => (i.zero, i.size, i.bytes)) = some (some (.agg #[.int .i64 0, .int .i64 0, .int .i64 0, .slice none 0 0, .int .i64 0, .int .i64 0]), 6, 64) := by kernel_rfl

/-- A row of edges in new memory. -/
def NewE (w w' : World) (v : Value) (n : Nat) (xs : List ER) : Prop := ∃ ao b cap, v = .slice ao n cap ∧ (1 ≤ n → ao = some ⟨b, 0, none⟩ ∧ w.heap.size ≤ b ∧ ∃ c, w'.heap[b]? = some (.cells c 33 (0, 0))) ∧ EAts w' b 0 xs

set_option maxRecDepth 100000 in
set_option maxHeartbeats 1600000 in
theorem cloneE_any {w : World} {b off n cap : Nat} {xs : List ER} (hn : xs.length = n) (hl : n ≤ 100000) (h : EAts w b off xs) {ao : Option Addr} (hao : 1 ≤ n → ao = some ⟨b, off, none⟩) (h0 : n = 0 → ao = none) :
    Calls Try.prog 38 #[.slice ao n cap] w fun e w' => (∃ v', e = .returned v' ∧ NewE w w' v' n xs) ∧ Below w.heap.size w w' := by
  have hnil : ∀ (wx : World) (a : Option Addr) (n c : Nat), (binOp .eql 28 (.slice a n c) (.slice none 0 0)).run Try.prog wx = .ok (.bool a.isNone) wx := fun wx a n c => Lib.run_eql_slice_nil wx _ _ a n c 0 0 Try.underlying28
  by_cases hz : n = 0
  · obtain rfl := h0 hz
    subst hz
    obtain rfl : xs = [] := List.eq_nil_of_length_eq_zero hn
    go_enter Try.func38, Try.ntmps38
    go_wp2
    go_ret
    exact ⟨⟨_, rfl, none, 0, 0, rfl, fun hx => absurd hx (by decide), fun k x hx => by cases hx⟩, Below.refl _ _⟩
  · obtain rfl := hao (by omega)
    obtain ⟨i0, hi, hz0, hz1, hz2⟩ := info_parts infoEd
    have hb0 : Below w.heap.size w (w.alloc (.cells #[] 33)) := (Below.refl _ _).alloc (Nat.le_refl _) _
    have hcells : ∀ j u, (ecs xs)[j]? = some u → (w.alloc (.cells #[] 33)).cell? ((⟨b, off, none⟩ : Addr).add j) = some u := fun j u hu => by
      have h1 := h.cells j u hu
      exact (hb0.cell (World.block_lt_of_cell? w _ h1)).trans h1
    have hown : (w.alloc (.cells #[] 33)).ownsRow w.heap.size 33 6 (.slice (some ⟨w.heap.size, 0, none⟩) 0 0) 0 [] := World.ownsRow_lit w #[] 0 (Nat.le_refl _) (by unfold maxLen; omega) (by simp)
    have hlen' : (ecs xs).length = n * 6 := by rw [ecs_len, hn]
    have HOW := hid hown
    have HCE := hid hcells
    clear hown hcells
    go_enter Try.func38, Try.ntmps38
    go_wp2_with (at_builtin; refine wpList_append_own _ rfl (.tmp 5) (.tmp 6) 28 rfl w.heap.size 33 i0 _ 6 64 Try.underlying28 hi hz0 hz1 hz2 rfl (by decide) (.slice (some ⟨w.heap.size, 0, none⟩) 0 0) 0 [] rfl HOW.out ⟨b, off, none⟩ n cap (ecs xs) rfl hlen' HCE.out ecs_one (by unfold maxLen; omega) (by omega) (by simp) ?_; intro v2 w2 hown2 hgrow2 _; have hB2 : Below w.heap.size w w2 := hb0.grown hgrow2 (by simp) (fun k hk => (HOW.out.lt k hk).1); have HO2 := hid hown2; clear hown2 hgrow2)
    go_ret
    have ho := HO2.out
    rw [Nat.zero_add, List.nil_append] at ho
    obtain ⟨g', c', rfl, hg', hlt'⟩ : ∃ g' c', v2 = .slice (some ⟨g', 0, none⟩) n c' ∧ w.heap.size ≤ g' ∧ ∃ c, w2.heap[g']? = some (.cells c 33 (0, 0)) := by
      rcases ho.2 with ⟨_, hx⟩ | ⟨g', c', cur, rfl, hg1, hg2, _⟩
      · omega
      · exact ⟨g', c', rfl, hg1, cur, hg2⟩
    exact ⟨⟨_, rfl, _, g', c', rfl, fun _ => ⟨rfl, hg', hlt'⟩, EAts.of_own ho hn⟩, hB2⟩

/-- A plan as a value: its two slices. -/
abbrev plV (nv ev : Value) : Value := .agg #[nv, ev]
set_option maxRecDepth 100000 in
set_option maxHeartbeats 1600000 in
theorem byID_any {w : World} {b off n cap : Nat} {xs : List ER} (hn : xs.length = n) (hl : n ≤ 19) (h : EAts w b off xs) (hr : Rise xs) {ao : Option Addr} (hao : 1 ≤ n → ao = some ⟨b, off, none⟩) (h0 : n = 0 → ao = none) (no : Option Addr) (nl nc : Nat) :
    Calls Try.prog 23 #[plV (.slice no nl nc) (.slice ao n cap)] w fun e w' => (∃ v', e = .returned v' ∧ NewE w w' v' n xs) ∧ Below w.heap.size w w' := by
  obtain ⟨wA, hwA⟩ : ∃ wA, w.alloc (.cells #[.slice no nl nc, .slice ao n cap] 30) = wA := ⟨_, rfl⟩
  have hbA : Below w.heap.size w wA := by rw [← hwA]; exact (Below.refl _ w).alloc (Nat.le_refl _) _
  have hhA : wA.heap[w.heap.size]? = some (.cells #[.slice no nl nc, .slice ao n cap] 30) := by rw [← hwA]; unfold World.alloc; simp
  have c1 : wA.cell? ⟨w.heap.size, 1, none⟩ = some (.slice ao n cap) := by simp [World.cell?, hhA]
  have hE : EAts wA b off xs := fun k x hx => (h k x hx).below hbA (h k x hx).lt
  have HC := hid (cloneE_any (cap := cap) hn (by omega) hE hao h0)
  have HS := hid (show ∀ W ao' b' cap', Below wA.heap.size wA W → (1 ≤ n → ao' = some ⟨b', 0, none⟩ ∧ wA.heap.size ≤ b' ∧ ∃ c, W.heap[b']? = some (.cells c 33 (0, 0))) → EAts W b' 0 xs → Calls Try.prog 39 #[.slice ao' n cap', .func (.func 40) #[] #[]] W fun e w' => e = .returned (.tuple #[]) ∧ Below W.heap.size W w' from fun W ao' b' cap' _ h1 h2 => stableE_any hn hl h2 hr (fun hx => lt_of_heap (h1 hx).2.2.choose_spec) (fun hx => (h1 hx).1))
  have HK := hid (show ∀ W ao' b' cap', (1 ≤ n → ao' = some ⟨b', 0, none⟩ ∧ wA.heap.size ≤ b' ∧ ∃ c, W.heap[b']? = some (.cells c 33 (0, 0))) → EAts W b' 0 xs → Calls Try.prog 41 #[.slice ao' n cap', .func (.func 42) #[] #[]] W fun e w' => e = .returned (.slice ao' n cap') ∧ Below W.heap.size W w' from fun W ao' b' cap' h1 h2 => compactE_any hn (by omega) h2 hr (fun hx => lt_of_heap (h1 hx).2.2.choose_spec) (fun hx => (h1 hx).1))
  have HBA := hid hbA
  clear hE hbA hhA h hao h0
  go_enter Try.func23, Try.ntmps23
  go_wp2_with (first
    | (go_at_call 38; refine HC.out.mono ?_; rintro e w1 ⟨⟨v1, rfl, ao1, b1, cap1, rfl, h1, h2⟩, hb1⟩; have HX1 := hid (And.intro h1 (And.intro h2 hb1)); have HS1 := hid (HS.out w1 ao1 b1 cap1 hb1 h1 h2); clear HC HS h1 h2 hb1)
    | (go_at_call 39; refine HS1.out.mono ?_; rintro e w2 ⟨rfl, hb2⟩; have HX2 := hid (show (1 ≤ n → ao1 = some ⟨b1, 0, none⟩ ∧ wA.heap.size ≤ b1 ∧ ∃ c, w2.heap[b1]? = some (.cells c 33 (0, 0))) ∧ EAts w2 b1 0 xs ∧ Below wA.heap.size wA w2 from ⟨fun hx => ⟨(HX1.out.1 hx).1, (HX1.out.1 hx).2.1, ⟨(HX1.out.1 hx).2.2.choose, (hb2.block b1 (lt_of_heap (HX1.out.1 hx).2.2.choose_spec)).trans (HX1.out.1 hx).2.2.choose_spec⟩⟩, fun k x hx => (HX1.out.2.1 k x hx).below hb2 (HX1.out.2.1 k x hx).lt, HX1.out.2.2.trans (hb2.mono HX1.out.2.2.size)⟩); have HK1 := hid (HK.out w2 ao1 b1 cap1 HX2.out.1 HX2.out.2.1); clear HS1 HX1 HK hb2)
    | (go_at_call 41; refine HK1.out.mono ?_; rintro e w3 ⟨rfl, hb3⟩; have HX3 := hid (show (1 ≤ n → ao1 = some ⟨b1, 0, none⟩ ∧ wA.heap.size ≤ b1 ∧ ∃ c, w3.heap[b1]? = some (.cells c 33 (0, 0))) ∧ EAts w3 b1 0 xs ∧ Below wA.heap.size wA w3 from ⟨fun hx => ⟨(HX2.out.1 hx).1, (HX2.out.1 hx).2.1, ⟨(HX2.out.1 hx).2.2.choose, (hb3.block b1 (lt_of_heap (HX2.out.1 hx).2.2.choose_spec)).trans (HX2.out.1 hx).2.2.choose_spec⟩⟩, fun k x hx => (HX2.out.2.1 k x hx).below hb3 (HX2.out.2.1 k x hx).lt, HX2.out.2.2.trans (hb3.mono HX2.out.2.2.size)⟩); clear HK1 HX2 hb3))
  go_ret
  exact ⟨⟨_, rfl, ao1, b1, cap1, rfl, fun hx => ⟨(HX3.out.1 hx).1, Nat.le_trans HBA.out.size (HX3.out.1 hx).2.1, (HX3.out.1 hx).2.2⟩, HX3.out.2.1⟩, HBA.out.trans (HX3.out.2.2.mono HBA.out.size)⟩
end Go.Proofs.Ytjfnbgjnmjdeeaa
