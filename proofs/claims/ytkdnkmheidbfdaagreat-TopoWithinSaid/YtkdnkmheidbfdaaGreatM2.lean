/-
  Layer 14: the stable sort leaves edges whose IDs rise as they are.
-/
import Derived.Test.YtkdnkmheidbfdaaGreatPLSym
import Derived.Lib.SliceRun
import Derived.Maps.AppendAt
import Derived.Test.YtkdnkmheidbfdaaGreatM1
namespace Go.Proofs.YtkdnkmheidbfdaaGreat
open Go.RowKit Go.Sort

set_option maxRecDepth 100000 in
set_option maxHeartbeats 3200000 in
theorem stableE_any {w : World} {b off n cap : Nat} {xs : List ER} (hn : xs.length = n) (hl : n ≤ 100000) (h : EAts w b off xs) (hr : Rise xs) (hb : 1 ≤ n → b < w.heap.size) {ao : Option Addr} (hao : 1 ≤ n → ao = some ⟨b, off, none⟩) :
    Calls Tryz.prog 172 #[.slice ao n cap, .func (.func 173) #[] #[]] w fun e w' => e = .returned (.tuple #[]) ∧ Below w.heap.size w w' := by
  have HI := hid (fun (W : World) (hW : Below w.heap.size w W) (p e : Nat) (hpe : p ≤ e) (hen : e ≤ n) => insertionE_any (w := W) (cap := cap) hn hl (fun k x hx => (h k x hx).below hW (h k x hx).lt) hr (fun h1 => Nat.lt_of_lt_of_le (hb h1) hW.size) hao hpe hen)
  have HM := hid (show ∀ (W : World), Below w.heap.size w W → ∀ a m b : Nat, a < m → m < b → b ≤ n → Calls Tryz.prog 205 #[.slice ao n cap, .int .i64 (a : Nat), .int .i64 (m : Nat), .int .i64 (b : Nat), .func (.func 173) #[] #[]] W fun e w' => e = .returned (.tuple #[]) ∧ Below w.heap.size w w' from fun W hW a m b' ham hmb hbn => by
    obtain rfl := hao (by omega)
    exact symE_all ⟨hn, hl, h, hr, hb (by omega)⟩ b' a m b' (Nat.sub_le _ _) ham hmb hbn W hW)
  have HS := hid (show Calls Tryz.prog 191 #[.slice ao n cap, .int .i64 n, .func (.func 173) #[] #[]] w fun e w' => e = .returned (.tuple #[]) ∧ Below w.heap.size w w' by
    clear h hr hb hao hn
    go_enter Tryz.func191, Tryz.ntmps191
    go_wp2
    go_loopw [7, 8] (fun av bv wr => ∃ a : Nat, a ≤ n ∧ av = .int .i64 (a : Nat) ∧ bv = .int .i64 ((a : Int) + 20) ∧ Below w.heap.size w wr) (fun av _ _ => n - (intOf av).toNat)
    case atStart => exact ⟨0, Nat.zero_le _, rfl, rfl, Below.refl _ _⟩
    case round =>
      obtain ⟨a, ha, rfl, rfl, hbr⟩ := hrel
      have HB := hid hbr
      clear hbr
      by_cases hlt : a + 20 ≤ n
      · have hltI : (a : Int) + 20 ≤ (n : Int) := by omega
        have HC := hid (show Calls Tryz.prog 204 #[.slice ao n cap, .int .i64 (a : Nat), .int .i64 ((a : Int) + 20), .func (.func 173) #[] #[]] wr fun e w' => e = .returned (.tuple #[]) ∧ Below wr.heap.size wr w' from HI.out wr HB.out a (a + 20) (Nat.le_add_right _ _) hlt)
        go_wp2_with (go_at_call 204; refine HC.out.mono ?_; rintro e w1 ⟨rfl, hb1⟩; have HB1 := hid (HB.out.trans (hb1.mono HB.out.size)); clear hb1 HC)
        go_roundw
        case rel => exact ⟨a + 20, hlt, by go_num, by go_num, HB1.out⟩
        case measure => simp [intOf]; omega
      · have hltI : ¬ ((a : Int) + 20 ≤ (n : Int)) := by omega
        have HC := hid (HI.out wr HB.out a n ha (Nat.le_refl _))
        go_wp2_with (go_at_call 204; refine HC.out.mono ?_; rintro e w1 ⟨rfl, hb1⟩; have HB1 := hid (HB.out.trans (hb1.mono HB.out.size)); clear hb1 HC)
        clear hltI hlt ha HB HI
        go_loopw [6, 7, 8, 9] (fun sv _ _ _ wq => ∃ s : Nat, 1 ≤ s ∧ s ≤ 1000000 ∧ sv = .int .i64 (s : Nat) ∧ Below w.heap.size w wq) (fun sv _ _ _ _ => 1000000 - (intOf sv).toNat)
        case atStart => exact ⟨20, by omega, by omega, rfl, HB1.out⟩
        case round =>
          obtain ⟨s, hs1, hs2, rfl, hbq⟩ := hrel
          have HQ := hid hbq
          clear hbq HB1
          by_cases hsn : s < n
          · have hsnI : (s : Int) < (n : Int) := by omega
            go_wp2
            go_loopw [7, 8] (fun av bv wz => ∃ a : Nat, a ≤ n ∧ av = .int .i64 (a : Nat) ∧ bv = .int .i64 ((a : Int) + 2 * (s : Int)) ∧ Below w.heap.size w wz) (fun av _ _ => n - (intOf av).toNat)
            case atStart => exact ⟨0, Nat.zero_le _, rfl, by go_num, HQ.out⟩
            case round =>
              obtain ⟨a, ha, rfl, rfl, hbz⟩ := hrel
              have HZ := hid hbz
              clear hbz
              by_cases hlt : a + 2 * s ≤ n
              · have hltI : (a : Int) + 2 * (s : Int) ≤ (n : Int) := by omega
                have HC := hid (show Calls Tryz.prog 205 #[.slice ao n cap, .int .i64 (a : Nat), .int .i64 ((a : Int) + (s : Int)), .int .i64 ((a : Int) + 2 * (s : Int)), .func (.func 173) #[] #[]] wr fun e w' => e = .returned (.tuple #[]) ∧ Below w.heap.size w w' by
                  have := HM.out wr HZ.out a (a + s) (a + 2 * s) (by omega) (by omega) hlt
                  rw [Int.natCast_add, Int.natCast_add, Int.natCast_mul] at this
                  exact this)
                go_wp2_with (go_at_call 205; refine HC.out.mono ?_; rintro e w1 ⟨rfl, hb1⟩; have HB1 := hid hb1; clear hb1 HC)
                go_roundw
                case rel => exact ⟨a + 2 * s, hlt, by go_num, by go_num, HB1.out⟩
                case measure => simp [intOf]; omega
              · have hltI : ¬ ((a : Int) + 2 * (s : Int) ≤ (n : Int)) := by omega
                by_cases hm : a + s < n
                · have hmI : (a : Int) + (s : Int) < (n : Int) := by omega
                  have HC := hid (show Calls Tryz.prog 205 #[.slice ao n cap, .int .i64 (a : Nat), .int .i64 ((a : Int) + (s : Int)), .int .i64 (n : Nat), .func (.func 173) #[] #[]] wr fun e w' => e = .returned (.tuple #[]) ∧ Below w.heap.size w w' by
                    have := HM.out wr HZ.out a (a + s) n (by omega) hm (Nat.le_refl _)
                    rw [Int.natCast_add] at this
                    exact this)
                  go_wp2_with (go_at_call 205; refine HC.out.mono ?_; rintro e w1 ⟨rfl, hb1⟩; have HB1 := hid hb1; clear hb1 HC)
                  go_roundw
                  case rel => exact ⟨s * 2, by omega, by omega, by go_num, HB1.out⟩
                  case measure => simp [intOf]; omega
                · have hmI : ¬ (a : Int) + (s : Int) < (n : Int) := by omega
                  go_wp2
                  go_roundw
                  case rel => exact ⟨s * 2, by omega, by omega, by go_num, HZ.out⟩
                  case measure => simp [intOf]; omega
          · have hsnI : ¬ (s : Int) < (n : Int) := by omega
            go_wp2
            go_end0
            exact ⟨rfl, HQ.out⟩)
  clear HI HM h hr hb hao hn
  go_enter Tryz.func172, Tryz.ntmps172
  go_wp2_with (go_at_call 191; refine HS.out.mono ?_; rintro e w1 ⟨rfl, hb1⟩; have HB1 := hid hb1; clear hb1 HS)
  go_end0
  exact ⟨rfl, HB1.out⟩
end Go.Proofs.YtkdnkmheidbfdaaGreat

namespace Go.Proofs.YtkdnkmheidbfdaaGreat
open Go.RowKit Go.Sort

def ER.cs (x : ER) : List Value := [.int .i64 x.id, .int .i64 x.st, .int .i64 x.en, .slice x.lo x.ll x.lc, .int .i64 x.lf, .int .i64 x.rt]
/-- The cells of a row of edges. -/
def ecs : List ER → List Value
  | [] => []
  | x :: xs => x.cs ++ ecs xs
theorem ecs_len : ∀ xs : List ER, (ecs xs).length = xs.length * 6
  | [] => rfl
  | x :: xs => by rw [ecs, List.length_append, ecs_len xs, List.length_cons, Nat.succ_mul]; simp [ER.cs]; omega
theorem ecs_at : ∀ (xs : List ER) (k r : Nat) (x : ER), r < 6 → xs[k]? = some x → (ecs xs)[k * 6 + r]? = x.cs[r]?
  | [], k, r, x, _, h => by simp at h
  | y :: xs, 0, r, x, hr, h => by
    simp at h
    subst h
    rw [ecs, List.getElem?_append_left (by simp [ER.cs]; omega), Nat.zero_mul, Nat.zero_add]
  | y :: xs, k + 1, r, x, hr, h => by
    rw [List.getElem?_cons_succ] at h
    rw [ecs, List.getElem?_append_right (by simp [ER.cs]; omega), show (k + 1) * 6 + r - y.cs.length = k * 6 + r by simp [ER.cs]; omega]
    exact ecs_at xs k r x hr h
theorem ecs_one {xs : List ER} : ∀ u ∈ ecs xs, u.oneCell' = true := by
  induction xs with
  | nil => intro u hu; simp [ecs] at hu
  | cons x xs ih =>
    intro u hu
    rw [ecs, List.mem_append] at hu
    rcases hu with hu | hu
    · simp only [ER.cs, List.mem_cons, List.not_mem_nil, or_false] at hu
      rcases hu with rfl | rfl | rfl | rfl | rfl | rfl <;> rfl
    · exact ih u hu
theorem addr_add (b o j : Nat) : (⟨b, o, none⟩ : Addr).add j = ⟨b, o + j, none⟩ := by
  unfold Addr.add
  split
  · rename_i h; simp
  · rfl
theorem EAts.cells {w : World} {b off : Nat} {xs : List ER} (h : EAts w b off xs) : ∀ (j : Nat) (u : Value), (ecs xs)[j]? = some u → w.cell? ((⟨b, off, none⟩ : Addr).add j) = some u := fun j u hu => by
  have hj : j < xs.length * 6 := by rw [← ecs_len]; exact (List.getElem?_eq_some_iff.1 hu).1
  obtain ⟨x, hx⟩ : ∃ x, xs[j / 6]? = some x := ⟨xs[j / 6]'(by omega), by rw [List.getElem?_eq_getElem]⟩
  have hat := ecs_at xs (j / 6) (j % 6) x (by omega) hx
  rw [show j / 6 * 6 + j % 6 = j by omega, hu] at hat
  obtain ⟨h0, h1, h2, h3, h4, h5⟩ := h (j / 6) x hx
  rw [addr_add, show off + j = off + j / 6 * 6 + j % 6 by omega]
  generalize hr : j % 6 = r at hat ⊢
  have hr6 : r < 6 := by omega
  match r, hr6, hat with
  | 0, _, hat => simp [ER.cs] at hat; rw [hat]; exact h0
  | 1, _, hat => simp [ER.cs] at hat; rw [hat]; exact h1
  | 2, _, hat => simp [ER.cs] at hat; rw [hat]; exact h2
  | 3, _, hat => simp [ER.cs] at hat; rw [hat]; exact h3
  | 4, _, hat => simp [ER.cs] at hat; rw [hat]; exact h4
  | 5, _, hat => simp [ER.cs] at hat; rw [hat]; exact h5
theorem EAts.of_own {w : World} {base g n cap : Nat} {xs : List ER} (h : w.ownsRow base 29 6 (.slice (some ⟨g, 0, none⟩) n cap) n (ecs xs)) (hn : xs.length = n) : EAts w g 0 xs := fun k x hx => by
  have hk : k < xs.length := (List.getElem?_eq_some_iff.1 hx).1
  have key : ∀ r, r < 6 → w.cell? ⟨g, 0 + k * 6 + r, none⟩ = x.cs[r]? := fun r hr => by
    have := h.cellAt (k * 6 + r) (by omega)
    rw [ecs_at xs k r x hr hx] at this
    rw [Nat.zero_add]
    exact this
  exact ⟨key 0 (by omega), key 1 (by omega), key 2 (by omega), key 3 (by omega), key 4 (by omega), key 5 (by omega)⟩

theorem infoEd : (Tryz.prog.info? 29).map (fun i => (i.zero, i.size, i.bytes)) = some (some (.agg #[.int .i64 0, .int .i64 0, .int .i64 0, .slice none 0 0, .int .i64 0, .int .i64 0]), 6, 64) := by kernel_rfl

/-- A row of edges in new memory. -/
def NewE (w w' : World) (v : Value) (n : Nat) (xs : List ER) : Prop := ∃ ao b cap, v = .slice ao n cap ∧ (1 ≤ n → ao = some ⟨b, 0, none⟩ ∧ w.heap.size ≤ b ∧ ∃ c, w'.heap[b]? = some (.cells c 29 (0, 0))) ∧ EAts w' b 0 xs

set_option maxRecDepth 100000 in
set_option maxHeartbeats 1600000 in
theorem cloneE_any {w : World} {b off n cap : Nat} {xs : List ER} (hn : xs.length = n) (hl : n ≤ 100000) (h : EAts w b off xs) {ao : Option Addr} (hao : 1 ≤ n → ao = some ⟨b, off, none⟩) (h0 : n = 0 → ao = none) :
    Calls Tryz.prog 38 #[.slice ao n cap] w fun e w' => (∃ v', e = .returned v' ∧ NewE w w' v' n xs) ∧ Below w.heap.size w w' := by
  have hnil : ∀ (wx : World) (a : Option Addr) (n c : Nat), (binOp .eql 30 (.slice a n c) (.slice none 0 0)).run Tryz.prog wx = .ok (.bool a.isNone) wx := fun wx a n c => Lib.run_eql_slice_nil wx _ _ a n c 0 0 Tryz.underlying30
  by_cases hz : n = 0
  · obtain rfl := h0 hz
    subst hz
    obtain rfl : xs = [] := List.eq_nil_of_length_eq_zero hn
    go_enter Tryz.func38, Tryz.ntmps38
    go_wp2
    go_ret
    exact ⟨⟨_, rfl, none, 0, 0, rfl, fun hx => absurd hx (by decide), fun k x hx => by cases hx⟩, Below.refl _ _⟩
  · obtain rfl := hao (by omega)
    obtain ⟨i0, hi, hz0, hz1, hz2⟩ := info_parts infoEd
    have hb0 : Below w.heap.size w (w.alloc (.cells #[] 29)) := (Below.refl _ _).alloc (Nat.le_refl _) _
    have hcells : ∀ j u, (ecs xs)[j]? = some u → (w.alloc (.cells #[] 29)).cell? ((⟨b, off, none⟩ : Addr).add j) = some u := fun j u hu => by
      have h1 := h.cells j u hu
      exact (hb0.cell (World.block_lt_of_cell? w _ h1)).trans h1
    have hown : (w.alloc (.cells #[] 29)).ownsRow w.heap.size 29 6 (.slice (some ⟨w.heap.size, 0, none⟩) 0 0) 0 [] := World.ownsRow_lit w #[] 0 (Nat.le_refl _) (by unfold maxLen; omega) (by simp)
    have hlen' : (ecs xs).length = n * 6 := by rw [ecs_len, hn]
    have HOW := hid hown
    have HCE := hid hcells
    clear hown hcells
    go_enter Tryz.func38, Tryz.ntmps38
    go_wp2_with (at_builtin; refine wpList_append_own _ rfl (.tmp 5) (.tmp 6) 30 rfl w.heap.size 29 i0 _ 6 64 Tryz.underlying30 hi hz0 hz1 hz2 rfl (by decide) (.slice (some ⟨w.heap.size, 0, none⟩) 0 0) 0 [] rfl HOW.out ⟨b, off, none⟩ n cap (ecs xs) rfl hlen' HCE.out ecs_one (by unfold maxLen; omega) (by omega) (by simp) ?_; intro v2 w2 hown2 hgrow2 _; have hB2 : Below w.heap.size w w2 := hb0.grown hgrow2 (by simp) (fun k hk => (HOW.out.lt k hk).1); have HO2 := hid hown2; clear hown2 hgrow2)
    go_ret
    have ho := HO2.out
    rw [Nat.zero_add, List.nil_append] at ho
    obtain ⟨g', c', rfl, hg', hlt'⟩ : ∃ g' c', v2 = .slice (some ⟨g', 0, none⟩) n c' ∧ w.heap.size ≤ g' ∧ ∃ c, w2.heap[g']? = some (.cells c 29 (0, 0)) := by
      rcases ho.2 with ⟨_, hx⟩ | ⟨g', c', cur, rfl, hg1, hg2, _⟩
      · omega
      · exact ⟨g', c', rfl, hg1, cur, hg2⟩
    exact ⟨⟨_, rfl, _, g', c', rfl, fun _ => ⟨rfl, hg', hlt'⟩, EAts.of_own ho hn⟩, hB2⟩

/-- A plan as a value: its two slices. -/
abbrev plV (nv ev : Value) : Value := .agg #[nv, ev]
set_option maxRecDepth 100000 in
set_option maxHeartbeats 1600000 in
theorem byID_any {w : World} {b off n cap : Nat} {xs : List ER} (hn : xs.length = n) (hl : n ≤ 400) (h : EAts w b off xs) (hr : Rise xs) {ao : Option Addr} (hao : 1 ≤ n → ao = some ⟨b, off, none⟩) (h0 : n = 0 → ao = none) (no : Option Addr) (nl nc : Nat) :
    Calls Tryz.prog 143 #[plV (.slice no nl nc) (.slice ao n cap)] w fun e w' => (∃ v', e = .returned v' ∧ NewE w w' v' n xs) ∧ Below w.heap.size w w' := by
  obtain ⟨wA, hwA⟩ : ∃ wA, w.alloc (.cells #[.slice no nl nc, .slice ao n cap] 32) = wA := ⟨_, rfl⟩
  have hbA : Below w.heap.size w wA := by rw [← hwA]; exact (Below.refl _ w).alloc (Nat.le_refl _) _
  have hhA : wA.heap[w.heap.size]? = some (.cells #[.slice no nl nc, .slice ao n cap] 32) := by rw [← hwA]; unfold World.alloc; simp
  have c1 : wA.cell? ⟨w.heap.size, 1, none⟩ = some (.slice ao n cap) := by simp [World.cell?, hhA]
  have hE : EAts wA b off xs := fun k x hx => (h k x hx).below hbA (h k x hx).lt
  have HC := hid (cloneE_any (cap := cap) hn (by omega) hE hao h0)
  have HS := hid (show ∀ W ao' b' cap', Below wA.heap.size wA W → (1 ≤ n → ao' = some ⟨b', 0, none⟩ ∧ wA.heap.size ≤ b' ∧ ∃ c, W.heap[b']? = some (.cells c 29 (0, 0))) → EAts W b' 0 xs → Calls Tryz.prog 172 #[.slice ao' n cap', .func (.func 173) #[] #[]] W fun e w' => e = .returned (.tuple #[]) ∧ Below W.heap.size W w' from fun W ao' b' cap' _ h1 h2 => stableE_any hn (Nat.le_trans hl (by decide)) h2 hr (fun hx => lt_of_heap (h1 hx).2.2.choose_spec) (fun hx => (h1 hx).1))
  have HK := hid (show ∀ W ao' b' cap', (1 ≤ n → ao' = some ⟨b', 0, none⟩ ∧ wA.heap.size ≤ b' ∧ ∃ c, W.heap[b']? = some (.cells c 29 (0, 0))) → EAts W b' 0 xs → Calls Tryz.prog 174 #[.slice ao' n cap', .func (.func 175) #[] #[]] W fun e w' => e = .returned (.slice ao' n cap') ∧ Below W.heap.size W w' from fun W ao' b' cap' h1 h2 => compactE_any hn (by omega) h2 hr (fun hx => lt_of_heap (h1 hx).2.2.choose_spec) (fun hx => (h1 hx).1))
  have HBA := hid hbA
  clear hE hbA hhA h hao h0
  go_enter Tryz.func143, Tryz.ntmps143
  go_wp2_with (first
    | (go_at_call 38; refine HC.out.mono ?_; rintro e w1 ⟨⟨v1, rfl, ao1, b1, cap1, rfl, h1, h2⟩, hb1⟩; have HX1 := hid (And.intro h1 (And.intro h2 hb1)); have HS1 := hid (HS.out w1 ao1 b1 cap1 hb1 h1 h2); clear HC HS h1 h2 hb1)
    | (go_at_call 172; refine HS1.out.mono ?_; rintro e w2 ⟨rfl, hb2⟩; have HX2 := hid (show (1 ≤ n → ao1 = some ⟨b1, 0, none⟩ ∧ wA.heap.size ≤ b1 ∧ ∃ c, w2.heap[b1]? = some (.cells c 29 (0, 0))) ∧ EAts w2 b1 0 xs ∧ Below wA.heap.size wA w2 from ⟨fun hx => ⟨(HX1.out.1 hx).1, (HX1.out.1 hx).2.1, ⟨(HX1.out.1 hx).2.2.choose, (hb2.block b1 (lt_of_heap (HX1.out.1 hx).2.2.choose_spec)).trans (HX1.out.1 hx).2.2.choose_spec⟩⟩, fun k x hx => (HX1.out.2.1 k x hx).below hb2 (HX1.out.2.1 k x hx).lt, HX1.out.2.2.trans (hb2.mono HX1.out.2.2.size)⟩); have HK1 := hid (HK.out w2 ao1 b1 cap1 HX2.out.1 HX2.out.2.1); clear HS1 HX1 HK hb2)
    | (go_at_call 174; refine HK1.out.mono ?_; rintro e w3 ⟨rfl, hb3⟩; have HX3 := hid (show (1 ≤ n → ao1 = some ⟨b1, 0, none⟩ ∧ wA.heap.size ≤ b1 ∧ ∃ c, w3.heap[b1]? = some (.cells c 29 (0, 0))) ∧ EAts w3 b1 0 xs ∧ Below wA.heap.size wA w3 from ⟨fun hx => ⟨(HX2.out.1 hx).1, (HX2.out.1 hx).2.1, ⟨(HX2.out.1 hx).2.2.choose, (hb3.block b1 (lt_of_heap (HX2.out.1 hx).2.2.choose_spec)).trans (HX2.out.1 hx).2.2.choose_spec⟩⟩, fun k x hx => (HX2.out.2.1 k x hx).below hb3 (HX2.out.2.1 k x hx).lt, HX2.out.2.2.trans (hb3.mono HX2.out.2.2.size)⟩); clear HK1 HX2 hb3))
  go_ret
  exact ⟨⟨_, rfl, ao1, b1, cap1, rfl, fun hx => ⟨(HX3.out.1 hx).1, Nat.le_trans HBA.out.size (HX3.out.1 hx).2.1, (HX3.out.1 hx).2.2⟩, HX3.out.2.1⟩, HBA.out.trans (HX3.out.2.2.mono HBA.out.size)⟩
end Go.Proofs.YtkdnkmheidbfdaaGreat

namespace Go.Proofs.YtkdnkmheidbfdaaGreat
open Go.RowKit Go.Sort

theorem half_add (i j : Nat) (_h : i + j ≤ 1000000000) : (((i + j : Nat) : Int) / 2) = (((i + j) / 2 : Nat) : Int) := by omega

set_option maxRecDepth 100000 in
set_option maxHeartbeats 3200000 in
theorem binE_any {w : World} {b off n cap : Nat} {xs : List ER} (hn : xs.length = n) (hl : n ≤ 100000) (h : EAts w b off xs) (t : Int) (hr : ∀ x ∈ xs, t < x.id) {ao : Option Addr} (hao : 1 ≤ n → ao = some ⟨b, off, none⟩) :
    Calls Tryz.prog 146 #[.slice ao n cap, .int .i64 t, .func (.func 147) #[] #[]] w fun e w' => e = .returned (.tuple #[.int .i64 0, .bool false]) ∧ Below w.heap.size w w' := by
  have HN := hid hn
  have HX := hid h
  have HR := hid (show ∀ (k : Nat) (x : ER), xs[k]? = some x → sgn (x.id - t) = 1 from fun k x hx => by
    have := hr x (List.mem_of_getElem? hx)
    unfold sgn
    split
    · omega
    · split <;> omega)
  have HAO := hid hao
  clear hn h hr hao
  go_enter Tryz.func146, Tryz.ntmps146
  go_wp2
  go_loopw [9, 10, 11] (fun iv jv _ wr => ∃ j : Nat, j ≤ n ∧ iv = .int .i64 0 ∧ jv = .int .i64 (j : Int) ∧ Below w.heap.size w wr) (fun _ jv _ _ => (intOf jv).toNat)
  case atStart => exact ⟨n, Nat.le_refl _, rfl, rfl, Below.refl _ _⟩
  case round =>
    obtain ⟨j, hj, rfl, rfl, hbr⟩ := hrel
    by_cases hlt : 0 < j
    · have hltI : (0 : Int) < (j : Int) := by omega
      obtain ⟨m, hm⟩ : ∃ m, j / 2 = m := ⟨_, rfl⟩
      have hmj : m < j := by omega
      obtain ⟨x, hx⟩ : ∃ x, xs[m]? = some x := ⟨xs[m]'(by have := HN.out; omega), by rw [List.getElem?_eq_getElem]⟩
      obtain rfl := HAO.out (by omega)
      have hx0 := HX.out m x hx
      obtain ⟨a0, a1, a2, a3, a4, a5⟩ := hx0.below hbr hx0.lt
      have HC := hid (fun W => cmpID_any x t W)
      rw [HR.out m x hx] at HC
      have hmn : (m : Int) < (n : Int) := by omega
      have hw1 : IntKind.u64.wrap (j : Int) = (j : Int) := PlainAid.u64_nonneg (by omega) (by omega)
      have HBR := hid hbr
      have HM := hid hm
      clear hbr hx hx0
      go_wp2_with (first
        | (go_at_call 147; refine (HC.out _).mono ?_; rintro e w1 ⟨rfl, hb1⟩; have HB1 := hid (HBR.out.trans (hb1.mono HBR.out.size)); clear hb1 HC))
      go_roundw
      case rel => exact ⟨m, by omega, rfl, by have := HM.out; congr 1; omega, HB1.out⟩
      case measure => have := HM.out; simp [intOf]; omega
    · obtain rfl : j = 0 := by omega
      have HBR := hid hbr
      clear hbr hlt
      by_cases hz : n = 0
      · subst hz
        go_wp2
        go_ret2
        exact ⟨rfl, HBR.out⟩
      · have hzI : (0 : Int) < (n : Int) := by omega
        have hzN : 0 < n := by omega
        obtain ⟨x, hx⟩ : ∃ x, xs[0]? = some x := ⟨xs[0]'(by have := HN.out; omega), by rw [List.getElem?_eq_getElem]⟩
        obtain rfl := HAO.out (by omega)
        have hx0 := HX.out 0 x hx
        obtain ⟨a0, a1, a2, a3, a4, a5⟩ := hx0.below HBR.out hx0.lt
        have HC := hid (fun W => cmpID_any x t W)
        rw [HR.out 0 x hx] at HC
        simp only [Nat.zero_mul, Nat.add_zero] at a0 a1 a2 a3 a4 a5
        clear hx hx0
        go_wp2_with (first
          | (go_at_call 147; refine (HC.out _).mono ?_; rintro e w1 ⟨rfl, hb1⟩; have HB1 := hid (HBR.out.trans (hb1.mono HBR.out.size)); clear hb1 HC))
        go_ret2
        exact ⟨rfl, HB1.out⟩
end Go.Proofs.YtkdnkmheidbfdaaGreat
