/-
  Layer 17: a row of nodes of the call's own; a node put behind it.
-/
import Derived.Test.YtkdnkmheidbfdaaGreatN5
import Derived.Test.YtkdnkmheidbfdaaGreatMU
namespace Go.Proofs.YtkdnkmheidbfdaaGreat
open Go.RowKit Go.Shelf Go.Sort Go.Maps

/-- A row of nodes that the call itself made. -/
def NdRow (w : World) (base : Nat) (v : Value) (xs : List NR) : Prop := w.ownsRow base 25 4 v xs.length (ncs xs)
theorem NdRow.below {w w' : World} {base : Nat} {v : Value} {xs : List NR} (h : NdRow w base v xs) (hb : Below w.heap.size w w') : NdRow w' base v xs := by
  refine ⟨h.1, ?_⟩
  rcases h.2 with h0 | ⟨g, cap, cur, h1, h2, h3, h4⟩
  · exact .inl h0
  · exact .inr ⟨g, cap, cur, h1, h2, (hb.block g (lt_of_heap h3)).trans h3, h4⟩
theorem NdRow.form {w : World} {base : Nat} {v : Value} {xs : List NR} (h : NdRow w base v xs) : ∃ ao cap, v = .slice ao xs.length cap ∧ xs.length ≤ cap ∧ (1 ≤ xs.length → ∃ g, ao = some ⟨g, 0, none⟩ ∧ base ≤ g ∧ g < w.heap.size) := by
  rcases h.2 with ⟨rfl, h0⟩ | ⟨g, cap, cur, rfl, h1, h2, h3, _⟩
  · exact ⟨none, 0, by rw [h0], by omega, fun h => by omega⟩
  · exact ⟨_, cap, rfl, h3, fun _ => ⟨g, rfl, h1, lt_of_heap h2⟩⟩
theorem NdRow.nil (w : World) (base : Nat) : NdRow w base (.slice none 0 0) [] := World.ownsRow_nil w base _ 4
theorem NdRow.toBase {w : World} {base base' : Nat} {v : Value} {xs : List NR} (h : NdRow w base v xs) (hb : base' ≤ base) : NdRow w base' v xs := by
  refine ⟨h.1, ?_⟩
  rcases h.2 with h0 | ⟨g, cap, cur, h1, h2, h3, h4⟩
  · exact .inl h0
  · exact .inr ⟨g, cap, cur, h1, Nat.le_trans hb h2, h3, h4⟩
theorem NdRow.lt {w : World} {base : Nat} {v : Value} {xs : List NR} (h : NdRow w base v xs) {k : Nat} (hk : v.ownBlock = some k) : k < w.heap.size ∧ base ≤ k := by
  rcases h.2 with ⟨rfl, h0⟩ | ⟨g, cap, cur, rfl, h1, h2, _⟩
  · cases hk
  · cases hk
    exact ⟨lt_of_heap h2, h1⟩
theorem NdRow.same {w w' : World} {base : Nat} {v : Value} {xs : List NR} (h : NdRow w base v xs) (hk : ∀ g, v.ownBlock = some g → w'.heap[g]? = w.heap[g]?) : NdRow w' base v xs := by
  refine ⟨h.1, ?_⟩
  rcases h.2 with h0 | ⟨g, cap, cur, rfl, h2, h3, h4⟩
  · exact .inl h0
  · exact .inr ⟨g, cap, cur, rfl, h2, (hk g rfl).trans h3, h4⟩
theorem NdRow.nde {w : World} {base : Nat} {v : Value} {xs : List NR} (h : NdRow w base v xs) (hl : xs.length ≤ 1000) : ∃ b ao cap, v = .slice ao xs.length cap ∧ NdE w b 0 xs.length ao xs := by
  rcases h.2 with ⟨rfl, h0⟩ | ⟨g, cap, cur, rfl, h1, h2, h3⟩
  · refine ⟨0, none, 0, by rw [h0], ⟨rfl, hl, fun k x hx => ?_, fun h => by omega⟩⟩
    have := (List.getElem?_eq_some_iff.1 hx).1
    omega
  · have h' : w.ownsRow base 25 4 (.slice (some ⟨g, 0, none⟩) xs.length cap) xs.length (ncs xs) := h
    refine ⟨g, _, cap, rfl, ⟨rfl, hl, fun k x hx => ?_, fun _ => rfl⟩⟩
    have hk : k < xs.length := (List.getElem?_eq_some_iff.1 hx).1
    have key : ∀ r, r < 4 → w.cell? ⟨g, k * 4 + r, none⟩ = x.cs[r]? := fun r hr => by
      have := h'.cellAt (k * 4 + r) (by omega)
      rw [ncs_at xs k r x hr hx] at this
      exact this
    rw [Nat.zero_add]
    exact ⟨key 0 (by omega), key 1 (by omega), key 2 (by omega), key 3 (by omega)⟩
theorem ncs_app (xs ys : List NR) : ncs (xs ++ ys) = ncs xs ++ ncs ys := by
  induction xs with
  | nil => rfl
  | cons x xs ih => rw [List.cons_append, ncs, ncs, ih, List.append_assoc]

theorem nd_append {w : World} {base : Nat} {v : Value} {xs : List NR} (h : NdRow w base v xs) (hb : base ≤ w.heap.size) (hl : xs.length ≤ 1000) {gv : Nat} {x : NR} (hx : w.heap[gv]? = some (nrO x)) :
    ∃ ao cap w', (Builtin.append_ #[26, 26] 26 #[v, .slice (some ⟨gv, 0, none⟩) 1 1]).run Tryz.prog w = .ok (.slice ao (xs.length + 1) cap) w' ∧ NdRow w' base (.slice ao (xs.length + 1) cap) (xs ++ [x]) ∧ Below base w w' ∧ GrewBy w w' v (.slice ao (xs.length + 1) cap) := by
  obtain ⟨i0, hi, hz0, hz1, hz2⟩ := info_parts infoNd
  obtain ⟨q0, q1, q2, q3⟩ := nr_cells hx
  obtain ⟨v', w', hrun, r1, r2, _, r4⟩ := run_append_own_at (P := Tryz.prog) w base 26 26 25 i0 _ 4 32 Tryz.underlying26 hi hz0 hz1 hz2 rfl (by decide) v xs.length _ h ⟨gv, 0, none⟩ 1 1 x.cs rfl
    (fun j u hj => by
      match j, hj with
      | 0, hj => simp [NR.cs] at hj; subst hj; rw [addr_add]; exact q0
      | 1, hj => simp [NR.cs] at hj; subst hj; rw [addr_add]; exact q1
      | 2, hj => simp [NR.cs] at hj; subst hj; rw [addr_add]; exact q2
      | 3, hj => simp [NR.cs] at hj; subst hj; rw [addr_add]; exact q3
      | j + 4, hj => simp [NR.cs] at hj) (by intro u hu'; simp [NR.cs] at hu'; rcases hu' with rfl | rfl | rfl | rfl <;> rfl) (by unfold maxLen; omega) (by omega) hb
  obtain ⟨ao, cap, rfl⟩ : ∃ ao cap, v' = .slice ao (xs.length + 1) cap := by
    rcases r1.2 with ⟨rfl, h0⟩ | ⟨g, cap, cur, rfl, _, _, hc, _⟩
    · omega
    · exact ⟨_, cap, rfl⟩
  refine ⟨ao, cap, w', hrun, ?_, ?_, ⟨fun k hk hne => r2.block k hk fun e => hne e.symm, fun k hk => ?_⟩⟩
  · unfold NdRow
    rw [ncs_app, List.length_append]
    show w'.ownsRow base _ 4 _ (xs.length + 1) (ncs xs ++ (x.cs ++ []))
    rw [List.append_nil]
    exact r1
  · refine (Below.refl base w).grown r2 hb (fun k e => ?_)
    rcases h.2 with ⟨rfl, _⟩ | ⟨g, cap', cur, rfl, hg, _⟩
    · cases e
    · cases e
      exact hg
  · rcases r4 with r4 | r4
    · exact .inl (r4.symm.trans hk)
    · rw [r4] at hk
      injection hk with hk
      exact .inr (by omega)

set_option maxRecDepth 100000 in
set_option maxHeartbeats 1600000 in
theorem insertEnd_any {w : World} {base n cap : Nat} {ao : Option Addr} {xs : List NR} (h : NdRow w base (.slice ao n cap) xs) (hn : xs.length = n) (hb : base ≤ w.heap.size) (hl : n ≤ 1000) {gv : Nat} {x : NR} (hx : w.heap[gv]? = some (nrO x)) :
    Calls Tryz.prog 70 #[.slice ao n cap, .int .i64 n, .slice (some ⟨gv, 0, none⟩) 1 1] w fun e w' => (∃ v, e = .returned v ∧ NdRow w' base v (xs ++ [x]) ∧ GrewBy w w' (.slice ao n cap) v) ∧ Below base w w' := by
  subst hn
  obtain ⟨ao', cap', w1, hrun, hrow, hbl⟩ := nd_append h hb hl hx
  obtain ⟨ao2, cap2, he, hcap, hao⟩ := h.form
  injection he with e1 _ e3
  subst e1 e3
  have HRUN := hid hrun
  have HRES := hid (And.intro hrow hbl)
  have hnn : ((xs.length : Int) == (xs.length : Int)) = true := by simp
  have hcI : (xs.length : Int) ≤ (cap : Int) := by omega
  clear hrun hrow hbl h hx
  by_cases h1 : 1 ≤ xs.length
  · obtain ⟨g, rfl, _, _⟩ := hao h1
    clear hao
    go_enter Tryz.func70, Tryz.ntmps70
    go_wp2_with (at_builtin; refine wpList_append_run rfl (.tmp 23) (.tmp 24) 26 rfl rfl rfl HRUN.out ?_)
    all_goals (go_ret; exact ⟨⟨_, rfl, HRES.out.1, ⟨HRES.out.2.2.keep, HRES.out.2.2.own⟩⟩, HRES.out.2.1⟩)
  · obtain rfl : xs = [] := List.eq_nil_of_length_eq_zero (by omega)
    clear hao
    go_enter Tryz.func70, Tryz.ntmps70
    go_wp2_with (at_builtin; refine wpList_append_run rfl (.tmp 23) (.tmp 24) 26 rfl rfl rfl HRUN.out ?_)
    all_goals (go_ret; exact ⟨⟨_, rfl, HRES.out.1, ⟨HRES.out.2.2.keep, HRES.out.2.2.own⟩⟩, HRES.out.2.1⟩)
end Go.Proofs.YtkdnkmheidbfdaaGreat

namespace Go.Proofs.YtkdnkmheidbfdaaGreat
open Go.RowKit Go.Shelf Go.Sort Go.Maps

/-- The function that tells a node's ID. -/
abbrev idV : Value := .func (.func 35) #[] #[]
/-- The first node behind an ID. -/
def idxG (z : Int) : List NR → Nat → Int
  | [], _ => -1
  | y :: l, k => if z < y.id then (k : Int) else idxG z l (k + 1)
theorem idxG_at {z : Int} {ns : List NR} {k : Nat} {y : NR} (h : ns[k]? = some y) : idxG z (ns.drop k) k = if z < y.id then (k : Int) else idxG z (ns.drop (k + 1)) (k + 1) := by
  obtain ⟨hk, e⟩ := List.getElem?_eq_some_iff.1 h
  rw [List.drop_eq_getElem_cons hk, e]
  rfl
theorem idxG_end {z : Int} : ∀ (ns : List NR) (k : Nat), (∀ y ∈ ns, y.id ≤ z) → idxG z ns k = -1
  | [], _, _ => rfl
  | y :: l, k, h => by
    have := h y List.mem_cons_self
    rw [idxG, if_neg (by omega)]
    exact idxG_end l (k + 1) fun x hx => h x (List.mem_cons_of_mem _ hx)

set_option maxRecDepth 100000 in
set_option maxHeartbeats 1600000 in
theorem ins1_any (y x : NR) {gf gx : Nat} {w : World} (hf : w.cell? ⟨gf, 0, none⟩ = some idV) (hx : NAt w gx 0 x) :
    Calls Tryz.prog 69 #[nrV y, .pointer (some ⟨gf, 0, none⟩), .pointer (some ⟨gx, 0, none⟩)] w fun e w' => e = .returned (.bool (decide (x.id < y.id))) ∧ Below w.heap.size w w' := by
  obtain ⟨wA, hwA⟩ : ∃ wA, w.alloc (nrO y) = wA := ⟨_, rfl⟩
  have hbA : Below w.heap.size w wA := by rw [← hwA]; exact (Below.refl _ w).alloc (Nat.le_refl _) _
  have hA := nr_cells (show wA.heap[w.heap.size]? = some (nrO y) by rw [← hwA]; exact World.alloc_heap_new w _)
  have hf' := cell_below hf hbA (lt_of_cell hf)
  have hX := hx.below hbA (lt_of_cell hx.1)
  have k0 := cell_regrown hf'
  have k1 := cell_regrown hA.1
  have k2 := cell_regrown hA.2.1
  have k3 := cell_regrown hA.2.2.1
  have k4 := cell_regrown hA.2.2.2
  have k5 := cell_regrown hX.1
  have k6 := cell_regrown hX.2.1
  have k7 := cell_regrown hX.2.2.1
  have k8 := cell_regrown hX.2.2.2
  have cy := fun d os => nodeID_any y (grow (redrawn wA d) os)
  have cx := fun d os => nodeID_any x (grow (redrawn wA d) os)
  have HB := hid hbA
  simp only [Nat.zero_add] at k6 k7 k8 k2 k3 k4
  clear hbA hA hf' hX hf hx
  go_enter Tryz.func69, Tryz.ntmps69
  go_wp2
  refine wp_region_quiet_below (by kernel_rfl) (by kernel_rfl) ?_
  go_big_quiet_step (fail)
  go_big_quiet_step (fail)
  go_big_quiet_step (exact Calls.regrown_of (cy _ _))
  go_big_quiet_step (fail)
  go_big_quiet_step (fail)
  go_big_quiet_step (exact Calls.regrown_of (cx _ _))
  go_big_quiet_step (fail)
  go_big_quiet_step (fail)
  refine wpQuiet_nil ?_
  intro W hW'
  obtain ⟨⟨dq, osq⟩, hW⟩ := hW'
  have HBW := hid (HB.out.trans ((show Below wA.heap.size wA W by rw [hW]; exact below_regrown _ _ _).mono HB.out.size))
  clear hW k0 k1 k2 k3 k4 k5 k6 k7 k8 cx cy
  go_wp2
  go_ret
  exact ⟨rfl, HBW.out⟩

set_option maxRecDepth 100000 in
set_option maxHeartbeats 1600000 in
theorem indexG_any {w : World} {b off n cap : Nat} {ao : Option Addr} {ns : List NR} (h : NdE w b off n ao ns) {x : NR} {gf gx : Nat} (hf : w.cell? ⟨gf, 0, none⟩ = some idV) (hx : NAt w gx 0 x) :
    Calls Tryz.prog 43 #[.slice ao n cap, .func (.func 69) #[] #[.pointer (some ⟨gf, 0, none⟩), .pointer (some ⟨gx, 0, none⟩)]] w fun e w' => e = .returned (.int .i64 (idxG x.id ns 0)) ∧ Below w.heap.size w w' := by
  have HE := hid h
  have HI := hid (And.intro hf hx)
  have hfew := h.few
  clear h hf hx
  go_enter Tryz.func43, Tryz.ntmps43
  go_wp2
  go_loopw [5, 8] (fun _ iv wr => ∃ k : Nat, k ≤ n ∧ iv = .int .i64 (k : Int) ∧ idxG x.id ns 0 = idxG x.id (ns.drop k) k ∧ Below w.heap.size w wr) (fun _ iv _ => n - (intOf iv).toNat)
  case atStart => exact ⟨0, Nat.zero_le _, rfl, by rw [List.drop_zero], Below.refl _ _⟩
  case round =>
    obtain ⟨k, hk, rfl, hix, hbr⟩ := hrel
    have HBR := hid hbr
    by_cases hlt : k < n
    · have hltI : (k : Int) < (n : Int) := by omega
      obtain ⟨y, hy⟩ : ∃ y, ns[k]? = some y := ⟨ns[k]'(by have := HE.out.len; omega), by rw [List.getElem?_eq_getElem]⟩
      obtain rfl := HE.out.at' (by omega)
      have hy0 := HE.out.cells k y hy
      obtain ⟨a0, a1, a2, a3⟩ := hy0.below hbr (lt_of_cell hy0.1)
      rw [idxG_at hy] at hix
      have HC := hid (ins1_any y x (cell_below HI.out.1 hbr (lt_of_cell HI.out.1)) (HI.out.2.below hbr (lt_of_cell HI.out.2.1)))
      clear hy hy0 hbr
      by_cases ha : x.id < y.id
      · rw [if_pos ha] at hix
        rw [decide_eq_true ha] at HC
        have HX := hid hix
        clear hix ha
        go_wp2_with (go_at_call 69; refine HC.out.mono ?_; rintro e w1 ⟨rfl, hb1⟩; have HB1 := hid (HBR.out.trans (hb1.mono HBR.out.size)); clear hb1 HC)
        go_ret
        rw [HX.out]; exact ⟨rfl, HB1.out⟩
      · rw [if_neg ha] at hix
        rw [decide_eq_false ha] at HC
        have HX := hid hix
        clear hix ha
        go_wp2_with (go_at_call 69; refine HC.out.mono ?_; rintro e w1 ⟨rfl, hb1⟩; have HB1 := hid (HBR.out.trans (hb1.mono HBR.out.size)); clear hb1 HC)
        go_roundw
        case rel => exact ⟨k + 1, by omega, by go_num, HX.out, HB1.out⟩
        case measure => simp [intOf]; omega
    · have hltI : ¬ (k : Int) < (n : Int) := by omega
      have HX := hid (show idxG x.id ns 0 = -1 by rw [hix, List.drop_of_length_le (by have := HE.out.len; omega)]; rfl)
      clear hix hbr
      go_wp2
      go_ret
      rw [HX.out]; exact ⟨rfl, HBR.out⟩

set_option maxRecDepth 100000 in
set_option maxHeartbeats 1600000 in
theorem insertN_any {w : World} {base n cap : Nat} {ao : Option Addr} {xs : List NR} (h : NdRow w base (.slice ao n cap) xs) (hn : xs.length = n) (hb : base ≤ w.heap.size) (hl : n ≤ 1000) (x : NR) (hx : ∀ y ∈ xs, y.id ≤ x.id) :
    Calls Tryz.prog 36 #[.slice ao n cap, nrV x, idV] w fun e w' => (∃ v, e = .returned v ∧ NdRow w' base v (xs ++ [x]) ∧ GrewBy w w' (.slice ao n cap) v) ∧ Below base w w' := by
  subst hn
  obtain ⟨wA, hwA⟩ : ∃ wA, w.alloc (nrO x) = wA := ⟨_, rfl⟩
  have hbA : Below w.heap.size w wA := by rw [← hwA]; exact (Below.refl _ w).alloc (Nat.le_refl _) _
  have hhA : wA.heap[w.heap.size]? = some (nrO x) := by rw [← hwA]; exact World.alloc_heap_new w _
  obtain ⟨wB, hwB⟩ : ∃ wB, wA.alloc (.cells #[idV] 75) = wB := ⟨_, rfl⟩
  have hbB : Below wA.heap.size wA wB := by rw [← hwB]; exact (Below.refl _ wA).alloc (Nat.le_refl _) _
  have hhB : wB.heap[wA.heap.size]? = some (.cells #[idV] 75 (0, 0)) := by rw [← hwB]; exact World.alloc_heap_new wA _
  have hb2 : Below w.heap.size w wB := hbA.trans (hbB.mono hbA.size)
  have hf : wB.cell? ⟨wA.heap.size, 0, none⟩ = some idV := by simp [World.cell?, hhB]
  have hX := nr_cells ((hbB.block _ (lt_of_heap hhA)).trans hhA)
  have hrow := h.below hb2
  obtain ⟨g, ao2, cap2, he, hd⟩ := hrow.nde hl
  injection he with e1 _ e3
  subst e1 e3
  have HIX := hid (indexG_any (cap := cap) hd hf hX)
  rw [idxG_end xs 0 hx] at HIX
  have HR := hid (And.intro hrow (And.intro hb2 hb))
  have HX := hid hX
  have HINS := hid (fun (W : World) (gv : Nat) (hW : Below wB.heap.size wB W) (hv : W.heap[gv]? = some (nrO x)) => insertEnd_any (hrow.below hW) rfl (Nat.le_trans hb (Nat.le_trans hb2.size hW.size)) hl hv)
  clear hbA hhA hbB hhB hf hX hrow hd h hx hb2
  go_enter Tryz.func36, Tryz.ntmps36
  go_wp2_with (first
    | (go_at_call 43; refine HIX.out.mono ?_; rintro e w1 ⟨rfl, hb1⟩; obtain ⟨x0, x1, x2, x3⟩ := HX.out.below hb1 (lt_of_cell HX.out.1); simp only [Nat.zero_add] at x1 x2 x3; have H1 := hid hb1; clear HIX hb1)
    | (go_at_call 70; generalize hV : World.alloc _ _ = V; have hbV : Below wB.heap.size wB V := (by rw [← hV]; exact H1.out.alloc H1.out.size _); have hvV : V.heap[w1.heap.size]? = some (nrO x) := (by rw [← hV]; exact World.alloc_heap_new w1 _); refine (HINS.out V w1.heap.size hbV hvV).mono ?_; rintro e w2 ⟨⟨v, rfl, hv, hk2⟩, hb2⟩; have H2 := hid (And.intro hv (And.intro ((HR.out.2.1.mono HR.out.2.2).trans ((hbV.mono (Nat.le_trans HR.out.2.2 HR.out.2.1.size)).trans hb2)) (show GrewBy w w2 (.slice ao xs.length cap) v from ⟨fun k hk hne => (hk2.keep k (Nat.lt_of_lt_of_le hk (Nat.le_trans HR.out.2.1.size hbV.size)) hne).trans ((hbV.block k (Nat.lt_of_lt_of_le hk HR.out.2.1.size)).trans (HR.out.2.1.block k hk)), fun k hk => (hk2.own k hk).imp (fun q => q) (fun q => Nat.le_trans (Nat.le_trans HR.out.2.1.size hbV.size) q)⟩))); clear HINS hv hb2 hk2 hV hbV hvV))
  go_ret
  exact ⟨⟨_, rfl, H2.out.1, H2.out.2.2⟩, H2.out.2.1⟩
end Go.Proofs.YtkdnkmheidbfdaaGreat
