/-
  Layer 14: plan's round: the ways of a node in order.
-/
import Derived.Test.YtkdnkmheidbfdaaGreatMH
import Derived.Test.YtkdnkmheidbfdaaGreatMI
import Derived.Test.YtkdnkmheidbfdaaGreatTSortT
namespace Go.Proofs.YtkdnkmheidbfdaaGreat
open Go.RowKit Go.Shelf Go.Sort

set_option maxRecDepth 100000 in
set_option maxHeartbeats 1600000 in
theorem sortedL_any (Bx b n cap : Nat) (ao : Option Addr) (ys : List LdT) (hn : ys.length = n) (hl : n ≤ 1000) (hao : 1 ≤ n → ao = some ⟨b, 0, none⟩) (w : World) (hbB : b < w.heap.size) (hx : w.cell? ⟨Bx, 0, none⟩ = some (.slice ao n cap)) (hc : LAts w b ys) (hnd : (ys.map (·.1)).Nodup) :
    Calls Tryz.prog 167 #[.func (.func 186) #[] #[.pointer (some ⟨Bx, 0, none⟩)], .func (.func 169) #[] #[]] w fun e w' => ∃ v, e = .returned v ∧ LRow w' w.heap.size v (wayS ys) ∧ Below w.heap.size w w' := by
  have HC := hid (collectL_any Bx b n cap ao ys hn hl hao w hbB hx hc)
  have HS := hid (fun (W : World) (v : Value) (hv : LRow W w.heap.size v ys) => sortL_any hv hnd (by omega))
  generalize wayS ys = Z at HS ⊢
  clear hx hc hnd
  go_enter Tryz.func167, Tryz.ntmps167
  go_wp2_with (first
    | (go_at_call 184; refine HC.out.mono ?_; rintro e w1 ⟨v, rfl, hv, hb⟩; obtain ⟨va, vc, hve⟩ := hv.form; rw [hn] at hve; subst hve; have HV := hid hv; have HB := hid hb; clear hv hb HC)
    | (go_at_call 185; refine (HS.out _ _ HV.out).mono ?_; rintro e w2 ⟨rfl, hv2, hb2⟩; have HV2 := hid hv2; have HB2 := hid (HB.out.trans hb2); clear hv2 hb2 HS))
  go_ret
  exact ⟨_, rfl, HV2.out, HB2.out⟩

theorem LRow.ats {w : World} {base : Nat} {v : Value} {L : List LdT} (h : LRow w base v L) : ∃ b ao cap, v = .slice ao L.length cap ∧ (1 ≤ L.length → ao = some ⟨b, 0, none⟩ ∧ base ≤ b ∧ b < w.heap.size) ∧ LAts w b L := by
  rcases h.2 with ⟨rfl, h0⟩ | ⟨g, cap, cur, rfl, h1, h2, h3⟩
  · exact ⟨0, none, 0, by rw [h0], fun hx => by omega, fun k l hk => by have := (List.getElem?_eq_some_iff.1 hk).1; omega⟩
  · have h' : w.ownsRow base 157 4 (.slice (some ⟨g, 0, none⟩) L.length cap) L.length (lCells L) := h
    refine ⟨g, _, cap, rfl, fun _ => ⟨rfl, h1, lt_of_heap h2⟩, fun k l hk => ?_⟩
    have hlt := (List.getElem?_eq_some_iff.1 hk).1
    have key : ∀ r, r < 4 → w.cell? ⟨g, k * 4 + r, none⟩ = (lcs l)[r]? := fun r hr => by
      have := h'.cellAt (k * 4 + r) (by omega)
      rw [lCells_at L k r l hr hk] at this
      exact this
    exact ⟨key 0 (by omega), key 1 (by omega), key 2 (by omega), key 3 (by omega)⟩

theorem LRow.belowB {w w' : World} {base B : Nat} {v : Value} {ls : List LdT} (h : LRow w base v ls) (hb : Below B w w') (hB : ∀ k, v.ownBlock = some k → k < B) : LRow w' base v ls := by
  refine ⟨h.1, ?_⟩
  rcases h.2 with h0 | ⟨g, cap, cur, rfl, h2, h3, h4⟩
  · exact .inl h0
  · exact .inr ⟨g, cap, cur, rfl, h2, (hb.block g (hB g rfl)).trans h3, h4⟩

theorem infoDr : (Tryz.prog.info? 155).map (fun i => (i.zero, i.size, i.bytes)) = some (some (.agg #[.int .i64 0, .int .i64 0]), 2, 16) := by kernel_rfl
theorem dirCells_len (ps : List Pp) : (dirCells ps).length = ps.length * 2 := by
  induction ps with
  | nil => rfl
  | cons p ps ih =>
    have e : dirCells (p :: ps) = .int .i64 p.1 :: .int .i64 p.2 :: dirCells ps := rfl
    rw [e]
    simp [ih]
    omega
theorem dirCells_set : ∀ (ps : List Pp) (j : Nat) (p : Pp), dirCells (ps.set j p) = ((dirCells ps).set (j * 2) (.int .i64 p.1)).set (j * 2 + 1) (.int .i64 p.2)
  | [], j, p => by simp [dirCells]
  | q :: ps, 0, p => by simp [dirCells]
  | q :: ps, j + 1, p => by
    have h := dirCells_set ps j p
    have e : ∀ (r : Pp) (rs : List Pp), dirCells (r :: rs) = .int .i64 r.1 :: .int .i64 r.2 :: dirCells rs := fun _ _ => rfl
    rw [List.set_cons_succ, e, e, h, show (j + 1) * 2 = j * 2 + 1 + 1 by omega, List.set_cons_succ, List.set_cons_succ, List.set_cons_succ, List.set_cons_succ]
theorem dirs_noughts (n : Nat) : (madeCells #[Value.int .i64 0, .int .i64 0] (n * 2)).toList = dirCells (List.replicate n (0, 0)) := by
  refine List.ext_getElem? fun i => ?_
  by_cases h : i < n * 2
  · have h1 : (List.replicate n ((0, 0) : Pp))[i / 2]? = some (0, 0) := by
      rw [List.getElem?_replicate, if_pos (by omega)]
    obtain ⟨c0, c1⟩ := dirCells_at _ (i / 2) _ h1
    have e : (madeCells #[Value.int .i64 0, .int .i64 0] (n * 2)).toList[i]? = some (.int .i64 0) := by
      simp only [madeCells, Array.getElem?_toList]
      simp [h]
      rcases (show i % 2 = 0 ∨ i % 2 = 1 by omega) with q | q <;> rw [q] <;> rfl
    rw [e]
    rcases (show i / 2 * 2 = i ∨ i / 2 * 2 + 1 = i by omega) with q | q
    · rw [q] at c0
      exact c0.symm
    · rw [q] at c1
      exact c1.symm
  · rw [List.getElem?_eq_none (by simp [madeCells]; omega), List.getElem?_eq_none (by rw [dirCells_len]; simp; omega)]
theorem DRow.put {t : TypeId} {w : World} {base g n cap : Nat} {ps : List Pp} (h : DRow t w base (.slice (some ⟨g, 0, none⟩) n cap) ps) (hn : ps.length = n) (j : Nat) (p : Pp) :
    DRow t ((w.setCell ⟨g, j * 2, none⟩ (.int .i64 p.1)).setCell ⟨g, j * 2 + 1, none⟩ (.int .i64 p.2)) base (.slice (some ⟨g, 0, none⟩) n cap) (ps.set j p) := by
  subst hn
  have h' : w.ownsRow base t 2 (.slice (some ⟨g, 0, none⟩) ps.length cap) ps.length (dirCells ps) := h
  have h2 := (h'.stored (j * 2) (.int .i64 p.1)).1
  have h3 := (h2.stored (j * 2 + 1) (.int .i64 p.2)).1
  unfold DRow
  rw [List.length_set, dirCells_set]
  exact h3
theorem DRow.frz {t : TypeId} {w : World} {base g n cap : Nat} {ps : List Pp} (h : DRow t w base (.slice (some ⟨g, 0, none⟩) n cap) ps) (hn : ps.length = n) (j : Nat) : w.frozen? ⟨g, j, none⟩ = false := by
  subst hn
  have h' : w.ownsRow base t 2 (.slice (some ⟨g, 0, none⟩) ps.length cap) ps.length (dirCells ps) := h
  exact h'.frozenAt j
theorem DRow.cells {t : TypeId} {w : World} {base g n cap : Nat} {ps : List Pp} (h : DRow t w base (.slice (some ⟨g, 0, none⟩) n cap) ps) (hn : ps.length = n) {j : Nat} {p : Pp} (hj : ps[j]? = some p) : w.cell? ⟨g, j * 2, none⟩ = some (.int .i64 p.1) ∧ w.cell? ⟨g, j * 2 + 1, none⟩ = some (.int .i64 p.2) := by
  subst hn
  have h' : w.ownsRow base t 2 (.slice (some ⟨g, 0, none⟩) ps.length cap) ps.length (dirCells ps) := h
  have hlt := (List.getElem?_eq_some_iff.1 hj).1
  obtain ⟨c0, c1⟩ := dirCells_at ps j p hj
  exact ⟨(h'.cellAt (j * 2) (by omega)).trans c0, (h'.cellAt (j * 2 + 1) (by omega)).trans c1⟩
theorem make_dirs (n : Nat) (hn : n ≤ 1000) : ∃ C, ∀ w : World, (Instr.makeSlice 210 (.int .i64 (n : Int)) (.int .i64 (n : Int))).run Tryz.prog w = .ok (.slice (some ⟨w.heap.size, 0, none⟩) n n) (w.alloc (.cells C 155)) ∧
    DRow 155 (w.alloc (.cells C 155)) w.heap.size (.slice (some ⟨w.heap.size, 0, none⟩) n n) (List.replicate n (0, 0)) := by
  obtain ⟨i0, hi, hz0, hz1, hz2⟩ := info_parts infoDr
  refine ⟨madeCells #[.int .i64 0, .int .i64 0] (n * 2), fun w => ⟨?_, by rw [dirCells_len], .inr ⟨w.heap.size, n, madeCells #[.int .i64 0, .int .i64 0] (n * 2), by simp, Nat.le_refl _, by unfold World.alloc; simp, by simp, by unfold maxLen; omega, by rw [size_madeCells], ?_⟩⟩⟩
  · have := run_make (P := Tryz.prog) w 210 155 i0 _ Tryz.underlying210 hi hz0 .i64 .i64 n n (by omega) (by omega) (by rw [hz2]; omega) (by omega)
    rw [hz1] at this
    rw [this]
    simp [Value.cells]
  · rw [List.length_replicate, dirs_noughts, List.take_of_length_le (by rw [dirCells_len]; simp)]

/-- The first k directions of a row of leads, then noughts. -/
def dirK (M : List LdT) (k : Nat) : List Pp := (List.range M.length).map fun i => if i < k then (ldAt M i).2.2 else (0, 0)
theorem dirK_len (M : List LdT) (k : Nat) : (dirK M k).length = M.length := by unfold dirK; simp
theorem dirK_zero (M : List LdT) : dirK M 0 = List.replicate M.length (0, 0) := by
  refine List.ext_getElem? fun i => ?_
  unfold dirK
  rw [List.getElem?_map, List.getElem?_replicate]
  by_cases h : i < M.length
  · rw [List.getElem?_range h, if_pos h]
    simp
  · rw [List.getElem?_eq_none (by simp; omega), if_neg h]
    rfl
theorem dirK_all (M : List LdT) : dirK M M.length = M.map (·.2.2) := by
  refine List.ext_getElem? fun i => ?_
  unfold dirK
  rw [List.getElem?_map, List.getElem?_map]
  by_cases h : i < M.length
  · rw [List.getElem?_range h, List.getElem?_eq_getElem h]
    simp [h, ldAt, List.getD_eq_getElem?_getD]
  · rw [List.getElem?_eq_none (by simp; omega), List.getElem?_eq_none (by omega)]
    rfl
theorem dirK_set (M : List LdT) {k : Nat} {l : LdT} (h : M[k]? = some l) : (dirK M k).set k l.2.2 = dirK M (k + 1) := by
  obtain ⟨hk, hkl⟩ := List.getElem?_eq_some_iff.1 h
  refine List.ext_getElem? fun i => ?_
  rw [List.getElem?_set]
  unfold dirK
  rw [List.getElem?_map, List.getElem?_map, List.length_map, List.length_range]
  by_cases hi : i < M.length
  · rw [List.getElem?_range hi]
    by_cases e : k = i
    · subst e
      simp [hk, ldAt, List.getD_eq_getElem?_getD, hkl]
    · rw [if_neg e]
      simp only [Option.map_some, Option.some.injEq]
      by_cases h1 : i < k
      · rw [if_pos h1, if_pos (by omega)]
      · rw [if_neg h1, if_neg (by omega)]
  · rw [List.getElem?_eq_none (by simp; omega), if_neg (by omega)]
    rfl
theorem dirK_at (M : List LdT) {k : Nat} (h : k < M.length) : (dirK M k)[k]? = some (0, 0) := by
  unfold dirK
  rw [List.getElem?_map, List.getElem?_range h]
  simp

/-- What the ways of a node, told one by one, rest on. -/
structure RdM (w : World) (Bo R b bo oo n cap cap' : Nat) (ao ao' : Option Addr) (M : List LdT) : Prop where
  len : M.length = n
  few : n ≤ 60
  obox : w.cell? ⟨Bo, 0, none⟩ = some (.slice ao' n cap')
  lbox : w.cell? ⟨R, 0, none⟩ = some (.slice ao n cap)
  at1 : 1 ≤ n → ao = some ⟨b, 0, Option.none⟩
  at2 : 1 ≤ n → ao' = some ⟨bo, oo, Option.none⟩
  lds : LAts w b M
  ord : ∀ (k z : Nat), (sortD (M.map (·.2.2)))[k]? = some z → w.cell? ⟨bo, oo + k, none⟩ = some (.int .i64 (z : Int))
/-- What a round keeps of it. -/
structure Kr (Bo R b bo : Nat) (W W' : World) : Prop where
  size : W.heap.size ≤ W'.heap.size
  k1 : W'.heap[Bo]? = W.heap[Bo]?
  k2 : W'.heap[R]? = W.heap[R]?
  k3 : W'.heap[b]? = W.heap[b]?
  k4 : W'.heap[bo]? = W.heap[bo]?
theorem Kr.trans {Bo R b bo : Nat} {A B C : World} (h : Kr Bo R b bo A B) (k : Kr Bo R b bo B C) : Kr Bo R b bo A C := ⟨Nat.le_trans h.size k.size, k.k1.trans h.k1, k.k2.trans h.k2, k.k3.trans h.k3, k.k4.trans h.k4⟩
theorem Kr.below {Bo R b bo B : Nat} {W W' : World} (h : Below B W W') (_hB : B ≤ W.heap.size) (h1 : Bo < B) (h2 : R < B) (h3 : b < B) (h4 : bo < B) : Kr Bo R b bo W W' := ⟨by have := h.size; omega, h.block _ h1, h.block _ h2, h.block _ h3, h.block _ h4⟩
theorem cellSame {W W' : World} {b : Nat} (i : Nat) (h : W'.heap[b]? = W.heap[b]?) : W'.cell? ⟨b, i, none⟩ = W.cell? ⟨b, i, none⟩ := by
  unfold World.cell?
  simp [h]
theorem RdM.kr {w w' : World} {Bo R b bo oo n cap cap' : Nat} {ao ao' : Option Addr} {M : List LdT} (h : RdM w Bo R b bo oo n cap cap' ao ao' M) (hk : Kr Bo R b bo w w') : RdM w' Bo R b bo oo n cap cap' ao ao' M :=
  ⟨h.len, h.few, (cellSame _ hk.k1).trans h.obox, (cellSame _ hk.k2).trans h.lbox, h.at1, h.at2, fun k l hl => by
    obtain ⟨a0, a1, a2, a3⟩ := h.lds k l hl
    exact ⟨(cellSame _ hk.k3).trans a0, (cellSame _ hk.k3).trans a1, (cellSame _ hk.k3).trans a2, (cellSame _ hk.k3).trans a3⟩, fun k z hz => (cellSame _ hk.k4).trans (h.ord k z hz)⟩

set_option maxRecDepth 100000 in
set_option maxHeartbeats 6400000 in
theorem round_any {w : World} {base : Nat} {v : Value} {L : List LdT} (h : LRow w base v L) (hnd : (L.map (·.1)).Nodup) (hl : L.length ≤ 60) :
    Calls Tryz.prog 142 #[v] w fun e w' => ∃ Bo R b bo oo cap cap' ao ao', e = .returned (.func (.func 171) #[] #[.pointer (some ⟨Bo, 0, none⟩), .pointer (some ⟨R, 0, none⟩)]) ∧ RdM w' Bo R b bo oo L.length cap cap' ao ao' (wayS L) ∧ (w.heap.size ≤ Bo ∧ Bo < w'.heap.size) ∧ (w.heap.size ≤ R ∧ R < w'.heap.size) ∧ (w.heap.size ≤ b ∧ b < w'.heap.size) ∧ (w.heap.size ≤ bo ∧ bo < w'.heap.size) ∧ Below w.heap.size w w' := by
  obtain ⟨b0, ao0, cap0, rfl, hat0, hc0⟩ := h.ats
  obtain ⟨n, hn⟩ : ∃ n, L.length = n := ⟨_, rfl⟩
  rw [hn] at hat0 ⊢
  obtain ⟨wA, hwA⟩ : ∃ wA, w.alloc (.cells #[.slice ao0 n cap0] 141) = wA := ⟨_, rfl⟩
  have sA : wA.heap.size = w.heap.size + 1 := by rw [← hwA]; simp
  have hbA : Below w.heap.size w wA := by rw [← hwA]; exact (Below.refl _ w).alloc (Nat.le_refl _) _
  have hxA : Boxed wA w.heap.size 141 (.slice ao0 n cap0) := by rw [← hwA]; exact Boxed.new w _ _
  have HV := hid (values_any ao0 n cap0 wA)
  rw [sA] at HV
  have HS := hid (show ∀ W : World, W.heap[w.heap.size + 1]? = some (.cells #[.slice ao0 n cap0] 141) → Below (w.heap.size + 1) wA W → Calls Tryz.prog 167 #[.func (.func 186) #[] #[.pointer (some ⟨w.heap.size + 1, 0, none⟩)], .func (.func 169) #[] #[]] W fun e w' => ∃ v, e = .returned v ∧ LRow w' W.heap.size v (wayS L) ∧ Below W.heap.size W w' from fun W hW hb => by
    have hcell : W.cell? ⟨w.heap.size + 1, 0, none⟩ = some (.slice ao0 n cap0) := by simp [World.cell?, hW]
    by_cases h1 : 1 ≤ n
    · obtain ⟨e1, _, e3⟩ := hat0 h1
      exact sortedL_any _ b0 n cap0 ao0 L hn (by omega) (fun _ => e1) W (by have := hb.size; omega) hcell ((hc0.below hbA (by omega)).below hb (by omega)) hnd
    · obtain rfl : L = [] := List.eq_nil_of_length_eq_zero (by omega)
      exact sortedL_any _ (w.heap.size + 1) n cap0 ao0 [] hn (by omega) (fun hx => absurd hx h1) W (lt_of_heap hW) hcell (fun k l hk => by cases hk) hnd)
  have hMl : (wayS L).length = n := by rw [wayS_len, hn]
  generalize wayS L = M at HS hMl ⊢
  obtain ⟨C, hmkD⟩ := make_dirs n (by omega)
  have hmk := fun wx => (hmkD wx).1
  have HMD := hid (fun wx => (hmkD wx).2)
  clear hmkD
  have HBA := hid hbA
  have HXA := hid hxA
  have hcA := hxA.cell
  have HNL := hid (And.intro hMl (show n ≤ 60 by omega))
  clear hat0 hc0 h hnd hl hbA hxA hMl hn
  go_enter Tryz.func142, Tryz.ntmps142
  go_wp2_with (first
    | (go_at_call 168; refine HV.out.mono ?_; rintro e w1 ⟨rfl, hh1, hs1, hb1⟩; have HW1 := hid (And.intro hs1 hb1); have HS1 := hid (HS.out w1 hh1 hb1); clear HV HS hh1 hs1 hb1)
    | (go_at_call 167; refine HS1.out.mono ?_; rintro e w2 ⟨v2, rfl, hv2, hb2⟩; obtain ⟨va, vc, hve⟩ := hv2.form; subst hve; have hm2 := HNL.out.1; rw [hm2] at hv2 ⊢; have HX2 := hid (show Boxed w2 w.heap.size 141 (.slice ao0 n cap0) from (hb2.block _ (by have := HW1.out.1; omega)).trans ((HW1.out.2.block _ (by omega)).trans HXA.out)); have c2 := HX2.out.cell; have f2 := HX2.out.frozen; have c3 := (HX2.out.set (.slice va n vc)).cell; have c4 := fun o => ((HX2.out.set (.slice va n vc)).alloc o).cell; have HV2 := hid (And.intro hv2 hb2); clear HS1 hv2 hb2 hm2 hcA))
  have HDR := hid (HMD.out (w2.setCell ⟨w.heap.size, 0, none⟩ (.slice va n vc)))
  rw [World.size_setCell] at HDR
  have sW2 : w.heap.size + 2 ≤ w2.heap.size := by
    have q1 := HW1.out.1
    have q2 := HV2.out.2.size
    omega
  obtain ⟨W3, hW3⟩ : ∃ W3, (w2.setCell ⟨w.heap.size, 0, none⟩ (.slice va n vc)).alloc (.cells C 155) = W3 := ⟨_, rfl⟩
  obtain ⟨g, hg⟩ : ∃ g, w2.heap.size = g := ⟨_, rfl⟩
  have hb23 : Below g (w2.setCell ⟨w.heap.size, 0, none⟩ (.slice va n vc)) W3 := by rw [← hW3, ← hg]; exact (Below.refl _ _).alloc (by simp) _
  have hbw3 : Below w.heap.size w W3 := by
    have q1 := HBA.out.trans ((HW1.out.2.mono (Nat.le_succ _)))
    have q2 := q1.trans (HV2.out.2.mono (by have := HW1.out.1; omega))
    have q3 := q2.trans ((Below.refl _ w2).setCell (p := ⟨w.heap.size, 0, none⟩) (Nat.le_refl _) (.slice va n vc))
    exact q3.trans (hb23.mono (by omega))
  have hLR3 : LRow W3 w1.heap.size (.slice va n vc) M := by
    have q1 : LRow (w2.setCell ⟨w.heap.size, 0, none⟩ (.slice va n vc)) w1.heap.size (.slice va n vc) M := by
      have q := HV2.out.1
      refine ⟨q.1, ?_⟩
      rcases q.2 with h0 | ⟨g', cap', cur, h1, h2, h3, h4⟩
      · exact .inl h0
      · exact .inr ⟨g', cap', cur, h1, h2, ((grownBy_setCell' w2 w.heap.size _).block g' (lt_of_heap h3) (fun e => by injection e with e; have := HW1.out.1; omega)).trans h3, h4⟩
    rw [← hW3]
    exact q1.below ((Below.refl _ _).alloc (Nat.le_refl _) _)
  have hbx3 : Boxed W3 w.heap.size 141 (.slice va n vc) := by rw [← hW3]; exact (HX2.out.set (.slice va n vc)).alloc _
  have hDR3 : DRow 155 W3 g (.slice (some ⟨g, 0, none⟩) n n) (dirK M 0) := by
    rw [dirK_zero, HNL.out.1, ← hW3, ← hg]
    exact HDR.out
  rw [hW3, hg]
  have HI3 := hid (And.intro hLR3 (And.intro hbx3 (And.intro hbw3 (And.intro (show g < W3.heap.size by rw [← hW3, ← hg]; simp) (show ∀ k, (Value.slice va n vc).ownBlock = some k → k < g from fun k hk => by rw [← hg]; exact (HV2.out.1.lt hk).1)))))
  have HD3 := hid hDR3
  have hgw : w.heap.size + 2 ≤ g := by omega
  have hgw1 : w1.heap.size ≤ g := by have := HV2.out.2.size; omega
  clear hW3 hg hb23 hDR3 hLR3 hbx3 hbw3 HDR HX2 c2 f2 c3 c4 HV2 sW2 HMD hmk
  go_loopw [4, 14] (fun _ iv wr => ∃ i : Nat, i ≤ n ∧ iv = .int .i64 (i : Int) ∧ DRow 155 wr g (.slice (some ⟨g, 0, none⟩) n n) (dirK M i) ∧ Below g W3 wr) (fun _ iv _ => n - (intOf iv).toNat)
  case atStart => exact ⟨0, Nat.zero_le _, rfl, HD3.out, Below.refl _ _⟩
  case round =>
    obtain ⟨i, hi, rfl, hD, hb3⟩ := hrel
    have hL : LRow wr w1.heap.size (.slice va n vc) M := HI3.out.1.belowB hb3 HI3.out.2.2.2.2
    have hB : Boxed wr w.heap.size 141 (.slice va n vc) := (hb3.block _ (by omega)).trans HI3.out.2.1
    by_cases hlt : i < n
    · have hltI : (i : Int) < (n : Int) := by omega
      obtain ⟨l, hl⟩ : ∃ l, M[i]? = some l := ⟨_, List.getElem?_eq_getElem (by rw [HNL.out.1]; exact hlt)⟩
      obtain ⟨bl, al, cl, hvl, hal, hats⟩ := hL.ats
      injection hvl with e1 e2 e3
      subst e1 e3
      obtain ⟨ea, eb, ec⟩ := hal (by rw [HNL.out.1]; omega)
      subst ea
      obtain ⟨a0, a1, a2, a3⟩ := hats i l hl
      have cb := hB.cell
      have hdl : (dirK M i).length = n := by rw [dirK_len, HNL.out.1]
      obtain ⟨d0, d1⟩ := hD.cells hdl (dirK_at M (by rw [HNL.out.1]; exact hlt))
      have f0 := hD.frz hdl (i * 2)
      have f1 := hD.frz hdl (i * 2 + 1)
      have hput := hD.put hdl i l.2.2
      rw [dirK_set M hl] at hput
      have hbs : Below g wr ((wr.setCell ⟨g, i * 2, none⟩ (.int .i64 l.2.2.1)).setCell ⟨g, i * 2 + 1, none⟩ (.int .i64 l.2.2.2)) := ((Below.refl _ wr).setCell (p := ⟨g, i * 2, none⟩) (Nat.le_refl _) _).setCell (p := ⟨g, i * 2 + 1, none⟩) (Nat.le_refl _) _
      have HFIN := hid (And.intro hput (hb3.trans hbs))
      obtain ⟨DX, hDX⟩ : ∃ DX, l.2.2.1 = DX := ⟨_, rfl⟩
      obtain ⟨DY, hDY⟩ : ∃ DY, l.2.2.2 = DY := ⟨_, rfl⟩
      rw [hDX] at a2 HFIN
      rw [hDY] at a3 HFIN
      have hn60 := HNL.out.2
      clear hput hbs hD hL hB hats hal hb3 hl hDX hDY a0 a1 hdl
      go_wp2
      go_roundw
      case rel => exact ⟨i + 1, by omega, by go_num, HFIN.out⟩
      case measure => simp [intOf]; omega
    · have hltI : ¬ (i : Int) < (n : Int) := by omega
      obtain rfl : i = n := by omega
      have hall : dirK M i = M.map (·.2.2) := by rw [← HNL.out.1]; exact dirK_all M
      rw [hall] at hD
      have HTS := hid (turnSort_new _ _ wr hD.pts (by rw [List.length_map, HNL.out.1]; exact HNL.out.2))
      have HFIN := hid (And.intro hL (And.intro hB (show Below w.heap.size w wr from HI3.out.2.2.1.trans (hb3.mono (by omega)))))
      have hszr : g < wr.heap.size := Nat.lt_of_lt_of_le HI3.out.2.2.2.1 hb3.size
      clear hD hL hB hb3 hall HD3
      go_wp2_with (first
        | (go_at_call 170; refine HTS.out.mono ?_; rintro e w5 ⟨u, rfl, ⟨ua, uc, hue, hun⟩, hnw, hb5⟩; rw [natsI_length, sortD_length, List.length_map, HNL.out.1] at hue hun; subst hue; have HU := hid (And.intro hun hb5); have HNW := hid hnw; clear HTS hun hb5 hnw))
      go_ret
      obtain ⟨hun, hb5⟩ := HU.out
      obtain ⟨hL, hB, hW⟩ := HFIN.out
      have hL5 := (hL.below hb5)
      obtain ⟨bl, al, cl, hvl, hal, hats⟩ := hL5.ats
      have hbz : ∀ o, Below w5.heap.size w5 (w5.alloc o) := fun o => (Below.refl _ w5).alloc (Nat.le_refl _) o
      have hlen := HNL.out.1
      by_cases h1 : 1 ≤ i
      · obtain ⟨bo, oo, rfl, hco⟩ := hun h1
        injection hvl with e1 e2 e3
        obtain ⟨ea, eb, ec⟩ := hal (by rw [hlen]; exact h1)
        have hb0 : bo < w5.heap.size := by
          obtain ⟨z, hz⟩ : ∃ z, (sortD (M.map (·.2.2)))[0]? = some z := ⟨_, List.getElem?_eq_getElem (by rw [sortD_length, List.length_map, hlen]; omega)⟩
          exact lt_of_cell (hco 0 _ (natsI_at hz))
        have hw5 : w.heap.size ≤ w5.heap.size := Nat.le_trans hW.size hb5.size
        have ebo : wr.heap.size ≤ bo := HNW.out bo rfl
        refine ⟨w5.heap.size, w.heap.size, bl, bo, oo, vc, uc, va, some ⟨bo, oo, none⟩, rfl, ⟨hlen, HNL.out.2, (Boxed.new w5 _ _).cell, cell_below (show Boxed w5 w.heap.size 141 (.slice va i vc) from (hb5.block _ hB.lt).trans hB).cell (hbz _) (Nat.lt_of_lt_of_le hB.lt hb5.size), fun _ => by rw [e1]; exact ea, fun _ => rfl, hats.below (hbz _) ec, fun k z hz => cell_below (hco k _ (natsI_at hz)) (hbz _) hb0⟩, ?_, ?_, ?_, ?_, ?_⟩
        · have := hbz (.cells #[.slice (some ⟨bo, oo, none⟩) i uc] 47)
          exact ⟨hw5, by simp⟩
        · exact ⟨Nat.le_refl _, by simp; exact Nat.lt_succ_of_le (Nat.le_trans (Nat.le_of_lt hB.lt) hb5.size)⟩
        · exact ⟨by have := HW1.out.1; omega, by simp; omega⟩
        · exact ⟨Nat.le_trans hW.size ebo, by simp; omega⟩
        · exact (hW.trans (hb5.mono hW.size)).trans ((hbz _).mono hw5)
      · have hw5 : w.heap.size ≤ w5.heap.size := Nat.le_trans hW.size hb5.size
        refine ⟨w5.heap.size, w.heap.size, w.heap.size, w5.heap.size, 0, vc, uc, va, ua, rfl, ⟨hlen, HNL.out.2, (Boxed.new w5 _ _).cell, cell_below (show Boxed w5 w.heap.size 141 (.slice va i vc) from (hb5.block _ hB.lt).trans hB).cell (hbz _) (Nat.lt_of_lt_of_le hB.lt hb5.size), fun hx => absurd hx h1, fun hx => absurd hx h1, fun k l hk => absurd (List.getElem?_eq_some_iff.1 hk).1 (by rw [hlen]; omega), fun k z hz => absurd (List.getElem?_eq_some_iff.1 hz).1 (by rw [sortD_length, List.length_map, hlen]; omega)⟩, ⟨hw5, by simp⟩, ⟨Nat.le_refl _, by simp; exact Nat.lt_succ_of_le (Nat.le_trans (Nat.le_of_lt hB.lt) hb5.size)⟩, ⟨Nat.le_refl _, by simp; exact Nat.lt_succ_of_le (Nat.le_trans (Nat.le_of_lt hB.lt) hb5.size)⟩, ⟨hw5, by simp⟩, (hW.trans (hb5.mono hW.size)).trans ((hbz _).mono hw5)⟩
end Go.Proofs.YtkdnkmheidbfdaaGreat

namespace Go.Proofs.YtkdnkmheidbfdaaGreat
open Go.RowKit Go.Shelf Go.Sort

attribute [local go_sem] Oper.semAt_some

/-- The leads of a row by its order. -/
def ordG (M : List LdT) : List LdT := (sortD (M.map (·.2.2))).map fun i => M.getD i ld0
theorem ordL_ordG (L : List LdT) : ordL L = ordG (wayS L) := rfl
theorem ordG_len (M : List LdT) : (ordG M).length = M.length := by unfold ordG; rw [List.length_map, sortD_length, List.length_map]
/-- The way ahead of the one at a place. -/
def aheadL (G : List LdT) (k : Nat) : Int := (G.getD ((k + G.length - 1) % G.length) ld0).1
theorem sortD_lt {ps : List Pp} {k z : Nat} (h : (sortD ps)[k]? = some z) : z < ps.length := by
  have hk : k < ps.length := by rw [← sortD_length]; exact (List.getElem?_eq_some_iff.1 h).1
  have h1 := sort_one (ps := ps) (F := srtF ps ps.length) ⟨fun k _ h2 => ⟨Nat.zero_le _, srtF_lt ps _ k h2⟩, srtF_blk ps ps.length⟩
  have h2 := rowF_at (srtF ps ps.length) hk
  rw [h1, natsI_at h] at h2
  injection h2 with h2
  have := srtF_lt ps ps.length k hk
  omega
theorem drewM_kr (w : World) (q Bo R b bo : Nat) : Kr Bo R b bo w (w.drewN q) := ⟨Nat.le_refl _, rfl, rfl, rfl, rfl⟩
theorem grown_drewQ (w : World) (q : Nat) : w.grownBy (w.drewN q) none := ⟨rfl, rfl, rfl, Nat.le_refl _, fun _ _ _ => rfl⟩

set_option maxRecDepth 100000 in
set_option maxHeartbeats 6400000 in
theorem round2_in (m : Nat) (hm : 2 ≤ m) (l Bo R b bo oo n cap cap' : Nat) (ao ao' : Option Addr) (M : List LdT) (J Jx : List (Ln n) → World → Prop) (W : World) (hAb : AbidesFrom W.heap.size J)
    (hY : ∀ pre x W1, J pre W1 → pre.length < n → YieldAt Fence.wide (m - 1) Tryz.prog l #[.int .i64 ((ordG M).getD x.1 ld0).1, .int .i64 (aheadL (ordG M) x.1)] W1 fun e W' =>
      (e = .returned (.bool true) ∧ J (pre ++ [x]) W' ∧ Kr Bo R b bo W1 W') ∨ (e = .returned (.bool false) ∧ Jx (pre ++ [x]) W'))
    (hM : RdM W Bo R b bo oo n cap cap' ao ao' M) (h0 : J [] W) :
    CallsIn Fence.wide m Tryz.prog 171 #[.func (.yield l) #[] #[], .pointer (some ⟨Bo, 0, none⟩), .pointer (some ⟨R, 0, none⟩)] W fun e W' => (∃ v, e = .returned v) ∧
      ((∃ zs, zs.map (·.1) = List.range n ∧ J zs W') ∨ (∃ pre, True ∧ Jx pre W')) := by
  have hfn : ∀ k, Fence.wide.fn k := fun _ => trivial
  have hmx : Tryz.prog.follows .mixedOrders = true := by kernel_rfl
  have HM := hid hM
  have hob := hM.obox
  have hfew := hM.few
  clear hM
  refine callsIn_of_wp Tryz.func171 rfl trivial ?_ rfl
  simp only [Tryz.ntmps171, List.size_toArray, List.length_cons, List.length_nil, Nat.reduceAdd, Nat.reduceSub, Array.replicate_succ, Array.replicate_zero, List.push_toArray, List.append_toArray, List.nil_append, List.cons_append]
  gi_wp2
  gi_loopw [4, 5, 6, 9] (fun _ _ _ i wr => ∃ (k : Nat) (pre : List (Ln n)), k ≤ n ∧ i = .int .i64 k ∧ pre.map (·.1) = List.range k ∧ J pre wr ∧ RdM wr Bo R b bo oo n cap cap' ao ao' M) (fun _ _ _ i _ => n - (intOf i).toNat)
  case atStart => exact ⟨0, [], Nat.zero_le _, rfl, rfl, h0, HM.out⟩
  case round =>
    obtain ⟨k, pre, hk, rfl, hpre, hJs, hMr⟩ := hrel
    by_cases hlt : k < n
    · have hprel : pre.length = k := by
        have := congrArg List.length hpre
        rwa [List.length_map, List.length_range] at this
      have hltI : (k : Int) < (n : Int) := by omega
      obtain rfl := hMr.at1 (by omega)
      obtain rfl := hMr.at2 (by omega)
      have hso : (sortD (M.map (·.2.2))).length = n := by rw [sortD_length, List.length_map, hMr.len]
      obtain ⟨j, hj⟩ : ∃ j : Nat, (k + n - 1) % n = j := ⟨_, rfl⟩
      have hjn : j < n := by rw [← hj]; exact Nat.mod_lt _ (by omega)
      obtain ⟨z, hz⟩ : ∃ z, (sortD (M.map (·.2.2)))[k]? = some z := ⟨_, List.getElem?_eq_getElem (by omega)⟩
      obtain ⟨y, hy'⟩ : ∃ y, (sortD (M.map (·.2.2)))[j]? = some y := ⟨_, List.getElem?_eq_getElem (by omega)⟩
      have hzn : z < n := by have := sortD_lt hz; rwa [List.length_map, hMr.len] at this
      have hyn : y < n := by have := sortD_lt hy'; rwa [List.length_map, hMr.len] at this
      obtain ⟨lz, hlz⟩ : ∃ lz, M[z]? = some lz := ⟨_, List.getElem?_eq_getElem (by rw [hMr.len]; exact hzn)⟩
      obtain ⟨ly, hly⟩ : ∃ ly, M[y]? = some ly := ⟨_, List.getElem?_eq_getElem (by rw [hMr.len]; exact hyn)⟩
      have e1 : ((ordG M).getD k ld0).1 = lz.1 := by
        unfold ordG
        rw [List.getD_eq_getElem?_getD, List.getElem?_map, hz]
        simp [List.getD_eq_getElem?_getD, hlz]
      have e2 : aheadL (ordG M) k = ly.1 := by
        unfold aheadL
        rw [ordG_len, hMr.len, hj]
        unfold ordG
        rw [List.getD_eq_getElem?_getD, List.getElem?_map, hy']
        simp [List.getD_eq_getElem?_getD, hly]
      have HY := hid (fun q => hY pre ⟨k, hlt⟩ (wr.drewN q) (hAb _ _ _ none hJs (grown_drewQ wr q) (fun r hr => by cases hr)) (by omega))
      dsimp only at HY
      rw [e1, e2] at HY
      have c0 := hMr.obox
      have c1 := hMr.lbox
      have d0 := hMr.ord k z hz
      have d1 := hMr.ord j y hy'
      obtain ⟨z0, _, _, _⟩ := hMr.lds z lz hlz
      obtain ⟨y0, _, _, _⟩ := hMr.lds y ly hly
      have hjI : (j : Int) < (n : Int) := by omega
      have hzI : (z : Int) < (n : Int) := by omega
      have hyI : (y : Int) < (n : Int) := by omega
      have hw1 : IntKind.i64.wrap ((k : Int) + (n : Int)) = (k : Int) + (n : Int) := by rw [IntKind.wrap_i64]; omega
      have hw2 : IntKind.i64.wrap ((k : Int) + (n : Int) - 1) = (k : Int) + (n : Int) - 1 := by rw [IntKind.wrap_i64]; omega
      have hn0 : ¬ (n : Int) = 0 := by omega
      have hn0B : ((n : Int) == 0) = false := by simpa using hn0
      have hmod : Int.tmod ((k : Int) + (n : Int) - 1) (n : Int) = (j : Int) := by
        rw [show (k : Int) + (n : Int) - 1 = ((k + n - 1 : Nat) : Int) by omega, ← hj]
        exact (Int.ofNat_tmod _ _).symm
      have HP := hid hpre
      have HMR := hid hMr
      obtain ⟨LZ, hLZ⟩ : ∃ LZ, lz.1 = LZ := ⟨_, rfl⟩
      obtain ⟨LY, hLY⟩ : ∃ LY, ly.1 = LY := ⟨_, rfl⟩
      rw [hLZ] at HY z0
      rw [hLY] at HY y0
      clear hpre hprel hJs hMr hz hy' hlz hly e1 e2 hj hob HM hso hLZ hLY hzn hyn hjn
      gi_wp2
      refine wpIn_region_tail 11 rfl hmx (by kernel_rfl) ?_
      simp only [List.take]
      gi_big_quiet_step (fail)
      gi_big_quiet_step (fail)
      gi_big_quiet_step (fail)
      gi_big_quiet_step (fail)
      gi_big_quiet_step (fail)
      gi_big_quiet_step (fail)
      gi_big_quiet_step (fail)
      gi_big_quiet_step (fail)
      gi_big_quiet_step (fail)
      gi_big_quiet_step (fail)
      gi_big_quiet_step (fail)
      refine wpQuietIn_nil ?_
      intro w' hw'
      obtain ⟨q1, rfl⟩ := hw'
      simp only [List.drop]
      gi_wp2
      refine wpIn_region_tail 11 rfl hmx (by kernel_rfl) ?_
      simp only [List.take]
      gi_big_quiet_step (fail)
      gi_big_quiet_step (fail)
      gi_big_quiet_step (fail)
      gi_big_quiet_step (fail)
      gi_big_quiet_step (fail)
      gi_big_quiet_step (fail)
      gi_big_quiet_step (fail)
      gi_big_quiet_step (fail)
      gi_big_quiet_step (fail)
      gi_big_quiet_step (fail)
      gi_big_quiet_step (fail)
      refine wpQuietIn_nil ?_
      intro w' hw'
      obtain ⟨q2, rfl⟩ := hw'
      obtain ⟨fn, tmps, assign, body, hy, hR⟩ := HY.out (q1 + q2)
      have HR := hid hR
      clear hR HY
      simp only [List.drop]
      gi_wp2
      refine ⟨fun _ => by omega, HR.out.mono ?_⟩
      rintro e W3 (⟨rfl, hJ3, hk3⟩ | ⟨rfl, hJx3⟩)
      · clear hy
        have HM3 := hid (HMR.out.kr ((drewM_kr wr (q1 + q2) Bo R b bo).trans hk3))
        gi_wp2
        go_roundw
        case rel =>
          refine ⟨k + 1, _, by omega, by go_num, ?_, hJ3, HM3.out⟩
          rw [List.map_append, HP.out, List.range_succ]
          rfl
        case measure => simp [intOf]; omega
      · clear hy
        gi_wp2
        refine bodyPost_ret (results_none rfl _ _ _) rfl ?_
        exact ⟨⟨_, rfl⟩, .inr ⟨_, trivial, hJx3⟩⟩
    · obtain rfl : k = n := by omega
      have HF := hid hpre
      clear hpre hMr HM hob
      gi_wp2
      go_end0
      exact ⟨⟨_, rfl⟩, .inl ⟨pre, HF.out, hJs⟩⟩
theorem round2_stops (m : Nat) (hm : 2 ≤ m) (Bo R b bo oo n cap cap' : Nat) (ao ao' : Option Addr) (M : List LdT) (w : World) (hM : RdM w Bo R b bo oo n cap cap' ao ao' M) (h1 : Bo < w.heap.size) (h2 : R < w.heap.size) (h3 : b < w.heap.size) (h4 : bo < w.heap.size) :
    SeqStopsK Fence.wide m Tryz.prog 171 #[.pointer (some ⟨Bo, 0, none⟩), .pointer (some ⟨R, 0, none⟩)] (fun x : Ln n => #[.int .i64 ((ordG M).getD x.1 ld0).1, .int .i64 (aheadL (ordG M) x.1)]) (Kr Bo R b bo) (fun zs => zs.map (·.1) = List.range n) (fun _ => True) n w := fun l J Jx W hW hJ _ hY h0 =>
  round2_in m hm l Bo R b bo oo n cap cap' ao ao' M J Jx W hJ hY (hM.kr (Kr.below hW (Nat.le_refl _) h1 h2 h3 h4)) h0
end Go.Proofs.YtkdnkmheidbfdaaGreat
