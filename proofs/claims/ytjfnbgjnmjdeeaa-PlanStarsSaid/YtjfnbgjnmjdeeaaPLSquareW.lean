/-
  Layer 14: the square of the laws' awake, made.
-/
import Derived.Test.YtjfnbgjnmjdeeaaML
namespace Go.Proofs.Ytjfnbgjnmjdeeaa
open Go.RowKit Go.Shelf Go.Sort

theorem sq_start (w : World) : SqI (w.alloc (.cells #[.slice none 0 0, .slice none 0 0] 30)) (w.heap.size + 1) (w.heap.size + 1 + 1) 0 (.slice none 0 0) (.slice none 0 0) [] (((w.alloc (.cells #[.slice none 0 0, .slice none 0 0] 30)).alloc (.cells #[.slice none 0 0, .slice none 0 0] 30)).alloc (.cells (ptCells sqP).toArray 23)) := by
  obtain ⟨wA, hwA⟩ : ∃ wA, w.alloc (.cells #[.slice none 0 0, .slice none 0 0] 30) = wA := ⟨_, rfl⟩
  obtain ⟨wB, hwB⟩ : ∃ wB, wA.alloc (.cells #[.slice none 0 0, .slice none 0 0] 30) = wB := ⟨_, rfl⟩
  obtain ⟨wC, hwC⟩ : ∃ wC, wB.alloc (.cells (ptCells sqP).toArray 23) = wC := ⟨_, rfl⟩
  have sA : wA.heap.size = w.heap.size + 1 := by rw [← hwA]; simp
  have sB : wB.heap.size = w.heap.size + 1 + 1 := by rw [← hwB]; simp [sA]
  have hbB : Below wA.heap.size wA wB := by rw [← hwB]; exact (Below.refl _ wA).alloc (Nat.le_refl _) _
  have hbC : Below wB.heap.size wB wC := by rw [← hwC]; exact (Below.refl _ wB).alloc (Nat.le_refl _) _
  have h1 : wB.heap[w.heap.size + 1]? = some (.cells #[.slice none 0 0, .slice none 0 0] 30 (0, 0)) := by rw [← hwB, ← sA]; exact World.alloc_heap_new wA _
  have h2 : wC.heap[w.heap.size + 1 + 1]? = some (.cells (ptCells sqP).toArray 23 (0, 0)) := by rw [← hwC, ← sB]; exact World.alloc_heap_new wB _
  rw [hwA, hwB, hwC]
  exact ⟨⟨(hbC.block _ (by omega)).trans h1, ⟨[], World.ownsRow_nil wC wA.heap.size _ 4⟩, World.ownsRow_nil wC wA.heap.size _ 6, fun k x hx => (by cases hx), rfl, fun _ => rfl, hbB.trans (hbC.mono (by omega))⟩, rfl, h2⟩

theorem own_toBase {w : World} {base base' : Nat} {e : TypeId} {s : Nat} {v : Value} {n : Nat} {xs : List Value} (h : w.ownsRow base e s v n xs) (hb : base' ≤ base) : w.ownsRow base' e s v n xs := by
  refine ⟨h.1, ?_⟩
  rcases h.2 with h0 | ⟨g, cap, cur, h1, h2, h3, h4⟩
  · exact .inl h0
  · exact .inr ⟨g, cap, cur, h1, Nat.le_trans hb h2, h3, h4⟩
/-- A plan under way, told from an elder world on, where plans elsewhere have turned. -/
theorem PlB.rebase {w w0 W W' : World} {Bp : Nat} {nv ev : Value} {nn : Nat} {xs : List ER} {ls : List (List Pp)} (h : PlB w Bp nv ev nn xs ls W) (hw : w0.heap.size ≤ w.heap.size) (hbox : W'.heap[Bp]? = W.heap[Bp]?) (hk : ∀ (k : Nat) (c : Array Value) (t : TypeId), W.heap[k]? = some (.cells c t (0, 0)) → t ≠ 30 → W'.heap[k]? = some (.cells c t (0, 0))) (hb : Below w0.heap.size w0 W') : PlB w0 Bp nv ev nn xs ls W' := by
  obtain ⟨cs, hc⟩ := h.nodes
  refine ⟨hbox.trans h.box, ⟨cs, own_toBase (own_keep hc fun k c hk' => (hk k c _ hk' (by decide)).trans hk'.symm) hw⟩, own_toBase (own_keep h.edges fun k c hk' => (hk k c _ hk' (by decide)).trans hk'.symm) hw, fun k x hx => ?_, h.len, h.enil, hb⟩
  obtain ⟨g, l1, l2, l3, l4⟩ := h.lines k x hx
  exact ⟨g, l1, l2, l3, hk _ _ _ l4 (by decide)⟩
theorem sq_key {xs : List ER} (h : xs.map erK = sqC) {i : Nat} {x : ER} (hx : xs[i]? = some x) : x.id = (i : Int) + 1 ∧ i < 4 ∧ 1 ≤ x.st ∧ x.st ≤ 4 ∧ 1 ≤ x.en ∧ x.en ≤ 4 := by
  have q := congrArg (fun l => l[i]?) h
  simp only [List.getElem?_map, hx, Option.map_some] at q
  match i, q with
  | 0, q => simp [sqC, erK] at q; omega
  | 1, q => simp [sqC, erK] at q; omega
  | 2, q => simp [sqC, erK] at q; omega
  | 3, q => simp [sqC, erK] at q; omega
  | i + 4, q => simp [sqC] at q
theorem sq_short (k : Nat) : (sqL.getD k []).length ≤ 1000 := by
  rcases (show k = 0 ∨ k = 1 ∨ k = 2 ∨ k = 3 ∨ 4 ≤ k by omega) with rfl | rfl | rfl | rfl | hk
  · decide
  · decide
  · decide
  · decide
  · rw [List.getD_eq_getElem?_getD, List.getElem?_eq_none (by simpa [sqL] using hk)]; decide
theorem sq_rise {xs : List ER} (h : xs.map erK = sqC) : Rise xs := fun i j x y hij hx hy => by
  have a := (sq_key h hx).1
  have b := (sq_key h hy).1
  omega
theorem sq_at {W : World} {B : Nat} (h : W.heap[B]? = some (.cells (ptCells sqP).toArray 23 (0, 0))) {i : Nat} (hi : i < 4) {x y : Int} (hp : sqP.getD i (0, 0) = (x, y)) : W.cell? ⟨B, i * 2, none⟩ = some (.int .i64 x) ∧ W.cell? ⟨B, i * 2 + 1, none⟩ = some (.int .i64 y) := by
  have hd : sqP[i]? = some (x, y) := by
    rw [List.getD_eq_getElem?_getD, List.getElem?_eq_getElem (show i < sqP.length from hi)] at hp
    rw [List.getElem?_eq_getElem (show i < sqP.length from hi)]
    exact congrArg some hp
  obtain ⟨c0, c1⟩ := ptCells_at _ i _ hd
  simp only [World.cell?, h, Option.isSome_none, Bool.false_eq_true, if_false, List.getElem?_toArray]
  exact ⟨c0, c1⟩
theorem sq_next (i j : Nat) (hi : i < 4) (hj : (i + 1) % 4 = j) (px py qx qy : Int) (hp : sqP.getD i (0, 0) = (px, py)) (hq : sqP.getD j (0, 0) = (qx, qy)) : sqL[i]? = some [(px, py), (qx, qy)] ∧ sqC[i]? = some ((i : Int) + 1, (i : Int) + 1, (j : Int) + 1) := by
  subst hj
  match i, hi with
  | 0, _ => cases hp; cases hq; exact ⟨rfl, rfl⟩
  | 1, _ => cases hp; cases hq; exact ⟨rfl, rfl⟩
  | 2, _ => cases hp; cases hq; exact ⟨rfl, rfl⟩
  | 3, _ => cases hp; cases hq; exact ⟨rfl, rfl⟩

set_option maxRecDepth 100000 in
set_option maxHeartbeats 6400000 in
theorem square_any (w : World) :
    Calls Try.prog 14 #[] w fun e w' => ∃ b ao cap no nl nc xs, e = .returned (plV (.slice no nl nc) (.slice ao 4 cap)) ∧ PlE w' b 0 4 ao xs sqL ∧ xs.map erK = sqC ∧ Below w.heap.size w w' := by
  go_enter Try.func14, Try.ntmps14
  go_wp2
  obtain ⟨W0, hW0⟩ : ∃ W0, ((w.alloc (.cells #[.slice none 0 0, .slice none 0 0] 30)).alloc (.cells #[.slice none 0 0, .slice none 0 0] 30)).alloc (.cells #[.int .i64 0, .int .i64 0, .int .i64 4, .int .i64 0, .int .i64 4, .int .i64 4, .int .i64 0, .int .i64 4] 23) = W0 := ⟨_, rfl⟩
  rw [hW0]
  obtain ⟨wA, hwA⟩ : ∃ wA, w.alloc (.cells #[.slice none 0 0, .slice none 0 0] 30) = wA := ⟨_, rfl⟩
  have sA : wA.heap.size = w.heap.size + 1 := by rw [← hwA]; simp
  have hbA : Below w.heap.size w wA := by rw [← hwA]; exact (Below.refl _ w).alloc (Nat.le_refl _) _
  have hhA : wA.heap[w.heap.size]? = some (.cells #[.slice none 0 0, .slice none 0 0] 30 (0, 0)) := by rw [← hwA]; exact World.alloc_heap_new w _
  have HW0 := hid (show SqI wA (w.heap.size + 1) (w.heap.size + 1 + 1) 0 (.slice none 0 0) (.slice none 0 0) [] W0 by rw [← hW0, ← hwA]; exact sq_start w)
  have HA := hid (And.intro sA (And.intro hbA hhA))
  clear hW0 hwA sA hbA hhA
  go_loopw [3] (fun iv wr => ∃ (i : Nat) (nv ev : Value) (xs : List ER), i ≤ 4 ∧ iv = .int .i64 (i : Int) ∧ SqI wA (w.heap.size + 1) (w.heap.size + 1 + 1) i nv ev xs wr) (fun iv _ => 4 - (intOf iv).toNat)
  case atStart => exact ⟨0, _, _, [], Nat.zero_le _, rfl, HW0.out⟩
  case round =>
    obtain ⟨i, nv, ev, xs, hi, rfl, hS⟩ := hrel
    clear HW0
    have HS := hid hS
    have hlen := hS.len hi
    by_cases hlt : i < 4
    · have hltI : (i : Int) < 4 := by omega
      obtain ⟨j, hj⟩ : ∃ j, (i + 1) % 4 = j := ⟨_, rfl⟩
      have hmod : Int.tmod ((i : Int) + 1) 4 = (j : Int) := by
        rw [Int.tmod_eq_emod_of_nonneg (by omega)]; omega
      have hj4 : j < 4 := by omega
      have hj4I : (j : Int) < 4 := by omega
      have hiw1 : IntKind.i64.wrap ((i : Int) + 1) = (i : Int) + 1 := by rw [IntKind.wrap_i64]; omega
      have hjw1 : IntKind.i64.wrap ((j : Int) + 1) = (j : Int) + 1 := by rw [IntKind.wrap_i64]; omega
      obtain ⟨px, py, hp⟩ : ∃ px py, sqP.getD i (0, 0) = (px, py) := ⟨_, _, rfl⟩
      obtain ⟨qx, qy, hq⟩ : ∃ qx qy, sqP.getD j (0, 0) = (qx, qy) := ⟨_, _, rfl⟩
      have hpq := hid (sq_next i j hlt hj px py qx qy hp hq)
      obtain ⟨a0, a1⟩ := sq_at hS.pts hlt hp
      obtain ⟨cs, hnd⟩ := hS.plan.nodes
      obtain ⟨no, nc, hno⟩ := own_form hnd
      subst hno
      obtain ⟨ao2, cap2, W1, hrun, hbx1, hP1, hk1⟩ := (hS.plan.fresh (Below.refl _ wr).drew).addNode (by rw [HA.out.1]; exact Nat.le_refl _) (by omega) ((i : Int) + 1) px py (-1)
      have hbx := hS.plan.box
      have e0 : wr.cell? ⟨w.heap.size + 1, 0, none⟩ = some (.slice no i nc) := by simp [World.cell?, hbx]
      have e0a : ∀ o, (wr.alloc o).cell? ⟨w.heap.size + 1, 0, none⟩ = some (.slice no i nc) := fun o => by
        have q := (((Below.refl _ wr).alloc (Nat.le_refl _) o).block _ (lt_of_heap hbx)).trans hbx
        simp [World.cell?, q]
      have q1 := hbx1.trans (show wr.drew.heap[w.heap.size + 1]? = _ from hbx)
      have e1 : W1.cell? ⟨w.heap.size + 1, 0, none⟩ = some (.slice no i nc) := by simp [World.cell?, q1]
      have f1 : W1.frozen? ⟨w.heap.size + 1, 0, none⟩ = false := by simp [World.frozen?, q1]
      have HRUN := hid hrun
      have HP1 := hid hP1
      have HK1 := hid hk1
      have HJ := hid hj
      have HPQ := hid (And.intro hp hq)
      have HLN := hid hlen
      clear hrun hP1 hk1 hnd hbx hbx1 q1 hj hp hq hS hlen
      go_wp2
      apply wp_one (V := W1.setCell ⟨w.heap.size + 1, 0, none⟩ (.slice ao2 (i + 1) cap2))
      · refine wp_region_noPanic ?_
        go_region_law (first
          | (refine stepAppend rfl (.tmp 15) (.tmp 23) 27 rfl rfl rfl HRUN.out ?_))
        all_goals exact NoPanic.normal ⟨rfl, rfl, rfl⟩
      obtain ⟨V, hV⟩ : ∃ V, W1.setCell ⟨w.heap.size + 1, 0, none⟩ (.slice ao2 (i + 1) cap2) = V := ⟨_, rfl⟩
      have hPV : PlB wA (w.heap.size + 1) (.slice ao2 (i + 1) cap2) ev (i + 1) xs (sqL.take i) V := by rw [← hV]; exact HP1.out
      have hptV : V.heap[w.heap.size + 1 + 1]? = some (.cells (ptCells sqP).toArray 23 (0, 0)) := by rw [← hV]; exact HK1.out _ _ _ HS.out.pts (by decide) (by decide)
      rw [hV]
      obtain ⟨b0, b1⟩ := sq_at hptV hlt HPQ.out.1
      obtain ⟨b2, b3⟩ := sq_at hptV hj4 HPQ.out.2
      obtain ⟨eo, ec, hev⟩ := own_form hPV.edges
      subst hev
      have hbV : Below V.heap.size V (V.drew.alloc (.cells #[.int .i64 px, .int .i64 py, .int .i64 qx, .int .i64 qy] 23)) := (Below.refl _ V).drew.alloc (Nat.le_refl _) _
      have hbx := hPV.box
      have hline : (V.drew.alloc (.cells #[.int .i64 px, .int .i64 py, .int .i64 qx, .int .i64 qy] 23)).heap[V.heap.size]? = some (.cells (ptCells [(px, py), (qx, qy)]).toArray 23 (0, 0)) := World.alloc_heap_new V.drew _
      have hPE := (hPV.fresh hbV).addEdge (by rw [HA.out.1]; exact Nat.le_refl _) (by rw [HLN.out]; omega) ⟨(i : Int) + 1, (i : Int) + 1, (j : Int) + 1, some ⟨V.heap.size, 0, none⟩, 2, 2, 1, 0⟩ [(px, py), (qx, qy)] rfl rfl rfl hline
      have hbx2 := (hbV.block _ (lt_of_heap hbx)).trans hbx
      obtain ⟨WL, hWL⟩ : ∃ WL, V.drew.alloc (.cells #[.int .i64 px, .int .i64 py, .int .i64 qx, .int .i64 qy] 23) = WL := ⟨_, rfl⟩
      have hptL := (hbV.block _ (lt_of_heap hptV)).trans hptV
      rw [hWL] at hPE hbx2 hptL
      obtain ⟨ao3, cap3, W3, run3, hbx3, hP3, hk3⟩ := hPE
      rw [HLN.out] at run3 hP3 hk3 hbx hbx2
      have q3 := hbx3.trans hbx2
      have g3 : W3.cell? ⟨w.heap.size + 1, 1, none⟩ = some (.slice eo i ec) := by simp [World.cell?, q3]
      have k3 : W3.frozen? ⟨w.heap.size + 1, 1, none⟩ = false := by simp [World.frozen?, q3]
      have g0 : V.cell? ⟨w.heap.size + 1, 1, none⟩ = some (.slice eo i ec) := by simp [World.cell?, hbx]
      have g1 : ∀ o, (V.alloc o).cell? ⟨w.heap.size + 1, 1, none⟩ = some (.slice eo i ec) := fun o => cell_below g0 ((Below.refl _ V).alloc (Nat.le_refl _) o) (lt_of_cell g0)
      have g2 : ∀ o1 o2, ((V.alloc o1).alloc o2).cell? ⟨w.heap.size + 1, 1, none⟩ = some (.slice eo i ec) := fun o1 o2 => cell_below (g1 o1) ((Below.refl _ _).alloc (Nat.le_refl _) o2) (lt_of_cell (g1 o1))
      have hfin : SqI wA (w.heap.size + 1) (w.heap.size + 1 + 1) (i + 1) (.slice ao2 (i + 1) cap2) (.slice ao3 (i + 1) cap3) (xs ++ [⟨(i : Int) + 1, (i : Int) + 1, (j : Int) + 1, some ⟨V.heap.size, 0, none⟩, 2, 2, 1, 0⟩]) (W3.setCell ⟨w.heap.size + 1, 1, none⟩ (.slice ao3 (i + 1) cap3)) := by
        refine ⟨?_, ?_, hk3 _ _ _ hptL (by decide) (by decide)⟩
        · rw [List.take_add_one, hpq.out.1]
          exact hP3
        · rw [List.take_add_one, hpq.out.2, List.map_append, HS.out.keys]
          rfl
      rw [← hWL] at run3
      simp only [World.size_alloc] at run3
      have HR3 := hid run3
      have HFIN := hid hfin
      clear hV hPV hptV hbV hbx hline hbx2 hptL hWL run3 hbx3 hP3 hk3 q3 hfin HP1 HK1 HRUN a0 a1 e0 e0a e1 f1
      go_wp2
      apply wp_one (V := W3.setCell ⟨w.heap.size + 1, 1, none⟩ (.slice ao3 (i + 1) cap3))
      · refine wp_region_noPanic ?_
        go_region_law (first
          | (refine stepAppend rfl (.tmp 27) (.tmp 48) 28 rfl rfl rfl HR3.out ?_))
        all_goals exact NoPanic.normal ⟨rfl, rfl, rfl⟩
      clear HR3 b0 b1 b2 b3 g0 g1 g2 g3 k3
      go_wp2
      go_roundw
      case rel => exact ⟨i + 1, _, _, _, by omega, by go_num, HFIN.out⟩
      case measure => simp [intOf]; omega
    · obtain rfl : i = 4 := by omega
      have hkeys : xs.map erK = sqC := hS.keys
      have hPl : PlB wA (w.heap.size + 1) nv ev 4 xs sqL wr := hS.plan
      obtain ⟨b, ao, cap, no, nl, nc, rfl, rfl, hE⟩ := hPl.toPlE (by omega) (sq_rise hkeys) (fun x hx => by
        obtain ⟨i, hi⟩ := List.getElem?_of_mem hx
        have := sq_key hkeys hi
        omega) (fun x hx => by
        obtain ⟨i, hi⟩ := List.getElem?_of_mem hx
        have := sq_key hkeys hi
        omega) sq_short
      rw [hlen] at hPl
      have hbx := hPl.box
      have hres := (hPl.below.block w.heap.size (by rw [HA.out.1]; exact Nat.lt_succ_self _)).trans HA.out.2.2
      have c0 : wr.cell? ⟨w.heap.size + 1, 0, none⟩ = some (.slice no nl nc) := by simp [World.cell?, hbx]
      have c1 : wr.cell? ⟨w.heap.size + 1, 1, none⟩ = some (.slice ao 4 cap) := by simp [World.cell?, hbx]
      have z0 : wr.cell? ⟨w.heap.size, 0, none⟩ = some (.slice none 0 0) := by simp [World.cell?, hres]
      have z1 : wr.cell? ⟨w.heap.size, 1, none⟩ = some (.slice none 0 0) := by simp [World.cell?, hres]
      have y0 : wr.frozen? ⟨w.heap.size, 0, none⟩ = false := by simp [World.frozen?, hres]
      have y1 : wr.frozen? ⟨w.heap.size, 1, none⟩ = false := by simp [World.frozen?, hres]
      have HPL := hid (And.intro hPl (And.intro hkeys (And.intro hres hlen)))
      clear HS hS hPl hkeys hE hres hbx hlen
      go_wp2
      generalize hV2 : World.setCell (World.setCell wr _ _) _ _ = V2
      have hb2 : Below w.heap.size w V2 := by
        rw [← hV2]
        have q : Below w.heap.size w wr := HA.out.2.1.trans (HPL.out.1.below.mono (by rw [HA.out.1]; exact Nat.le_succ _))
        exact (q.setCell (p := ⟨w.heap.size, 0, none⟩) (Nat.le_refl _) _).setCell (p := ⟨w.heap.size, 1, none⟩) (Nat.le_refl _) _
      have hh2 : V2.heap[w.heap.size]? = some (.cells #[.slice no nl nc, .slice ao 4 cap] 30 (0, 0)) := by
        rw [← hV2]
        exact box2_set1 (box2_set0 HPL.out.2.2.1)
      have hk2 : ∀ k, k ≠ w.heap.size → V2.heap[k]? = wr.heap[k]? := fun k hk => by
        rw [← hV2, RowKit.Below.heap_setCell _ _ _ _ hk, RowKit.Below.heap_setCell _ _ _ _ hk]
      have hP2 := HPL.out.1.rebase (w0 := w) (W' := V2) (by rw [HA.out.1]; exact Nat.le_succ _) (hk2 _ (by omega)) (fun k c t hk ht => (hk2 k fun e => by
        subst e
        rw [HPL.out.2.2.1] at hk
        injection hk with hk
        injection hk with _ e2 _
        exact ht e2.symm).trans hk) hb2
      obtain ⟨b', ao', cap', no', nl', nc', e1, e2, hE2⟩ := hP2.toPlE (by rw [HPL.out.2.2.2]; decide) (sq_rise HPL.out.2.1) (fun x hx => by
        obtain ⟨i, hi⟩ := List.getElem?_of_mem hx
        have := sq_key HPL.out.2.1 hi
        omega) (fun x hx => by
        obtain ⟨i, hi⟩ := List.getElem?_of_mem hx
        have := sq_key HPL.out.2.1 hi
        omega) sq_short
      rw [HPL.out.2.2.2] at hE2 e1
      injection e1 with e1 _ e1'
      subst e1 e1'
      have r0 : V2.cell? ⟨w.heap.size, 0, none⟩ = some (.slice no nl nc) := by simp [World.cell?, hh2]
      have r1 : V2.cell? ⟨w.heap.size, 1, none⟩ = some (.slice ao 4 cap) := by simp [World.cell?, hh2]
      refine bodyPost_ret (v := plV (.slice no nl nc) (.slice ao 4 cap)) (by simp [results, Try.results14, go_sem, r0, r1]) rfl ?_
      exact ⟨b', ao, cap, no, nl, nc, xs, rfl, hE2, HPL.out.2.1, hb2⟩
end Go.Proofs.Ytjfnbgjnmjdeeaa
