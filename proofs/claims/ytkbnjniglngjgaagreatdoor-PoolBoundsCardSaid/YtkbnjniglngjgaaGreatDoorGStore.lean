/-
  Layer 3: what page.store gives.
-/
import Derived.Test.YtkbnjniglngjgaaGreatDoorGIter
namespace Go.Proofs.YtkbnjniglngjgaaGreatDoor
open Go.RowKit Go.Shelf

attribute [local go_sem] Oper.semAt_some

/-- Amid page.store: the boxes, the disk. -/
structure StI (w : World) (base F B n : Nat) (i r : Nat) (ao : Option Addr) (Ln cap : Nat) (dk : Dk) (e : Int) (W : World) : Prop where
  bf : W.heap[w.heap.size]? = some (.cells #[.pointer (some ⟨F, 0, none⟩)] 30 (0, 0))
  bi : W.heap[w.heap.size + 1]? = some (.cells #[.int .i64 ((i + r : Nat) : Int)] 3 (0, 0))
  br : W.heap[w.heap.size + 2]? = some (.cells #[.int .i64 e] 26 (0, 0))
  bv : W.heap[w.heap.size + 3]? = some (.cells #[.slice ao Ln cap] 38 (0, 0))
  bn : W.heap[w.heap.size + 4]? = some (.cells #[.int .i64 64] 3 (0, 0))
  dk : DiskIs W base B n dk
  kd : Kd base w W
theorem StI.turn {w W W' : World} {base F B n i r : Nat} {ao : Option Addr} {Ln cap : Nat} {dk : Dk} {e : Int} {row : Option Nat} (h : StI w base F B n i r ao Ln cap dk e W) (hb : base ≤ w.heap.size) (hg : W.grownBy W' row)
    (hr : ∀ r, row = some r → w.heap.size ≤ r ∧ ∃ o : Obj, W.heap[r]? = some o ∧ o.isCells = false) : StI w base F B n i r ao Ln cap dk e W' := by
  have key := turn_cells hg (fun r e => (hr r e).2)
  exact ⟨(key _ _ _ _ h.bf).trans h.bf, (key _ _ _ _ h.bi).trans h.bi, (key _ _ _ _ h.br).trans h.br, (key _ _ _ _ h.bv).trans h.bv, (key _ _ _ _ h.bn).trans h.bn, h.dk.turn hg (fun r e => (hr r e).2), h.kd.turn hb hg (fun r e => (hr r e).1)⟩

theorem StI.drew {w W : World} {base F B n i r : Nat} {ao : Option Addr} {Ln cap : Nat} {dk : Dk} {e : Int} (h : StI w base F B n i r ao Ln cap dk e W) (hb : base ≤ w.heap.size) : StI w base F B n i r ao Ln cap dk e W.drew :=
  h.turn hb (row := none) ⟨rfl, rfl, rfl, Nat.le_refl _, fun _ _ _ => rfl⟩ (fun r e => by cases e)
theorem nd_file : ¬ diskT 30 := by unfold diskT; decide
theorem StI.kd' {w W W' : World} {base F B n i r : Nat} {ao : Option Addr} {Ln cap : Nat} {dk dk' : Dk} {e : Int} (h : StI w base F B n i r ao Ln cap dk e W) (hd : DiskIs W' base B n dk') (hk : Kd base W W') : StI w base F B n i r ao Ln cap dk' e W' :=
  ⟨hk.keep' h.bf nd_file, hk.keep' h.bi nd_int, hk.keep' h.br nd_err, hk.keep' h.bv nd_bytes, hk.keep' h.bn nd_int, hd, h.kd.trans hk⟩
theorem StI.setErr {w W : World} {base F B n i r : Nat} {ao : Option Addr} {Ln cap : Nat} {dk : Dk} {e : Int} (h : StI w base F B n i r ao Ln cap dk e W) (hb : base ≤ w.heap.size) (e' : Int) : StI w base F B n i r ao Ln cap dk e' (W.setCell ⟨w.heap.size + 2, 0, none⟩ (.int .i64 e')) := by
  have far : ∀ k, k ≠ w.heap.size + 2 → (W.setCell ⟨w.heap.size + 2, 0, none⟩ (.int .i64 e')).heap[k]? = W.heap[k]? := fun k hk => Below.heap_setCell W _ _ k (fun e => hk (by rw [e]))
  exact ⟨(far _ (by omega)).trans h.bf, (far _ (by omega)).trans h.bi, box_set h.br, (far _ (by omega)).trans h.bv, (far _ (by omega)).trans h.bn, h.dk.box h.br nd_err _, h.kd.turn hb (grown_setCell W _ 0 _) (fun r e => by cases e; omega)⟩
theorem StI.setIdx {w W : World} {base F B n i r : Nat} {ao : Option Addr} {Ln cap : Nat} {dk : Dk} {e : Int} (h : StI w base F B n i r ao Ln cap dk e W) (hb : base ≤ w.heap.size) (r' : Nat) : StI w base F B n i r' ao Ln cap dk e (W.setCell ⟨w.heap.size + 1, 0, none⟩ (.int .i64 ((i + r' : Nat) : Int))) := by
  have far : ∀ k, k ≠ w.heap.size + 1 → (W.setCell ⟨w.heap.size + 1, 0, none⟩ (.int .i64 ((i + r' : Nat) : Int))).heap[k]? = W.heap[k]? := fun k hk => Below.heap_setCell W _ _ k (fun e => hk (by rw [e]))
  exact ⟨(far _ (by omega)).trans h.bf, box_set h.bi, (far _ (by omega)).trans h.br, (far _ (by omega)).trans h.bv, (far _ (by omega)).trans h.bn, h.dk.box h.bi nd_int _, h.kd.turn hb (grown_setCell W _ 0 _) (fun r e => by cases e; omega)⟩
/-- The pieces of bytes. -/
abbrev pieceOf {q : Nat} (zs : List Int) (x : Pc q) : List Int := (zs.drop (64 * x.1)).take 64
theorem pieces_all (q : Nat) (zs : List Int) (xs : List (Pc q)) (h : xs.map (·.1) = List.range q) : xs.map (pieceOf zs) = cut64 q zs := by
  have e : xs.map (pieceOf zs) = (xs.map (·.1)).map (fun k => (zs.drop (64 * k)).take 64) := by rw [List.map_map]; rfl
  rw [e, h]
  apply List.ext_getElem (by simp [cut64_len])
  intro k h1 h2
  have := cut64_at q zs k (by simpa using h1)
  rw [List.getD_eq_getElem?_getD, List.getElem?_eq_getElem h2] at this
  simpa using this.symm
theorem pieces_some (q : Nat) (zs : List Int) (xs : List (Pc q)) (h : xs.map (·.1) = List.range xs.length) (hl : xs.length ≤ q) : ∃ t, cut64 q zs = xs.map (pieceOf zs) ++ t := by
  refine ⟨(cut64 q zs).drop xs.length, ?_⟩
  have e : xs.map (pieceOf zs) = (xs.map (·.1)).map (fun k => (zs.drop (64 * k)).take 64) := by rw [List.map_map]; rfl
  have e2 : xs.map (pieceOf zs) = (cut64 q zs).take xs.length := by
    rw [e, h]
    apply List.ext_getElem (by simp [cut64_len]; omega)
    intro k h1 h2
    have := cut64_at q zs k (by simp at h1; omega)
    rw [List.getD_eq_getElem?_getD, List.getElem?_eq_getElem (by simp [cut64_len]; simp at h1; omega)] at this
    simpa using this.symm
  rw [e2, List.take_append_drop]
theorem len_le_of_range {q : Nat} {xs : List (Pc q)} (h : xs.map (·.1) = List.range xs.length) : xs.length ≤ q := by
  rcases Nat.eq_zero_or_pos xs.length with h0 | h0
  · omega
  · have hl : xs.length - 1 < xs.length := by omega
    have e := congrArg (fun l => l[xs.length - 1]?) h
    simp only [List.getElem?_map, List.getElem?_eq_getElem hl, Option.map_some] at e
    rw [List.getElem?_range (by omega)] at e
    injection e with e
    have := (xs[xs.length - 1]).2
    omega

set_option maxRecDepth 100000 in
set_option maxHeartbeats 2000000 in
theorem store_in {w : World} {base n F B p0 np : Nat} {d : Dk} {half : Bool} (hd : DiskIs w base B n d) (hf : FileIs w base F B p0 np half) {i q : Nat} {v : Value} {zs : List Int} (hv : w.ownsRow 0 5 1 v (64 * q) (secV zs)) (hby : By zs) (hq2 : q ≤ 80) (hi : i + q ≤ n) (hwl : d.wait.length ≤ 900000) (hwr : d.writes ≤ 900000000) :
    CallsIn Fence.wide 12 Tryz.prog 69 #[.pointer (some ⟨F, 0, none⟩), .int .i64 i, v] w fun e w' => e = .returned (.int .i64 (storeP d i (cut64 q zs)).2) ∧ DiskIs w' base B n (storeP d i (cut64 q zs)).1 ∧ Kd base w w' := by
  have hw : ∀ k, Fence.wide.fn k := fun _ => trivial
  have hbase := hd.base_le
  have hq : zs.length = 64 * q := by have := hv.1; simpa [secV] using this
  obtain ⟨ao, cap, rfl, hcap, hop⟩ := own_any hv
  have HD := hid hd
  have HF := hid hf
  have HV := hid hv
  have HBY := hid hby
  have HQ := hid hq
  have HOP : Hid (1 ≤ q → ∃ g, ao = some ⟨g, 0, none⟩) := fun h => hop (by omega)
  have hn := hd.2.1
  clear hd hf hv hop hby hq
  refine callsIn_of_wp_marks Tryz.func69 rfl trivial ?_ rfl
  simp only [Tryz.ntmps69, List.size_toArray, List.length_cons, List.length_nil, Nat.reduceAdd, Nat.reduceSub, Array.replicate_succ, Array.replicate_zero, List.push_toArray, List.append_toArray, List.nil_append, List.cons_append]
  gi_wp2_with (gi_at_call 92; refine (chunkOf_in _ _ _ _ 64 (by omega) _).mono ?_; rintro e w' ⟨rfl, rfl⟩)
  obtain ⟨g, hg⟩ : ∃ g, 1 ≤ q → ao = some ⟨g, 0, none⟩ := by
    rcases Nat.eq_zero_or_pos q with h | h
    · exact ⟨0, fun h' => by omega⟩
    · obtain ⟨g, hg⟩ := HOP.out h
      exact ⟨g, fun _ => hg⟩
  obtain ⟨W0, hW0⟩ : ∃ W0, ((((w.alloc (.cells #[.pointer (some ⟨F, 0, none⟩)] 30)).alloc (.cells #[.int .i64 i] 3)).alloc (.cells #[.int .i64 0] 26)).alloc (.cells #[.slice ao (64 * q) cap] 38)).alloc (.cells #[.int .i64 64] 3) = W0 := ⟨_, rfl⟩
  have hsz : W0.heap.size = w.heap.size + 5 := by rw [← hW0]; simp
  have hF0 : Below w.heap.size w W0 := by rw [← hW0]; exact (((((Below.refl _ w).alloc (Nat.le_refl _) _).alloc (by simp) _).alloc (by simp; omega) _).alloc (by simp; omega) _).alloc (by simp; omega) _
  have b0 : W0.heap[w.heap.size]? = some (.cells #[.pointer (some ⟨F, 0, none⟩)] 30 (0, 0)) := by rw [← hW0]; exact (push5 w.heap _ _ _ _ _).1
  have b1 : W0.heap[w.heap.size + 1]? = some (.cells #[.int .i64 ((i + 0 : Nat) : Int)] 3 (0, 0)) := by rw [← hW0]; exact (push5 w.heap _ _ _ _ _).2.1
  have b2 : W0.heap[w.heap.size + 2]? = some (.cells #[.int .i64 0] 26 (0, 0)) := by rw [← hW0]; exact (push5 w.heap _ _ _ _ _).2.2.1
  have b3 : W0.heap[w.heap.size + 3]? = some (.cells #[.slice ao (64 * q) cap] 38 (0, 0)) := by rw [← hW0]; exact (push5 w.heap _ _ _ _ _).2.2.2.1
  have b4 : W0.heap[w.heap.size + 4]? = some (.cells #[.int .i64 64] 3 (0, 0)) := by rw [← hW0]; exact (push5 w.heap _ _ _ _ _).2.2.2.2
  rw [hW0]
  clear hW0
  have hmx : Tryz.prog.follows .mixedOrders = true := by kernel_rfl
  obtain ⟨P, hP⟩ : ∃ P : Nat → Prop, P = fun k => k = w.heap.size + 1 ∨ k = w.heap.size + 2 ∨ ∃ c t f, w.heap[k]? = some (Obj.cells c t f) ∧ diskT t := ⟨_, rfl⟩
  have hPn : ∀ k, w.heap.size ≤ k → k ≠ w.heap.size + 1 → k ≠ w.heap.size + 2 → ¬ P k := fun k h1 h2 h3 h => by
    rw [hP] at h
    rcases h with h | h | ⟨c, t, f, h, _⟩
    · exact h2 h
    · exact h3 h
    · have := lt_of_heap h; omega
  have h0 : StI w base F B n i 0 ao (64 * q) cap d 0 W0 := ⟨b0, b1, b2, b3, b4, HD.out.below hF0, Kd.fresh hF0 hbase⟩
  refine wpIn_rangeFunc_ownG rfl (by decide) (gf := 108) (lb := #[.pointer (some ⟨w.heap.size + 1 + 1 + 1, 0, none⟩), .pointer (some ⟨w.heap.size + 1 + 1 + 1 + 1, 0, none⟩)]) rfl trivial (enters_of Tryz.func108 (by kernel_rfl) rfl)
    (chunk_stops (12 - 1) (by decide) (w.heap.size + 3) (w.heap.size + 4) (w.heap.size + 5) P g 0 cap 64 q (64 * q) ao W0 b3 b4 ⟨by omega, hPn _ (by omega) (by omega) (by omega)⟩ ⟨by omega, hPn _ (by omega) (by omega) (by omega)⟩ hg (by omega) (by omega) hcap (by omega)) (fun h k => Kc.trans h k) (fun W l o o' _ hl hc _ => Kc.putObj _ _ W l o o' hl hc) (Below.refl _ _) (fun _ => rfl)
    (fun pre W => ∃ dk, StI w base F B n i pre.length ao (64 * q) cap dk 0 W ∧ storeP d i (pre.map (pieceOf zs)) = (dk, 0))
    (fun c pre W => c = .ret ∧ ∃ r dk, StI w base F B n i r ao (64 * q) cap dk 50 W ∧ storeP d i (pre.map (pieceOf zs)) = (dk, 50))
    ?hI ?hIx ?h0
    (fun x => { tmps := #[.pointer (some ⟨F, 0, none⟩), .int .i64 i, .slice ao (64 * q) cap, .pointer (some ⟨w.heap.size, 0, none⟩), .pointer (some ⟨w.heap.size + 1, 0, none⟩), undef, .pointer (some ⟨w.heap.size + 1 + 1, 0, none⟩), .slice (some ⟨g, x.1 * 64, none⟩) 64 64, undef, .slice ao (64 * q) cap, .func (.func 108) #[] #[.pointer (some ⟨w.heap.size + 1 + 1 + 1, 0, none⟩), .pointer (some ⟨w.heap.size + 1 + 1 + 1 + 1, 0, none⟩)], .slice (some ⟨g, x.1 * 64, none⟩) 64 64, undef, undef, undef, undef, undef, undef, undef, undef, undef, undef, undef, undef], defers := [] }) ?assign ?body ?done ?stop
  case hI =>
    rintro s A B' row ⟨dk, hs, he⟩ hg' hrow
    exact ⟨dk, hs.turn hbase hg' (fun r e => ⟨by have := (hrow r e).1; omega, (hrow r e).2⟩), he⟩
  case hIx =>
    rintro c s A B' row ⟨hc, r, dk, hs, he⟩ hg' hrow
    exact ⟨hc, r, dk, hs.turn hbase hg' (fun r e => ⟨by have := (hrow r e).1; omega, (hrow r e).2⟩), he⟩
  case h0 => exact ⟨d, h0, rfl⟩
  case assign =>
    intro l x W K hK
    gi_wp2
    exact hK
  case body =>
    rintro l pre x W ⟨dk, hst, he⟩ hlt
    have hd1 : 1 ≤ 12 - 1 - 1 := by decide
    obtain ⟨hst', hHas⟩ : StI w base F B n i pre.length ao (64 * q) cap dk 0 W.drew ∧ Has W.drew (.slice (some ⟨g, x.1 * 64, none⟩) 64 64) (pieceOf zs x) := by
      refine ⟨hst.drew hbase, ?_⟩
      obtain rfl := hg (by omega)
      have ho := own_kd HV.out (hst.drew hbase).kd
      have hx := x.2
      have hl : (pieceOf zs x).length = 64 := by simp only [pieceOf, List.length_take, List.length_drop, HQ.out]; omega
      refine ⟨g, x.1 * 64, 64, by rw [hl], by omega, fun j hj => ?_⟩
      rw [hl] at hj
      rw [ho.cellAt (x.1 * 64 + j) (by omega)]
      simp only [secV, List.getElem?_map, pieceOf, List.getD_eq_getElem?_getD, List.getElem?_take, if_pos hj, List.getElem?_drop]
      rw [show 64 * x.1 + j = x.1 * 64 + j by omega, List.getElem?_eq_getElem (by rw [HQ.out]; omega)]
      rfl
    have hSec : Sec (pieceOf zs x) := by
      have hx := x.2
      exact ⟨by simp only [pieceOf, List.length_take, List.length_drop, HQ.out]; omega, fun b hb => HBY.out b (List.mem_of_mem_drop (List.mem_of_mem_take hb))⟩
    have cf := cell_of_row W.drew w.heap.size 0 _ _ _ hst'.bf
    have ci := cell_of_row W.drew (w.heap.size + 1) 0 _ _ _ hst'.bi
    simp only [List.getElem?_toArray, List.getElem?_cons_zero] at cf ci
    obtain ⟨cd, _, _, _⟩ := (HF.out.kd hst'.kd).cells
    have HST := hid hst'
    have HS0 := hid hst
    have HSE := hid hSec
    have HSP := hid he
    have hsn := storeP_snoc (pre.map (pieceOf zs)) d i (pieceOf zs x)
    rw [he] at hsn
    have hsw := storeP_wait (pre.map (pieceOf zs)) d i
    rw [he, List.length_map] at hsw
    dsimp only at hsw
    rw [List.length_map] at hsn
    have HSN := hid hsn
    clear hst hst' hSec he hsn
    by_cases hdl : dk.left = 0
    · have HW := hid (write_dead HST.out.dk (i := ((i + pre.length : Nat) : Int)) (by omega) hdl (ao := some ⟨g, x.1 * 64, none⟩) (cap := 64))
      have hsn2 : storeP d i ((pre ++ [x]).map (pieceOf zs)) = (dk, 50) := by
        rw [List.map_append]
        simp only [List.map_cons, List.map_nil]
        rw [HSN.out]
        simp [hdl]
      have HS2 := hid hsn2
      clear hsn2 HSN
      gi_wp2
      gi_region_with_o (gi_at_call 54; refine (CallsIn.inRound l (callsIn_wide.2 HW.out)).mono ?_; rintro e W1 ⟨rfl, hw1⟩; have hw1' := hw1.symm; clear hw1; subst hw1')
      all_goals
        have cr := cell_of_row W.drew (w.heap.size + 2) 0 _ _ _ HST.out.br
        have fr := frozen_of_row W.drew (w.heap.size + 2) 0 _ _ HST.out.br
        simp only [List.getElem?_toArray, List.getElem?_cons_zero] at cr
        gi_wp2
        exact ⟨keepsFrom_drew (KeepsOthers.setCell W _ _), rfl, _, dk, (HS0.out.setErr hbase 50).drew hbase, HS2.out⟩
    · have HW := hid (write_any HST.out.dk (i := i + pre.length) (by omega) hdl HSE.out hHas (by omega) (by omega))
      have hsn2 : storeP d i ((pre ++ [x]).map (pieceOf zs)) = (dk.write (i + pre.length) (pieceOf zs x), 0) := by
        rw [List.map_append]
        simp only [List.map_cons, List.map_nil]
        rw [HSN.out]
        simp [hdl]
      have HS2 := hid hsn2
      clear hsn2 HSN hHas
      gi_wp2
      gi_region_with_o (gi_at_call 54; refine (CallsIn.inRound l (callsIn_wide.2 HW.out)).mono ?_; rintro e W1 ⟨rfl, hd1, hk1⟩; have HST1 := hid (HST.out.kd' hd1 hk1); have HK1 := hid hk1; have ci1 := cell_of_row W1 (w.heap.size + 1) 0 _ _ _ HST1.out.bi; have fi1 := frozen_of_row W1 (w.heap.size + 1) 0 _ _ HST1.out.bi; simp only [List.getElem?_toArray, List.getElem?_cons_zero] at ci1; clear hd1 hk1)
      all_goals
        gi_wp2
        have hfin := HST1.out.setIdx hbase (pre ++ [x]).length
        have hkc : Kc (w.heap.size + 5) P W.drew W1 := kc_of_kd HST.out.kd HK1.out (fun k c t f h1 h2 => by rw [hP]; exact .inr (.inr ⟨c, t, f, h1, h2⟩)) (fun k h1 h2 h3 => by
          rcases (show k = w.heap.size ∨ k = w.heap.size + 1 ∨ k = w.heap.size + 2 ∨ k = w.heap.size + 3 ∨ k = w.heap.size + 4 by omega) with rfl | rfl | rfl | rfl | rfl
          · exact ⟨_, _, _, HST.out.bf, nd_file⟩
          · exact ⟨_, _, _, HST.out.bi, nd_int⟩
          · exact ⟨_, _, _, HST.out.br, nd_err⟩
          · exact ⟨_, _, _, HST.out.bv, nd_bytes⟩
          · exact ⟨_, _, _, HST.out.bn, nd_int⟩)
        have hPi : P (w.heap.size + 1) := by rw [hP]; exact .inl rfl
        have hcast : ((i + (pre ++ [x]).length : Nat) : Int) = ((i : Int) + (pre.length : Int)) + 1 := by simp; omega
        rw [hcast] at hfin
        exact ⟨keepsFrom_of_drew ((keeps_kd HK1.out).trans (KeepsOthers.setCell W1 _ _)), ⟨(hkc.trans (Kc.row (grown_setCell W1 _ 0 _) (.inl hPi))).size, (hkc.trans (Kc.row (grown_setCell W1 _ 0 _) (.inl hPi))).keep⟩, _, hfin, HS2.out⟩
  case done =>
    rintro D ys W hD hS ⟨dk, hst, he⟩ hK
    rw [pieces_all q zs ys hS] at he
    have cr := cell_of_row W (w.heap.size + 2) 0 _ _ _ hst.br
    have fr := frozen_of_row W (w.heap.size + 2) 0 _ _ hst.br
    simp only [List.getElem?_toArray, List.getElem?_cons_zero] at cr
    have HST := hid hst
    have HE := hid he
    clear hst he hS
    gi_wp2
    have hfin := HST.out.setErr hbase 0
    have hK' := (KeepsOthers.setCell W ⟨w.heap.size + 2, 0, none⟩ (.int .i64 0)).same D _ hK rfl
    have hrow : ∀ r, some D = some r → ∃ o : Obj, (W.setCell ⟨w.heap.size + 2, 0, none⟩ (.int .i64 0)).heap[r]? = some o ∧ o.isCells = false := fun r e => by cases e; exact ⟨_, hK', rfl⟩
    refine ⟨by simp, .inl ⟨_, _, rfl, run_takeDeferred hK', ?_⟩⟩
    have hb5 := cell_kept (o := 0) hfin.br (grownBy_putObj' _ D (.deferred none)) hrow
    simp only [List.getElem?_toArray, List.getElem?_cons_zero] at hb5
    have hend := hfin.turn hbase (grownBy_putObj' _ D (.deferred none)) (fun r e => ⟨by cases e; omega, hrow r e⟩)
    rw [HE.out]
    refine ⟨.int .i64 0, ?_, rfl, hend.dk, hend.kd⟩
    simp [results, Tryz.f69, go_sem, hb5]
  case stop =>
    rintro D c pre W hD hSp ⟨rfl, r, dk, hst, he⟩ hK
    obtain ⟨t, ht⟩ := pieces_some q zs pre hSp (len_le_of_range hSp)
    have hfull : storeP d i (cut64 q zs) = (dk, 50) := by rw [ht, storeP_stop _ _ _ _ (by rw [he]), he]
    have HE := hid hfull
    have HST := hid hst
    clear hst he hSp hfull ht
    gi_wp2
    have hrow : ∀ r, some D = some r → ∃ o : Obj, W.heap[r]? = some o ∧ o.isCells = false := fun r e => by cases e; exact ⟨_, hK, rfl⟩
    refine ⟨by simp, .inl ⟨_, _, rfl, run_takeDeferred hK, ?_⟩⟩
    have hb5 := cell_kept (o := 0) HST.out.br (grownBy_putObj' _ D (.deferred none)) hrow
    simp only [List.getElem?_toArray, List.getElem?_cons_zero] at hb5
    have hend := HST.out.turn hbase (grownBy_putObj' _ D (.deferred none)) (fun r e => ⟨by cases e; omega, hrow r e⟩)
    rw [HE.out]
    refine ⟨.int .i64 50, ?_, rfl, hend.dk, hend.kd⟩
    simp [results, Tryz.f69, go_sem, hb5]
theorem store_any {w : World} {base n F B p0 np : Nat} {d : Dk} {half : Bool} (hd : DiskIs w base B n d) (hf : FileIs w base F B p0 np half) {i q : Nat} {v : Value} {zs : List Int} (hv : w.ownsRow 0 5 1 v (64 * q) (secV zs)) (hby : By zs) (hq2 : q ≤ 80) (hi : i + q ≤ n) (hwl : d.wait.length ≤ 900000) (hwr : d.writes ≤ 900000000) :
    Calls Tryz.prog 69 #[.pointer (some ⟨F, 0, none⟩), .int .i64 i, v] w fun e w' => e = .returned (.int .i64 (storeP d i (cut64 q zs)).2) ∧ DiskIs w' base B n (storeP d i (cut64 q zs)).1 ∧ Kd base w w' := callsIn_wide.1 (store_in hd hf hv hby hq2 hi hwl hwr)
end Go.Proofs.YtkbnjniglngjgaaGreatDoor
