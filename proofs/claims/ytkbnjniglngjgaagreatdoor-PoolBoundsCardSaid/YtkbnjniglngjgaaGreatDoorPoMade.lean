/-
  Layer 5: what terrierlaw5.made gives.
-/
import Derived.Test.YtkbnjniglngjgaaGreatDoorMP
import Derived.Test.YtkbnjniglngjgaaGreatDoorPoNew
import Derived.Test.YtkbnjniglngjgaaGreatDoorGState
import Derived.Test.YtkbnjniglngjgaaGreatDoorMN
namespace Go.Proofs.YtkbnjniglngjgaaGreatDoor
open Go.RowKit

theorem pnew_st {n p0 np : Nat} (h : p0 + np * 8 + 80 ≤ n) (hm : np ≤ 4096) : FSt (Dk.new n).now p0 np (fun _ => none) := FSt.fresh h hm
theorem nl_pw : ¬ logT 36 := by unfold logT diskT; decide
theorem nl_pf : ¬ logT 76 := by unfold logT diskT; decide
/-- A World of the law: its block, the File, the Log, the Pool. -/
structure OwI (w : World) (O F L P : Nat) : Prop where
  ex : ∃ c, w.heap[O]? = some (.cells c 36 (0, 0)) ∧ c[1]? = some (.pointer (some ⟨F, 0, none⟩)) ∧ c[2]? = some (.pointer (some ⟨L, 0, none⟩)) ∧ c[3]? = some (.pointer (some ⟨P, 0, none⟩))
theorem OwI.cells {w : World} {O F L P : Nat} (h : OwI w O F L P) : w.cell? ⟨O, 1, none⟩ = some (.pointer (some ⟨F, 0, none⟩)) ∧ w.cell? ⟨O, 2, none⟩ = some (.pointer (some ⟨L, 0, none⟩)) ∧ w.cell? ⟨O, 3, none⟩ = some (.pointer (some ⟨P, 0, none⟩)) := by
  obtain ⟨c, h0, h1, h2, h3⟩ := h.ex
  exact ⟨by simp [World.cell?, h0, h1], by simp [World.cell?, h0, h2], by simp [World.cell?, h0, h3]⟩
theorem OwI.same {w w' : World} {O F L P : Nat} (h : OwI w O F L P) (hk : ∀ c, w.heap[O]? = some (Obj.cells c 36 (0, 0)) → w'.heap[O]? = w.heap[O]?) : OwI w' O F L P := by
  obtain ⟨c, h0, h1⟩ := h.ex
  exact ⟨c, (hk c h0).trans h0, h1⟩
theorem OwI.below {w w' : World} {O F L P : Nat} (h : OwI w O F L P) (hb : Below w.heap.size w w') : OwI w' O F L P := h.same fun _ hc => hb.block _ (lt_of_heap hc)
theorem OwI.kx {w w' : World} {O F L P P' F' L' g k : Nat} {f : Fr} (h : OwI w O F L P) (hp : PlI w P' F' L' g k f) (hk : Kx g w w') : OwI w' O F L P := h.same fun c hc => hk.keep _ (lt_of_heap hc) fun e => by
  rw [e, hp.row] at hc
  injection hc with e1
  injection e1 with _ e2 _
  revert e2
  decide

def owC (B : Nat) : List Value := [.pointer (some ⟨B, 0, none⟩), .pointer none, .pointer none, .pointer none, .int .i64 0, .int .i64 0, .int .i64 0, .int .i64 0, .int .i64 0, .int .i64 0, .int .i64 0, .int .i64 0, .int .u64 0, .int .u64 0, .int .u64 0, .int .u64 0, .int .u64 0, .int .u64 0, .int .u64 0, .int .u64 0, .int .i64 0, .int .i64 0, .int .i64 0, .int .i64 0, .int .i64 0, .int .i64 0, .int .i64 0, .int .i64 0, .bool false, .bool false, .bool false, .bool false, .bool false, .bool false, .bool false, .bool false]
theorem made_fin {w : World} {base O P F L g k B n p0 np at' sc b : Nat} {d : Dk} {lg : Lg} {f : Fr} (hO : w.heap[O]? = some (.cells (owC b).toArray 36 (0, 0))) (h : PW w base P F L g k B n p0 np at' sc d lg f) (hb : base ≤ O) (hg : 0 < base) :
    OwI (w.setCells O 1 [.pointer (some ⟨F, 0, none⟩), .pointer (some ⟨L, 0, none⟩), .pointer (some ⟨P, 0, none⟩)]) O F L P ∧ PW (w.setCells O 1 [.pointer (some ⟨F, 0, none⟩), .pointer (some ⟨L, 0, none⟩), .pointer (some ⟨P, 0, none⟩)]) base P F L g k B n p0 np at' sc d lg f ∧ Below base w (w.setCells O 1 [.pointer (some ⟨F, 0, none⟩), .pointer (some ⟨L, 0, none⟩), .pointer (some ⟨P, 0, none⟩)]) := by
  have hfar := setCells_far O [.pointer (some ⟨F, 0, none⟩), .pointer (some ⟨L, 0, none⟩), .pointer (some ⟨P, 0, none⟩)] 1 w
  have hr := row_set (i := 3) (row_set (i := 2) (row_set (i := 1) hO (.pointer (some ⟨F, 0, none⟩))) (.pointer (some ⟨L, 0, none⟩))) (.pointer (some ⟨P, 0, none⟩))
  have hne : ∀ (i : Nat) (c : Array Value) (t : TypeId) (ff : Nat × Nat), w.heap[i]? = some (Obj.cells c t ff) → t ≠ 36 → i ≠ O := fun i c t ff hi ht e => by
    rw [e, hO] at hi
    injection hi with e1
    injection e1 with _ e2 _
    exact ht e2.symm
  refine ⟨⟨_, hr, rfl, rfl, rfl⟩, ⟨⟨(hfar.2 _ (hne _ _ _ _ h.pl.pool (by decide))).trans h.pl.pool, (hfar.2 _ (hne _ _ _ _ h.pl.row (by decide))).trans h.pl.row, h.pl.kk⟩, h.lo.ofTT fun i c t ff hi ht => hfar.2 _ (hne _ _ _ _ hi fun e => nl_pw (e ▸ ht)), ⟨h.fi.1, (hfar.2 _ (hne _ _ _ _ h.fi.2 (by decide))).trans h.fi.2⟩, ?_⟩, hfar.1.mono hb⟩
  exact tab_kd h.tab hg (hfar.1.mono hb)

set_option maxRecDepth 8000 in
set_option maxHeartbeats 1600000 in
theorem made_any (w : World) (ht : TabOk w) (k : Nat) (hk : k ≤ 63) :
    Calls Tryz.prog 4 #[.int .i64 ((k + 1 : Nat) : Int)] w fun e w' => ∃ O F L P g B, e = .returned (.pointer (some ⟨O, 0, none⟩)) ∧ OwI w' O F L P ∧ PW w' w.heap.size P F L g k B 224 0 8 144 80 (Dk.new 224).flush Lg.fresh Fr.none ∧ w.heap.size ≤ g ∧ Below w.heap.size w w' := by
  have hg := ht.lt
  have HT := hid ht
  have HN8 := hid (fun wx => need_any 8 wx (by omega))
  have hmx : (8 * max (8 : Int) 1 + 80) = 144 := by decide
  rw [hmx] at HN8
  have HNW := hid (new_any 224 w (by omega))
  obtain ⟨N, hN⟩ : ∃ N : Int, N = ((k + 1 : Nat) : Int) := ⟨_, rfl⟩
  have HPN := hid (fun (wx : World) (F L : Nat) => hN ▸ ponew_any (w := wx) (F := F) (L := L) k hk)
  rw [← hN]
  clear ht hmx hN
  go_enter Tryz.func4, Tryz.ntmps4
  go_wp2_with (first
    | (go_at_call 11; refine (HN8.out _).mono ?_; rintro e w0 ⟨rfl, hw⟩; have hw' := hw.symm; clear hw; subst hw')
    | (go_at_call 10; refine HNW.out.mono ?_; rintro e w1 ⟨B, rfl, hd1, hb1⟩; obtain ⟨wO, hwO⟩ : ∃ wO, w1.alloc (.cells #[.pointer (some ⟨B, 0, none⟩), .pointer none, .pointer none, .pointer none, .int .i64 0, .int .i64 0, .int .i64 0, .int .i64 0, .int .i64 0, .int .i64 0, .int .i64 0, .int .i64 0, .int .u64 0, .int .u64 0, .int .u64 0, .int .u64 0, .int .u64 0, .int .u64 0, .int .u64 0, .int .u64 0, .int .i64 0, .int .i64 0, .int .i64 0, .int .i64 0, .int .i64 0, .int .i64 0, .int .i64 0, .int .i64 0, .bool false, .bool false, .bool false, .bool false, .bool false, .bool false, .bool false, .bool false] 36) = wO := ⟨_, rfl⟩; have hbO : Below w1.heap.size w1 wO := (by rw [← hwO]; exact (Below.refl _ _).alloc (Nat.le_refl _) _); have HOO : Hid (wO.heap[w1.heap.size]? = some (.cells (owC B).toArray 36 (0, 0))) := (by rw [← hwO]; exact heap_new w1 _); have HBO := hid (hb1.trans (hbO.mono hb1.size)); have HO := hid (open_good (p0 := 0) (np := 8) (hd1.below hbO) rfl (tab_kd HT.out hg HBO.out) hg (by omega) (by omega) (by omega) (pnew_st (by omega) (by omega)).noted.1 (by rw [(pnew_st (n := 224) (p0 := 0) (np := 8) (by omega) (by omega)).redo]; exact fun no hno => ((pnew_st (by omega) (by omega)).fetch hno).1) (by decide) (by decide)); rw [(pnew_st (n := 224) (p0 := 0) (np := 8) (by omega) (by omega)).redo] at HO; have HW1 := hid hb1.size; clear hd1 hb1 hbO HNW)
    | (go_at_call 12; refine HO.out.mono ?_; rintro e w2 ⟨F, rfl, hFs, hd2, hf2, hk2⟩; have HF2 := hid hf2; have HB2 := hid (HBO.out.trans hk2.below); have HO2 := hid ((hk2.keep _ _ _ _ HOO.out (fun e => nl_pw (.inl e)) (.inl (by decide))).trans HOO.out); have HWO := hid (lopen_new (at' := 144) (sc := 80) hd2 (by omega) (tab_kd HT.out hg HB2.out) hg); clear hd2 hf2 hk2 HO hFs HOO)
    | (go_at_call 13; refine HWO.out.mono ?_; rintro e w3 ⟨L, rfl, hl3, hk3, hL3⟩; have HL3 := hid hl3; have HF3 : Hid (FileIs w3 w.heap.size F B 0 8 false) := ⟨HF2.out.1, (hk3.keep _ _ _ _ HF2.out.2 nl_pf).trans HF2.out.2⟩; have HO3 := hid ((hk3.keep _ _ _ _ HO2.out nl_pw).trans HO2.out); have HB3 := hid (HB2.out.trans hk3.below); clear hl3 hk3 hL3 HWO HO2 HF2 HB2)
    | (go_at_call 5; refine (HPN.out w3 F L).mono ?_; rintro e w4 ⟨P, g, rfl, hp4, hP4, hg4, hb4⟩; have hO4 := (hb4.block _ (lt_of_heap HO3.out)).trans HO3.out; have a1 := cell_of_row w4 w1.heap.size 1 _ _ _ hO4; have a2 := cell_of_row w4 w1.heap.size 2 _ _ _ hO4; have a3 := cell_of_row w4 w1.heap.size 3 _ _ _ hO4; have z1 := frozen_of_row w4 w1.heap.size 1 _ _ hO4; have z2 := frozen_of_row w4 w1.heap.size 2 _ _ hO4; have z3 := frozen_of_row w4 w1.heap.size 3 _ _ hO4; simp only [owC, List.getElem?_toArray, List.getElem?_cons_succ, List.getElem?_cons_zero] at a1 a2 a3; have HO4 := hid hO4; have HB4 := hid (HB3.out.trans (hb4.mono HB3.out.size)); have HPW : Hid (PW w4 w.heap.size P F L g k B 224 0 8 144 80 (Dk.new 224).flush Lg.fresh Fr.none) := ⟨hp4, HL3.out.below hb4, HF3.out.below hb4, tab_kd HT.out hg HB4.out⟩; have HG4 := hid (Nat.le_trans HB3.out.size hg4); clear hp4 hP4 hg4 hb4 hO4 HPN))
  go_ret
  obtain ⟨r1, r2, r3⟩ := made_fin HO4.out HPW.out HW1.out hg
  exact ⟨_, F, L, P, g, B, rfl, r1, r2, HG4.out, HB4.out.trans r3⟩
end Go.Proofs.YtkbnjniglngjgaaGreatDoor
