/-
  LineStairs, given what line answers.
-/
import Derived.Test.YtjokpahlpkoopabLStairC
import Derived.Test.YtjokpahlpkoopabLSplit
import Derived.Test.YtjokpahlpkoopabMB
import Derived.BigRegion
namespace Go.Proofs.Ytjokpahlpkoopab
open Go.RowKit Go.Sort


theorem and255_i64 (n : Int) : bits .and .i64 n 255 = n % 256 := by
  have h31 : (BitVec.ofInt 64 255).toNat = 2 ^ 8 - 1 := by decide
  have key : (BitVec.ofInt 64 n &&& BitVec.ofInt 64 255).toNat = (n % ((2 ^ 64 : Nat) : Int)).toNat % 2 ^ 8 := by
    rw [BitVec.toNat_and, BitVec.toNat_ofInt, h31, Nat.and_two_pow_sub_one_eq_mod]
  show IntKind.i64.wrap ((BitVec.ofInt 64 n &&& BitVec.ofInt 64 255).toNat : Nat) = n % 256
  rw [key, IntKind.wrap_i64]
  omega
theorem cell_into {w w' : World} {b i : Nat} {v : Value} (h : w.cell? ⟨b, i, none⟩ = some v) (hb : Below w.heap.size w w') : w'.cell? ⟨b, i, none⟩ = some v :=
  (hb.cell (p := ⟨b, i, none⟩) (World.block_lt_of_cell? w _ h)).trans h
theorem at_world {C : Prop} {inst : Decidable C} {P : Program} {o : Oper} {a : Act} {K : Act → World → Prop} {Q : Exit → Act → World → Prop} {E : Prop} (w : World) (h : @ite Prop C inst (Oper.wp P o a w K Q) E) : @ite Prop C inst (Oper.wp P o a w K Q) E := h
theorem src3_at {W : World} {b : Nat} {x0 y0 x1 y1 x2 y2 : Int} (hh : W.heap[b]? = some (.cells #[.int .i64 x0, .int .i64 y0, .int .i64 x1, .int .i64 y1, .int .i64 x2, .int .i64 y2] 28)) : Src W (.slice (some ⟨b, 0, none⟩) 3 3) [(x0, y0), (x1, y1), (x2, y2)] := by
  refine .inr ⟨b, 0, 3, rfl, Nat.le_refl _, fun k p hk => ?_⟩
  match k, hk with
  | 0, hk => simp at hk; subst hk; simp [World.cell?, hh]
  | 1, hk => simp at hk; subst hk; simp [World.cell?, hh]
  | 2, hk => simp at hk; subst hk; simp [World.cell?, hh]
  | k + 3, hk => simp at hk
theorem src3_new (w : World) (x0 y0 x1 y1 x2 y2 : Int) : Src (w.alloc (.cells #[.int .i64 x0, .int .i64 y0, .int .i64 x1, .int .i64 y1, .int .i64 x2, .int .i64 y2] 28)) (.slice (some ⟨w.heap.size, 0, none⟩) 3 3) [(x0, y0), (x1, y1), (x2, y2)] := src3_at (by
  unfold World.alloc
  simp)
theorem Src.kept {w w' : World} {b n cap : Nat} {ps : List Pp} (h : Src w (.slice (some ⟨b, 0, none⟩) n cap) ps) (hk : w'.heap[b]? = w.heap[b]?) : Src w' (.slice (some ⟨b, 0, none⟩) n cap) ps := by
  rcases h with ⟨h, _⟩ | ⟨b', off, cap', e, h1, hc⟩
  · cases h
  · injection e with e1 e2 e3
    injection e1 with e1
    injection e1 with e4 e5
    subst e4 e5 e2 e3
    refine .inr ⟨b, 0, cap, rfl, h1, fun k p hp => ?_⟩
    obtain ⟨c0, c1⟩ := hc k p hp
    unfold World.cell? at c0 c1 ⊢
    rw [hk]
    exact ⟨c0, c1⟩
theorem stairL_succ (n : Nat) : stairL (n + 1) = stairL n ++ [stair n] := by
  unfold stairL
  rw [List.range_succ, List.map_append]
  rfl
theorem stairL_len (n : Nat) : (stairL n).length = n := by unfold stairL; rw [List.length_map, List.length_range]
theorem stairL_at {n i : Nat} (h : i < n) : lpt (stairL n) i = stair i := by
  refine lpt_at ?_
  unfold stairL
  rw [List.getElem?_map, List.getElem?_range h]
  rfl
theorem stairL_get {n i : Nat} (h : i < n) : (stairL n)[i]? = some (stair i) := by
  unfold stairL
  rw [List.getElem?_map, List.getElem?_range h]
  rfl
theorem stairL_gl {n : Nat} (hn : n ≤ 1000) : Gl (stairL n) := fun p hp => by
  unfold stairL at hp
  obtain ⟨i, hi, rfl⟩ := List.mem_map.1 hp
  exact stair_near (by have := List.mem_range.1 hi; omega)
theorem backL_gl {n k : Nat} (hn : n ≤ 60) (hk : k < n) : Gl (backL n k) := fun p hp => by
  unfold backL at hp
  rw [List.mem_append] at hp
  rcases hp with hp | hp
  · exact stairL_gl (n := n) (by omega) p hp
  · have e : stair (n - 1) = ((((n - 1 + 1) / 2 : Nat) : Int), (((n - 1) / 2 : Nat) : Int)) := rfl
    simp only [List.mem_cons, List.not_mem_nil, or_false] at hp
    rcases hp with rfl | rfl | rfl
    · unfold farP clP
      rw [e]
      dsimp only
      rw [near_in (by omega) (by omega), near_in (by omega) (by omega)]
    · unfold highP farP clP
      rw [e]
      dsimp only
      rw [near_in (by omega) (by omega), near_in (by omega) (by omega)]
    · exact stair_near (by omega)
set_option maxRecDepth 100000 in
set_option maxHeartbeats 6400000 in
theorem lineStairs_core (H : LineC) (w : World) (v back : Int) :
    Calls Try.prog 4 #[.int .i64 v, .int .i64 back] w fun e w' => e = .returned (.bool true) ∧ Below w.heap.size w w' := by
  obtain ⟨c, hc⟩ : ∃ c : Nat, bits .and .i64 v 255 = (c : Int) := ⟨(v % 256).toNat, by rw [and255_i64]; omega⟩
  have hc256 : c < 256 := by have := and255_i64 v; omega
  obtain ⟨n, hn, hnl, hnh⟩ : ∃ n : Nat, ((c : Int) % 58 + 3) = (n : Int) ∧ 3 ≤ n ∧ n ≤ 60 := ⟨c % 58 + 3, by omega, by omega, by omega⟩
  obtain ⟨d, hd⟩ : ∃ d : Nat, bits .and .i64 back 255 = (d : Int) := ⟨(back % 256).toNat, by rw [and255_i64]; omega⟩
  have hd256 : d < 256 := by have := and255_i64 back; omega
  obtain ⟨k, hk, hkn⟩ : ∃ k : Nat, (d : Int) % (n : Int) = (k : Int) ∧ k < n := ⟨d % n, by omega, Nat.mod_lt _ (by omega)⟩
  have hnz : ¬ (n : Int) = 0 := by omega
  have hnzB : ((n : Int) == 0) = false := by simpa using hnz
  go_enter Try.func4, Try.ntmps4
  go_wp2
  go_loopw [5, 6] (fun lv iv wr => ∃ (i : Nat) (ao : Option Addr) (ca : Nat), i ≤ n ∧ iv = .int .i64 i ∧ lv = .slice ao i ca ∧ PtRow wr w.heap.size (.slice ao i ca) (stairL i) ∧ Below w.heap.size w wr) (fun _ iv _ => n - (intOf iv).toNat)
  case atStart => exact ⟨0, none, 0, by omega, rfl, rfl, PtRow.nil _ _, Below.refl _ _⟩
  case round =>
    obtain ⟨i, ao, ca, hi, rfl, rfl, hrow, hbr⟩ := hrel
    by_cases hlt : i < n
    · have hiI : (i : Int) < (n : Int) := by omega
      have e1 : ((i : Int) + 1) / 2 = (stair i).1 := by unfold stair; dsimp only; omega
      have e2 : (i : Int) / 2 = (stair i).2 := by unfold stair; dsimp only; omega
      obtain ⟨ao', ca', wS, hrun, hrow', hbs⟩ := hrow.snoc hbr.size (by rw [stairL_len]; omega) (stair i)
      rw [stairL_len] at hrun hrow'
      rw [← stairL_succ] at hrow'
      have hb1 : -1000 ≤ (stair i).1 ∧ (stair i).1 ≤ 1000 := by unfold stair; dsimp only; omega
      have hb2 : -1000 ≤ (stair i).2 ∧ (stair i).2 ≤ 1000 := by unfold stair; dsimp only; omega
      generalize (stair i).1 = SX at *
      generalize (stair i).2 = SY at *
      have HRUN := hid hrun
      have HROW' := hid hrow'
      have HBS := hid (hbr.trans hbs)
      clear hrun hrow' hbs hrow hbr
      go_wp2_with (at_builtin; refine wpList_append_run rfl (.tmp 20) (.tmp 27) 22 rfl rfl rfl HRUN.out ?_; clear HRUN)
      go_roundw
      case rel => exact ⟨i + 1, ao', ca', by omega, by go_num, rfl, HROW'.out, HBS.out⟩
      case measure => simp [intOf]; omega
    · have hiI : ¬ (i : Int) < (n : Int) := by omega
      obtain rfl : i = n := by omega
      obtain ⟨ok1, cl1, ok2, cl2⟩ := stairs_ok hnl hnh
      have HL := hid hrow.src
      have HROW := hid hrow
      have HB := hid hbr
      have F1 := hid (fun W h => H.ok (.slice ao i ca) (stairL i) W h (stairL_gl (by omega)).p64 (by rw [stairL_len]; omega))
      have F2 := hid (fun W h => H.closed (.slice ao i ca) (stairL i) W h (stairL_gl (by omega)) (by rw [stairL_len]; omega))
      rw [ok1] at F1
      rw [cl1] at F2
      clear hrow hbr hlt
      go_wp2_with (first
        | (go_at_call 10; refine (F1.out _ HL.out).mono ?_; rintro e w1 ⟨rfl, hb1⟩; replace HL := hid (HL.out.below hb1); replace HROW := hid (HROW.out.below hb1); replace HB := hid (HB.out.trans (hb1.mono HB.out.size)); clear F1; clear hb1)
        | (go_at_call 11; refine (F2.out _ HL.out).mono ?_; rintro e w2 ⟨rfl, hb2⟩; replace HL := hid (HL.out.below hb2); replace HROW := hid (HROW.out.below hb2); replace HB := hid (HB.out.trans (hb2.mono HB.out.size)); clear F2; clear hb2))
      obtain ⟨g, rfl, _, _⟩ := HROW.out.at (k := 0) (p := stair 0) (stairL_get (by omega))
      have HCE := hid (show ∀ (j : Nat) (W : World), j < i → Below w2.heap.size w2 W → W.cell? ⟨g, j * 2, none⟩ = some (.int .i64 (stair j).1) ∧ W.cell? ⟨g, j * 2 + 1, none⟩ = some (.int .i64 (stair j).2) from fun j W hj hW => by
        obtain ⟨g', e, c0, c1⟩ := HROW.out.at (k := j) (p := stair j) (stairL_get hj)
        simp only [Option.some.injEq, Addr.mk.injEq, and_true] at e
        subst e
        exact ⟨cell_into c0 hW, cell_into c1 hW⟩)
      obtain ⟨m, hm⟩ : ∃ m, i = m + 1 := ⟨i - 1, by omega⟩
      have mI : (i : Int) - 1 = (m : Int) := by omega
      have mlt : (m : Int) < (i : Int) := by omega
      have kI : (k : Int) < (i : Int) := by omega
      have HMM := hid hm
      have hmi : m < i := by omega
      have h0i : 0 < i := by omega
      have z0 : stair 0 = (0, 0) := rfl
      obtain ⟨SX, SY, hS⟩ : ∃ SX SY, stair m = (SX, SY) := ⟨_, _, rfl⟩
      have hsm : -1000 ≤ SX ∧ SX ≤ 1000 ∧ -1000 ≤ SY ∧ SY ≤ 1000 := by
        have e : stair m = ((((m + 1) / 2 : Nat) : Int), ((m / 2 : Nat) : Int)) := rfl
        rw [hS] at e
        injection e with e1 e2
        omega
      have HFH := hid (show farP i = (SX + 5, SY + 9) ∧ highP i = (-7, SY + 9) by
        have e : i - 1 = m := by omega
        unfold highP farP
        rw [e, hS]
        exact ⟨rfl, rfl⟩)
      have HC1 := hid (fun (W : World) (hW : Below w2.heap.size w2 W) => (show W.cell? ⟨g, m * 2, none⟩ = some (.int .i64 SX) ∧ W.cell? ⟨g, m * 2 + 1, none⟩ = some (.int .i64 SY) by
        have q := HCE.out m W hmi hW
        rwa [hS] at q))
      clear hm hS
      obtain ⟨q0, q1⟩ := HC1.out w2.drew (Below.refl _ w2).drew
      obtain ⟨r0, r1⟩ := HC1.out (w2.alloc (.cells #[.int .i64 0, .int .i64 0] 28)).drew ((Below.refl _ w2).alloc (Nat.le_refl _) _).drew
      obtain ⟨t0, t1⟩ := HC1.out w2 (Below.refl _ w2)
      go_upto_region 10 with fail
      go_big_region
      rw [hk]
      obtain ⟨wF, hwF⟩ : ∃ wF, (w2.alloc (.cells #[.int .i64 (SX + 5), .int .i64 (SY + 9)] 28)).drew = wF := ⟨_, rfl⟩
      have hbF : Below w2.heap.size w2 wF := by rw [← hwF]; exact ((Below.refl _ w2).alloc (Nat.le_refl _) _).drew
      have hPF : Pt wF w2.heap.size (SX + 5) (SY + 9) := by rw [← hwF]; exact Pt.new w2 _ _
      have hszF : wF.heap.size = w2.heap.size + 1 := by rw [← hwF]; simp
      rw [hwF]
      clear q0 q1 r0 r1 t0 t1 hwF
      have HC0 := hid (fun (W : World) (hW : Below w2.heap.size w2 W) => (show W.cell? ⟨g, 0, none⟩ = some (.int .i64 0) ∧ W.cell? ⟨g, 1, none⟩ = some (.int .i64 0) from HCE.out 0 W h0i hW))
      have hbFA : Below wF.heap.size wF (wF.alloc (.cells #[.int .i64 0, .int .i64 0] 28)).drew := ((Below.refl _ wF).alloc (Nat.le_refl _) _).drew
      obtain ⟨q0, q1⟩ := HC0.out wF hbF
      obtain ⟨r0, r1⟩ := HC0.out _ (hbF.trans (hbFA.mono hbF.size))
      have f0 := hPF.c0; have f1 := hPF.c1
      have f2 := (hPF.below hbFA hPF.lt).c0; have f3 := (hPF.below hbFA hPF.lt).c1
      have i0 : (0 : Int) < (i : Int) := by omega
      go_upto_region 11 with fail
      go_big_region
      obtain ⟨wG, hwG⟩ : ∃ wG, (wF.alloc (.cells #[.int .i64 (-7), .int .i64 (SY + 9)] 28)).drew = wG := ⟨_, rfl⟩
      have hbG : Below wF.heap.size wF wG := by rw [← hwG]; exact ((Below.refl _ wF).alloc (Nat.le_refl _) _).drew
      have hPG : Pt wG (w2.heap.size + 1) (-7) (SY + 9) := by rw [← hwG, ← hszF]; exact Pt.new wF _ _
      have hPF2 : Pt wG w2.heap.size (SX + 5) (SY + 9) := hPF.below hbG hPF.lt
      have hb2G : Below w2.heap.size w2 wG := hbF.trans (hbG.mono hbF.size)
      rw [hwG]
      clear q0 q1 r0 r1 f0 f1 f2 f3 hwG hbFA hPF
      obtain ⟨KX, KY, hK⟩ : ∃ KX KY, stair k = (KX, KY) := ⟨_, _, rfl⟩
      have HS := hid (fun (W : World) (hW : Below wG.heap.size wG W) => (show W.cell? ⟨w2.heap.size, 0, none⟩ = some (.int .i64 (SX + 5)) ∧ W.cell? ⟨w2.heap.size, 1, none⟩ = some (.int .i64 (SY + 9)) ∧ W.cell? ⟨w2.heap.size + 1, 0, none⟩ = some (.int .i64 (-7)) ∧ W.cell? ⟨w2.heap.size + 1, 1, none⟩ = some (.int .i64 (SY + 9)) ∧ W.cell? ⟨g, k * 2, none⟩ = some (.int .i64 KX) ∧ W.cell? ⟨g, k * 2 + 1, none⟩ = some (.int .i64 KY) by
        have q := HCE.out k W hkn (hb2G.trans (hW.mono hb2G.size))
        rw [hK] at q
        have p1 := hPF2.below hW hPF2.lt
        have p2 := hPG.below hW hPG.lt
        exact ⟨p1.c0, p1.c1, p2.c0, p2.c1, q.1, q.2⟩))
      have HBK := hid (show backL i k = stairL i ++ [(SX + 5, SY + 9), (-7, SY + 9), (KX, KY)] by
        unfold backL
        rw [HFH.out.1, HFH.out.2, hK])
      have HSL := hid (fun (W : World) (hW : Below wG.heap.size wG W) => HL.out.below (hb2G.trans (hW.mono hb2G.size)))
      have HBG := hid (HB.out.trans (hb2G.mono HB.out.size))
      clear hK hPF2 hPG hbF hbG HCE HC0 HC1 hszF
      obtain ⟨TT, hTT⟩ : ∃ o : Obj, o = .cells #[.int .i64 (SX + 5), .int .i64 (SY + 9), .int .i64 (-7), .int .i64 (SY + 9), .int .i64 KX, .int .i64 KY] 28 := ⟨_, rfl⟩
      have HT3 := hid (fun (W : World) => (show Src (W.alloc TT) (.slice (some ⟨W.heap.size, 0, none⟩) 3 3) [(SX + 5, SY + 9), (-7, SY + 9), (KX, KY)] by rw [hTT]; exact src3_new W _ _ _ _ _ _))
      have HGD := hid (show Below wG.heap.size wG wG.drew from (Below.refl _ wG).drew)
      -- the three orders
      obtain ⟨wA1, hA1⟩ : ∃ W, wG.drew.alloc (.cells #[] 28) = W := ⟨_, rfl⟩
      have bA1 : Below wG.heap.size wG wA1 := by rw [← hA1]; exact HGD.out.alloc (Nat.le_refl _) _
      have pA1 : PtRow wA1 wG.heap.size (.slice (some ⟨wG.heap.size, 0, none⟩) 0 0) [] := by rw [← hA1]; exact PtRow.lit0 wG.drew
      obtain ⟨v1, W1, n1, p1, c1, g1⟩ := pA1.add (HSL.out wA1 bA1) bA1.size (by rw [stairL_len]; simp; omega)
      have b1 : Below wG.heap.size wG W1 := bA1.trans c1
      obtain ⟨wD1, hD1⟩ : ∃ W, W1.alloc TT = W := ⟨_, rfl⟩
      have d1 : Below W1.heap.size W1 wD1 := by rw [← hD1]; exact (Below.refl _ W1).alloc (Nat.le_refl _) _
      have bD1 : Below wG.heap.size wG wD1 := b1.trans (d1.mono b1.size)
      obtain ⟨x1, Z1, n1', p1', c1', _⟩ := (p1.below d1).add (by rw [← hD1]; exact HT3.out W1) bD1.size (by simp; rw [stairL_len]; omega)
      have bZ1 : Below wG.heap.size wG Z1 := bD1.trans c1'
      obtain ⟨wD2, hD2⟩ : ∃ W, wA1.alloc TT = W := ⟨_, rfl⟩
      have d2 : Below wA1.heap.size wA1 wD2 := by rw [← hD2]; exact (Below.refl _ wA1).alloc (Nat.le_refl _) _
      have bD2 : Below wG.heap.size wG wD2 := bA1.trans (d2.mono bA1.size)
      obtain ⟨v2, W2, n2, p2, c2, g2⟩ := (pA1.below d2).add (HSL.out wD2 bD2) bD2.size (by rw [stairL_len]; simp; omega)
      have b2 : Below wG.heap.size wG W2 := bD2.trans c2
      have sA1 : wA1.heap.size = wG.heap.size + 1 := by rw [← hA1]; simp
      obtain ⟨x2, Z2, n2', p2', c2', _⟩ := p2.add (Src.kept (by rw [← hD2]; exact HT3.out wA1) (g2.keep wA1.heap.size (by rw [← hD2]; simp) (fun e => by have e' : some wG.heap.size = some wA1.heap.size := e; injection e' with e'; omega))) b2.size (by simp; rw [stairL_len]; omega)
      have bZ2 : Below wG.heap.size wG Z2 := b2.trans c2'
      obtain ⟨wD3, hD3⟩ : ∃ W, wG.drew.alloc TT = W := ⟨_, rfl⟩
      have bD3 : Below wG.heap.size wG wD3 := by rw [← hD3]; exact HGD.out.alloc (Nat.le_refl _) _
      have sD3 : wD3.heap.size = wG.heap.size + 1 := by rw [← hD3]; simp
      obtain ⟨wA3, hA3⟩ : ∃ W, wD3.alloc (.cells #[] 28) = W := ⟨_, rfl⟩
      have d3 : Below wD3.heap.size wD3 wA3 := by rw [← hA3]; exact (Below.refl _ wD3).alloc (Nat.le_refl _) _
      have bA3 : Below wG.heap.size wG wA3 := bD3.trans (d3.mono bD3.size)
      have pA3 : PtRow wA3 wG.heap.size (.slice (some ⟨wD3.heap.size, 0, none⟩) 0 0) [] := by rw [← hA3]; exact (PtRow.lit0 wD3).base (by omega)
      obtain ⟨v3, W3, n3, p3, c3, g3⟩ := pA3.add (HSL.out wA3 bA3) bA3.size (by rw [stairL_len]; simp; omega)
      have b3 : Below wG.heap.size wG W3 := bA3.trans c3
      obtain ⟨x3, Z3, n3', p3', c3', _⟩ := p3.add (Src.kept (Src.below (show Src wD3 (.slice (some ⟨wG.heap.size, 0, none⟩) 3 3) [(SX + 5, SY + 9), (-7, SY + 9), (KX, KY)] by rw [← hD3]; exact HT3.out wG.drew) d3) (g3.keep wG.heap.size (by have := d3.size; omega) (fun e => by have e' : some wD3.heap.size = some wG.heap.size := e; injection e' with e'; omega))) b3.size (by simp; rw [stairL_len]; omega)
      have bZ3 : Below wG.heap.size wG Z3 := b3.trans c3'
      have N1 := hid n1; have N1' := hid n1'; have N2 := hid n2; have N2' := hid n2'; have N3 := hid n3; have N3' := hid n3'
      have HF := hid (show ∀ (x : Value) (Z : World), PtRow Z wG.heap.size x ([] ++ stairL i ++ [(SX + 5, SY + 9), (-7, SY + 9), (KX, KY)]) → Below wG.heap.size wG Z → ∃ ao' ca', x = .slice ao' (i + 3) ca' ∧ Hid (Src Z (.slice ao' (i + 3) ca') (backL i k) ∧ Below w.heap.size w Z) from fun x Z hx hZ => by
        rw [List.nil_append, ← HBK.out] at hx
        obtain ⟨ao', ca', e⟩ := hx.form
        rw [backL_len] at e
        subst e
        exact ⟨ao', ca', rfl, hx.src, HBG.out.trans (hZ.mono HBG.out.size)⟩)
      have HX1 := hid (HF.out x1 Z1 p1' bZ1); have HX2 := hid (HF.out x2 Z2 p2' bZ2); have HX3 := hid (HF.out x3 Z3 p3' bZ3)
      rw [hTT] at hD1 hD2 hD3
      clear n1 n1' n2 n2' n3 n3' p1 p1' p2 p2' p3 p3' c1 c1' c2 c2' c3 c3' g1 g2 g3 pA1 pA3 d1 d2 d3 HF HT3 hTT TT sA1 sD3
      go_upto_region 12 with fail
      go_cut [10] from 63 to 73 (fun v10 wx => ∃ ao' ca', v10 = .slice ao' (i + 3) ca' ∧ Hid (Src wx (.slice ao' (i + 3) ca') (backL i k) ∧ Below w.heap.size w wx))
      case first =>
        go_region_held3 (fun W => W.cell? ⟨w2.heap.size, 0, none⟩ = some (.int .i64 (SX + 5)) ∧ W.cell? ⟨w2.heap.size, 1, none⟩ = some (.int .i64 (SY + 9)) ∧ W.cell? ⟨w2.heap.size + 1, 0, none⟩ = some (.int .i64 (-7)) ∧ W.cell? ⟨w2.heap.size + 1, 1, none⟩ = some (.int .i64 (SY + 9)) ∧ W.cell? ⟨g, k * 2, none⟩ = some (.int .i64 KX) ∧ W.cell? ⟨g, k * 2 + 1, none⟩ = some (.int .i64 KY)) (first
          | with_reducible exact HS.out _ HGD.out | with_reducible exact HS.out _ bA1 | with_reducible exact HS.out _ b1 | with_reducible exact HS.out _ bD1 | with_reducible exact HS.out _ bZ1 | with_reducible exact HS.out _ bD2 | with_reducible exact HS.out _ b2 | with_reducible exact HS.out _ bZ2 | with_reducible exact HS.out _ bD3 | with_reducible exact HS.out _ bA3 | with_reducible exact HS.out _ b3 | with_reducible exact HS.out _ bZ3) (first
          | ((with_reducible refine at_world wA1 ?_); refine step_append_known (w := wA1) rfl (.tmp 63) (.tmp 64) 22 rfl rfl rfl N1.out ?_)
          | ((with_reducible refine at_world wD2 ?_); refine step_append_known (w := wD2) rfl (.tmp 63) (.tmp 64) 22 rfl rfl rfl N2.out ?_)
          | ((with_reducible refine at_world wA3 ?_); refine step_append_known (w := wA3) rfl (.tmp 63) (.tmp 64) 22 rfl rfl rfl N3.out ?_)
          | ((with_reducible refine at_world wD1 ?_); refine step_append_known (w := wD1) rfl (.tmp 65) (.tmp 72) 22 rfl rfl rfl N1'.out ?_)
          | ((with_reducible refine at_world W2 ?_); refine step_append_known (w := W2) rfl (.tmp 65) (.tmp 72) 22 rfl rfl rfl N2'.out ?_)
          | ((with_reducible refine at_world W3 ?_); refine step_append_known (w := W3) rfl (.tmp 65) (.tmp 72) 22 rfl rfl rfl N3'.out ?_))
        all_goals
          go_wp2
          go_meet
          case rel => first
            | exact HX1.out
            | exact HX2.out
            | exact HX3.out
      case rest =>
        obtain ⟨ao', ca', rfl, hcc⟩ := hcut
        obtain ⟨hsm', hbm⟩ := hcc.out
        clear HB HL HS HSL HBG HX1 HX2 HX3 N1 N1' N2 N2' N3 N3' HBK HFH HROW HGD
        have HM := hid hsm'
        have HB := hid hbm
        have hl3 : ¬ (64 : Int) < ((i + 3 : Nat) : Int) := by omega
        have hl3' : ¬ (64 : Int) < (i : Int) + 3 := by omega
        clear hcc hsm' hbm
        have HGB := hid (show Gl (backL i k) from backL_gl hnh hkn)
        by_cases hk0 : k = 0
        · subst hk0
          have F3 := hid (fun W h => H.ok (.slice ao' (i + 3) ca') (backL i 0) W h HGB.out.p64 (by rw [backL_len]; omega))
          have F4 := hid (fun W h => H.closed (.slice ao' (i + 3) ca') (backL i 0) W h HGB.out (by rw [backL_len]; omega))
          rw [ok2] at F3
          rw [cl2] at F4
          go_wp2_with (first
            | (go_at_call 10; refine (F3.out _ HM.out).mono ?_; rintro e w3 ⟨rfl, hb3⟩; replace HM := hid (HM.out.below hb3); replace HB := hid (HB.out.trans (hb3.mono HB.out.size)); clear F3; clear hb3)
            | (go_at_call 11; refine (F4.out _ HM.out).mono ?_; rintro e w4 ⟨rfl, hb4⟩; replace HM := hid (HM.out.below hb4); replace HB := hid (HB.out.trans (hb4.mono HB.out.size)); clear F4; clear hb4)
            | (go_at_call 6; refine (lineAwake_any H _).mono ?_; rintro e w5 ⟨rfl, hb5⟩; replace HB := hid (HB.out.trans (hb5.mono HB.out.size)); clear hb5))
          go_ret
          exact ⟨rfl, HB.out⟩
        · have e3 := back_not (n := i) (k := k) (by omega) hkn hnh
          have e4 := back_open (n := i) (k := k) (by omega) hkn hnh
          have F3 := hid (fun W h => H.ok (.slice ao' (i + 3) ca') (backL i k) W h HGB.out.p64 (by rw [backL_len]; omega))
          have F4 := hid (fun W h => H.closed (.slice ao' (i + 3) ca') (backL i k) W h HGB.out (by rw [backL_len]; omega))
          rw [e3] at F3
          rw [e4] at F4
          have kz : ((k : Int) == 0) = false := beq_eq_false_iff_ne.2 (by omega)
          go_wp2_with (first
            | (go_at_call 10; refine (F3.out _ HM.out).mono ?_; rintro e w3 ⟨rfl, hb3⟩; replace HM := hid (HM.out.below hb3); replace HB := hid (HB.out.trans (hb3.mono HB.out.size)); clear F3; clear hb3)
            | (go_at_call 11; refine (F4.out _ HM.out).mono ?_; rintro e w4 ⟨rfl, hb4⟩; replace HM := hid (HM.out.below hb4); replace HB := hid (HB.out.trans (hb4.mono HB.out.size)); clear F4; clear hb4)
            | (go_at_call 6; refine (lineAwake_any H _).mono ?_; rintro e w5 ⟨rfl, hb5⟩; replace HB := hid (HB.out.trans (hb5.mono HB.out.size)); clear hb5))
          go_ret
          exact ⟨rfl, HB.out⟩

end Go.Proofs.Ytjokpahlpkoopab
