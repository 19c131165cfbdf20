/-
  Layer 15: face's look.
-/
import Derived.Test.YtkdnkmheidbfdaaGreatMT
namespace Go.Proofs.YtkdnkmheidbfdaaGreat
open Go.RowKit Go.Sort Go.Maps

theorem rgr_addr {W : World} {base : Nat} {ro : Option Addr} {n rc : Nat} {rs : List (List Int)} (h : RgR W base (.slice ro n rc) rs) (hn : 1 ≤ rs.length) : ∃ rg, ro = some ⟨rg, 0, none⟩ := by
  obtain ⟨vs, hl, ho, _⟩ := h
  rcases ho.2 with ⟨_, h0⟩ | ⟨g, cap, cur, e, _⟩
  · omega
  · injection e with e1 _ _
    exact ⟨g, e1⟩
/-- The ways of rings: none is empty, they are ways of the plan. -/
theorem ringsS_ok {m : Nat} {f0 : Int → Option Int} : ∀ (ks : List Int) (r : List Int), r ∈ (ringsS m f0 ks).1 → r ≠ [] ∧ (∀ k ∈ r, f0 k ≠ none) ∧ r.length ≤ m := by
  suffices h : ∀ n (ks : List Int), ks.length = n → ∀ r ∈ (ringsS m f0 ks).1, r ≠ [] ∧ (∀ k ∈ r, f0 k ≠ none) ∧ r.length ≤ m from fun ks r hr => h _ ks rfl r hr
  intro n
  induction n with
  | zero =>
    intro ks hk r hr
    obtain rfl := List.eq_nil_of_length_eq_zero hk
    cases hr
  | succ n ih =>
    intro ks hk r hr
    obtain ⟨ks', x, rfl⟩ : ∃ ks' x, ks = ks' ++ [x] := ⟨ks.dropLast, ks.getLast (by intro e; rw [e] at hk; cases hk), (List.dropLast_concat_getLast _).symm⟩
    have hl : ks'.length = n := by simp at hk; exact hk
    rw [ringsS_snoc] at hr
    split at hr
    · exact ih ks' hl r hr
    · rename_i hne
      rcases List.mem_append.1 hr with hr | hr
      · exact ih ks' hl r hr
      · rw [List.mem_singleton] at hr
        subst hr
        refine ⟨hne, fun k hk' => ?_, ?_⟩
        · have h1 := walkF_mem m x [] (f := (ringsS m f0 ks').2) (fun y hy => by cases hy) k hk'
          rcases ringsS_sub m f0 ks' k with e | e
          · exact absurd e h1
          · rwa [e] at h1
        · have := walkF_len (f := (ringsS m f0 ks').2) m x []
          simp at this
          exact this
theorem ringsL_ok {w : World} {b off n : Nat} {ao : Option Addr} {xs : List ER} {ls : List (List Pp)} (h : PlE w b off n ao xs ls) {r : List Int} (hr : r ∈ ringsL xs ls) : r ≠ [] ∧ (∀ k ∈ r, -1000000 ≤ k ∧ k ≤ 1000000) ∧ r.length ≤ 900 := by
  obtain ⟨h1, h2, h3⟩ := ringsS_ok _ r hr
  refine ⟨h1, fun k hk => ?_, by have := h.few; have := h.len; omega⟩
  obtain ⟨a, ha⟩ := Option.ne_none_iff_exists'.1 (h2 k hk)
  obtain ⟨⟨l, hl, e⟩, _⟩ := nxtF_mem (ways_nodup ls h.rise fun x hx => (h.ids x hx).1) ha
  unfold allLd at hl
  obtain ⟨j, hj, rfl⟩ := List.mem_map.1 hl
  rw [List.mem_range] at hj
  have h2' : j / 2 < xs.length := by omega
  have hx : xs.getD (j / 2) default ∈ xs := by rw [List.getD_eq_getElem?_getD, List.getElem?_eq_getElem h2']; exact List.getElem_mem h2'
  have i1 := h.ids _ hx
  have i2 : -1000000 ≤ ldW xs j ∧ ldW xs j ≤ 1000000 := by
    unfold ldW
    split <;> omega
  have e' : k = -ldW xs j := e
  omega
theorem ringsL_len (xs : List ER) (ls : List (List Pp)) : (ringsL xs ls).length ≤ 2 * xs.length := by
  have h := ringsS_len (2 * xs.length + 1) (nxtF (allLd xs ls)) (waysL xs ls)
  have e : (waysL xs ls).length = 2 * xs.length := by unfold waysL allLd; rw [List.length_map, List.length_map, List.length_range]
  unfold ringsL
  omega
theorem nrow_base {W : World} {base base' : Nat} {v : Value} {zs : List Int} (h : NRow W base v zs) (hb : base' ≤ base) : NRow W base' v zs := by
  refine ⟨h.1, ?_⟩
  rcases h.2 with h0 | ⟨g, cap, cur, h1, h2, h3, h4⟩
  · exact .inl h0
  · exact .inr ⟨g, cap, cur, h1, Nat.le_trans hb h2, h3, h4⟩
theorem fstE_mem {id : Int} {xs : List ER} {x : ER} (h : fstE id xs = some x) : x ∈ xs := List.mem_of_find?_eq_some h
theorem fromF_ok {w : World} {b off n : Nat} {ao : Option Addr} {xs : List ER} {ls : List (List Pp)} (h : PlE w b off n ao xs ls) (way : Int) : -1000000 ≤ fromF xs way ∧ fromF xs way ≤ 1000000 := by
  unfold fromF edgeF
  cases h1 : fstE way xs with
  | some x =>
    have := h.nodes x (fstE_mem h1)
    simp
    omega
  | none =>
    cases h2 : fstE (-way) xs with
    | some x =>
      have := h.nodes x (fstE_mem h2)
      simp
      omega
    | none => simp [noE]

/-- An outer border more: its number, then both rows. -/
theorem LkI.stepO {w W : World} {P R S B N b : Nat} {pv : Array Value} {f : Int → Option Int} {vv uv : Value} {zs : List Zb} {ys : List Bd} {x : Bd} {bp : BP} {M : Nat} (hM : ys.length = M) (h : LkI w P R S B pv N f vv uv zs ys W) (ho : Own1 w R S B vv uv W b x) (hx : BdIs W w.heap.size { x with nr := (M : Int) + 1 } bp) (hS : w.heap.size ≤ S) (hRS : R ≠ S) (hl : M ≤ 100000) (hz : zs.length ≤ 100000) :
    ∃ W8, W.setCell ⟨b, 8, none⟩ (.int .i64 ((M : Int) + 1)) = W8 ∧ W8.heap[b]? = some (bdO { x with nr := (M : Int) + 1 }) ∧ W8.heap[S]? = some (.cells #[vv, uv] 101 (0, 0)) ∧
      ∃ uo' uc' W9, (Builtin.append_ #[99, 99] 99 #[uv, .slice (some ⟨W8.heap.size, 0, none⟩) 1 1]).run Tryz.prog (W8.alloc (bdO { x with nr := (M : Int) + 1 })) = .ok (.slice uo' (M + 1) uc') W9 ∧ W9.heap[S]? = some (.cells #[vv, uv] 101 (0, 0)) ∧
      ∃ W10, W9.setCell ⟨S, 1, none⟩ (.slice uo' (M + 1) uc') = W10 ∧ W10.heap[b]? = some (bdO { x with nr := (M : Int) + 1 }) ∧ W10.heap[S]? = some (.cells #[vv, .slice uo' (M + 1) uc'] 101 (0, 0)) ∧
      ∃ vo' vc' W11, (Builtin.append_ #[99, 99] 99 #[vv, .slice (some ⟨W10.heap.size, 0, none⟩) 1 1]).run Tryz.prog (W10.alloc (bdO { x with nr := (M : Int) + 1 })) = .ok (.slice vo' (zs.length + 1) vc') W11 ∧ W11.heap[S]? = some (.cells #[vv, .slice uo' (M + 1) uc'] 101 (0, 0)) ∧
      ∃ W12, W11.setCell ⟨S, 0, none⟩ (.slice vo' (zs.length + 1) vc') = W12 ∧ LkI w P R S B pv N f (.slice vo' (zs.length + 1) vc') (.slice uo' (M + 1) uc') (zs ++ [({ x with nr := (M : Int) + 1 }, bp)]) (ys ++ [{ x with nr := (M : Int) + 1 }]) W12 ∧ KT W W12 := by
  subst hM
  have h8 := h.box (i := 8) ho (.int .i64 ((ys.length : Int) + 1))
  have hb8 := bd_numb ho.at' ((ys.length : Int) + 1)
  have hk8 := KT.set1 (i := 8) ho.at' (.int .i64 ((ys.length : Int) + 1))
  generalize W.setCell ⟨b, 8, none⟩ (.int .i64 ((ys.length : Int) + 1)) = W8 at h8 hb8 hk8
  have hx8 := hx.kt hk8
  generalize { x with nr := (ys.length : Int) + 1 } = x2 at hb8 hx8 ⊢
  have o8 : Own1 w R S B vv uv W8 b x2 := ⟨hb8, ho.base, ho.nR, ho.nS, ho.nV, ho.nU⟩
  refine ⟨W8, rfl, hb8, h8.srv, ?_⟩
  obtain ⟨uo', uc', W9, hr9, hS9, h10, o10, hk10⟩ := h8.addO o8 hS hRS hl
  refine ⟨uo', uc', W9, hr9, hS9, ?_⟩
  generalize Value.slice uo' (ys.length + 1) uc' = U at h10 o10 hk10 ⊢
  generalize W9.setCell ⟨S, 1, none⟩ U = W10 at h10 o10 hk10
  refine ⟨W10, rfl, o10.at', h10.srv, ?_⟩
  obtain ⟨vo', vc', W11, hr11, hS11, h12, hk12⟩ := h10.addB o10 (hx8.kt hk10) hS hRS hz
  exact ⟨vo', vc', W11, hr11, hS11, _, rfl, h12, hk8.trans (hk10.trans hk12)⟩
/-- A border more that is no outer one. -/
theorem LkI.stepB {w W : World} {P R S B N b : Nat} {pv : Array Value} {f : Int → Option Int} {vv uv : Value} {zs : List Zb} {ys : List Bd} {x : Bd} {bp : BP} (h : LkI w P R S B pv N f vv uv zs ys W) (ho : Own1 w R S B vv uv W b x) (hx : BdIs W w.heap.size x bp) (hS : w.heap.size ≤ S) (hRS : R ≠ S) (hz : zs.length ≤ 100000) :
    ∃ vo' vc' W11, (Builtin.append_ #[99, 99] 99 #[vv, .slice (some ⟨W.heap.size, 0, none⟩) 1 1]).run Tryz.prog (W.alloc (bdO x)) = .ok (.slice vo' (zs.length + 1) vc') W11 ∧ W11.heap[S]? = some (.cells #[vv, uv] 101 (0, 0)) ∧
      ∃ W12, W11.setCell ⟨S, 0, none⟩ (.slice vo' (zs.length + 1) vc') = W12 ∧ LkI w P R S B pv N f (.slice vo' (zs.length + 1) vc') uv (zs ++ [(x, bp)]) ys W12 ∧ KT W W12 := by
  obtain ⟨vo', vc', W11, hr11, hS11, h12, hk12⟩ := h.addB ho hx hS hRS hz
  exact ⟨vo', vc', W11, hr11, hS11, _, rfl, h12, hk12⟩

theorem KG.kt {g : Nat} {W W' : World} (h : KG g W W') (hg : ∃ c, W.heap[g]? = some (.cells c 105 (0, 0))) : KT W W' := ⟨h.size, fun k c t q hk h1 _ => h.keep k (lt_of_heap hk) (fun e => by
  subst e
  obtain ⟨c', hc⟩ := hg
  rw [hk] at hc
  injection hc with hc
  injection hc with _ e2 _
  exact h1 e2)⟩
theorem KT.res {W : World} {b : Nat} {cs : Array Value} (h : W.heap[b]? = some (.cells cs 101 (0, 0))) (u v : Value) : KT W ((W.setCell ⟨b, 0, none⟩ u).setCell ⟨b, 1, none⟩ v) := ⟨by rw [World.size_setCell, World.size_setCell]; exact Nat.le_refl _, fun k c t q hk _ h2 => by
  have hne : k ≠ b := fun e => by
    subst e
    rw [h] at hk
    injection hk with hk
    injection hk with _ e2 _
    exact h2 e2.symm
  rw [RowKit.Below.heap_setCell _ _ _ _ hne, RowKit.Below.heap_setCell _ _ _ _ hne]⟩
/-- What a look leaves. -/
theorem LkI.sv {w W W' : World} {P R S B N : Nat} {pv : Array Value} {f : Int → Option Int} {vv uv : Value} {zs : List Zb} {ys : List Bd} (h : LkI w P R S B pv N f vv uv zs ys W) (hys : ys = (zs.filter (fun z => z.2.out)).map (·.1)) (hkt : KT W W') (hv : ∀ g, vv.ownBlock = some g → W'.heap[g]? = W.heap[g]?) {bo : Option Addr} {bc : Nat} (hvv : vv = .slice bo zs.length bc) {g n : Nat} {oo : Option Addr} (hat : 1 ≤ n → oo = some ⟨g, 0, none⟩) (hn : ys.length = n) (hn2 : n ≤ 1000) (hc : ∀ (k : Nat) (x : Bd), (sortB ys)[k]? = some x → BAt W' g (k * 9) x) :
    ∃ gb, SvIs W' w.heap.size bo oo zs.length n gb g zs (sortZ (zs.filter (fun z => z.2.out))) := by
  have hrow := brow_same h.rowB hv
  have hfst : (sortZ (zs.filter (fun z => z.2.out))).map (·.1) = sortB ys := by rw [sortZ_fst, hys]
  have his : ∀ z ∈ zs, BdIs W' w.heap.size z.1 z.2 := fun z hz => (h.is z hz).kt hkt
  have hsub : ∀ z ∈ sortZ (zs.filter (fun z => z.2.out)), z ∈ zs := fun z hz => (List.mem_filter.1 ((sortZ_mem _ z).1 hz)).1
  have hois : BrE W' g 0 n oo ((sortZ (zs.filter (fun z => z.2.out))).map fun z => (z.1, z.2.pts)) := by
    refine ⟨?_, hn2, fun k x ps hx => ?_, hat⟩
    · have q := congrArg List.length hfst
      rw [List.length_map, sortB_len, hn] at q
      rw [List.length_map, q]
    · rw [List.getElem?_map] at hx
      cases hz : (sortZ (zs.filter (fun z => z.2.out)))[k]? with
      | none => rw [hz] at hx; cases hx
      | some z =>
        rw [hz] at hx
        simp only [Option.map_some, Option.some.injEq, Prod.mk.injEq] at hx
        obtain ⟨rfl, rfl⟩ := hx
        have hb := his z (hsub z (List.mem_of_getElem? hz))
        refine ⟨?_, hb.pts.src, hb.few⟩
        rw [Nat.zero_add]
        exact hc k z.1 (by rw [← hfst, List.getElem?_map, hz]; rfl)
  have hgb : ∃ gb, (1 ≤ zs.length → bo = some ⟨gb, 0, none⟩) := by
    rcases hrow.2 with ⟨_, h0⟩ | ⟨gb, cap, cur, e, _⟩
    · exact ⟨0, fun h1 => by rw [List.length_map] at h0; omega⟩
    · rw [hvv] at e
      injection e with e1 _ _
      exact ⟨gb, fun _ => e1⟩
  obtain ⟨gb, hgb⟩ := hgb
  refine ⟨gb, rfl, hgb, fun k z hz => ?_, hois, his, hsub⟩
  have h1 : 1 ≤ zs.length := by have := (List.getElem?_eq_some_iff.1 hz).1; omega
  rw [hvv, hgb h1] at hrow
  have q := BRow.at hrow (by rw [List.length_map]) (k := k) (x := z.1) (by rw [List.getElem?_map, hz]; rfl)
  rw [Nat.zero_add] at q
  exact q
set_option maxRecDepth 100000 in
set_option maxHeartbeats 3200000 in
theorem stableB_nil (w : World) (ao : Option Addr) (cap : Nat) :
    Calls Tryz.prog 92 #[.slice ao 0 cap, .func (.func 93) #[] #[]] w fun e w' => e = .returned (.tuple #[]) ∧ Below w.heap.size w w' := by
  have HI := hid (show Calls Tryz.prog 152 #[.slice ao 0 cap, .int .i64 0, .int .i64 0, .func (.func 93) #[] #[]] w fun e w' => e = .returned (.tuple #[]) ∧ Below w.heap.size w w' by
    go_enter Tryz.func152, Tryz.ntmps152
    go_wp2
    go_loopw [8, 9] (fun iv _ wr => iv = .int .i64 1 ∧ wr = w) (fun _ _ _ => 0)
    case atStart => exact ⟨rfl, rfl⟩
    case round =>
      obtain ⟨rfl, rfl⟩ := hrel
      go_wp2
      go_end0
      exact ⟨rfl, Below.refl _ _⟩)
  have HS := hid (show Calls Tryz.prog 122 #[.slice ao 0 cap, .int .i64 0, .func (.func 93) #[] #[]] w fun e w' => e = .returned (.tuple #[]) ∧ Below w.heap.size w w' by
    go_enter Tryz.func122, Tryz.ntmps122
    go_wp2
    go_loopw [7, 8] (fun av bv wr => av = .int .i64 0 ∧ bv = .int .i64 20 ∧ wr = w) (fun _ _ _ => 0)
    case atStart => exact ⟨rfl, rfl, rfl⟩
    case round =>
      obtain ⟨rfl, rfl, rfl⟩ := hrel
      go_wp2_with (go_at_call 152; refine HI.out.mono ?_; rintro e w1 ⟨rfl, hb1⟩; have H1 := hid hb1; clear hb1 HI)
      go_loopw [6, 7, 8, 9] (fun sv _ _ _ wq => sv = .int .i64 20 ∧ wq = w1) (fun _ _ _ _ _ => 0)
      case atStart => exact ⟨rfl, rfl⟩
      case round =>
        obtain ⟨rfl, rfl⟩ := hrel
        go_wp2
        go_end0
        exact ⟨rfl, H1.out⟩)
  clear HI
  go_enter Tryz.func92, Tryz.ntmps92
  go_wp2_with (go_at_call 122; refine HS.out.mono ?_; rintro e w1 ⟨rfl, hb1⟩; have H1 := hid hb1; clear hb1 HS)
  go_end0
  exact ⟨rfl, H1.out⟩

set_option maxRecDepth 100000 in
set_option maxHeartbeats 12800000 in
theorem look_any {w : World} {b off n cap : Nat} {ao : Option Addr} {xs : List ER} {ls : List (List Pp)} (h : PlE w b off n ao xs ls) (no : Option Addr) (nl nc : Nat) (hP : ∀ r ∈ ringsL xs ls, (ringPtsF xs ls r).length ≤ 4096) (hout : ((bordersL xs ls).filter BP.out).length ≤ 19) :
    Calls Tryz.prog 60 #[plV (.slice no nl nc) (.slice ao n cap)] w fun e w' => ∃ bo bl bc oo ol oc gb g zs os, e = .returned (.agg #[.slice bo bl bc, .slice oo ol oc]) ∧ SvIs w' w.heap.size bo oo bl ol gb g zs os ∧ zs.map (·.2) = bordersL xs ls ∧ os.map (·.2) = outersL xs ls ∧ ol = ((bordersL xs ls).filter BP.out).length ∧ Below w.heap.size w w' := by
  obtain ⟨wP, hwP⟩ : ∃ wP, w.alloc (.cells #[.slice no nl nc, .slice ao n cap] 32) = wP := ⟨_, rfl⟩
  have hbP : Below w.heap.size w wP := by rw [← hwP]; exact (Below.refl _ w).alloc (Nat.le_refl _) _
  have sP : wP.heap.size = w.heap.size + 1 := by rw [← hwP]; simp
  have hhP : wP.heap[w.heap.size]? = some (.cells #[.slice no nl nc, .slice ao n cap] 32 (0, 0)) := by rw [← hwP]; exact World.alloc_heap_new w _
  obtain ⟨wR, hwR⟩ : ∃ wR, wP.alloc (.cells #[.slice none 0 0, .slice none 0 0] 101) = wR := ⟨_, rfl⟩
  have hbR : Below wP.heap.size wP wR := by rw [← hwR]; exact (Below.refl _ wP).alloc (Nat.le_refl _) _
  have sR : wR.heap.size = wP.heap.size + 1 := by rw [← hwR]; simp
  have hhR : wR.heap[wP.heap.size]? = some (.cells #[.slice none 0 0, .slice none 0 0] 101 (0, 0)) := by rw [← hwR]; exact World.alloc_heap_new wP _
  obtain ⟨wS, hwS⟩ : ∃ wS, wR.alloc (.cells #[.slice none 0 0, .slice none 0 0] 101) = wS := ⟨_, rfl⟩
  have hbS : Below wR.heap.size wR wS := by rw [← hwS]; exact (Below.refl _ wR).alloc (Nat.le_refl _) _
  have sS : wS.heap.size = wR.heap.size + 1 := by rw [← hwS]; simp
  have hhS : wS.heap[wR.heap.size]? = some (.cells #[.slice none 0 0, .slice none 0 0] 101 (0, 0)) := by rw [← hwS]; exact World.alloc_heap_new wR _
  have hb : Below w.heap.size w wS := (hbP.trans (hbR.mono (by omega))).trans (hbS.mono (by omega))
  have hhP2 := (hbS.block w.heap.size (by omega)).trans ((hbR.block w.heap.size (by omega)).trans hhP)
  have hhR2 := (hbS.block wP.heap.size (by omega)).trans hhR
  have HPO := hid (partsOf_any (cap := cap) (h.below hb) no nl nc)
  have HRI := hid (fun W (hW : Below w.heap.size w W) => rings_any (cap := cap) (h.below hW) no nl nc)
  have HFR := hid (fun way (h0 : -1000000 ≤ way ∧ way ≤ 1000000) W (hW : Below w.heap.size w W) => show Calls Tryz.prog 91 #[plV (.slice no nl nc) (.slice ao n cap), .int .i64 way] W fun e w' => e = .returned (.int .i64 (fromF xs way)) ∧ Below W.heap.size W w' from from_any (w := W) (cap := cap) h.len (Nat.le_trans h.few (by decide)) (fun k x hx => (h.cells k x hx).below hW (h.cells k x hx).lt) h.at' no nl nc way (by omega) (by omega))
  have HOK := hid (fun r (hr : r ∈ ringsL xs ls) => ringsL_ok h hr)
  have HFO := hid (fromF_ok h)
  have HLE := hid (ringsL_len xs ls)
  have HH := hid h
  have HP := hid hP
  have HOUT := hid hout
  have HB := hid (And.intro hb (And.intro hhP2 (And.intro hhR2 hhS)))
  have HSZ := hid (And.intro sP (And.intro sR sS))
  have hfew := h.few
  have hxl := h.len
  have c0 : wS.cell? ⟨w.heap.size, 0, none⟩ = some (.slice no nl nc) := by simp [World.cell?, hhP2]
  have c1 : wS.cell? ⟨w.heap.size, 1, none⟩ = some (.slice ao n cap) := by simp [World.cell?, hhP2]
  clear h hP hout hbP hhP hbR hhR hbS hhS hb hhP2 hhR2 sP sR sS
  go_enter Tryz.func60, Tryz.ntmps60
  go_wp2_with (first
    | (go_at_call 87; refine HPO.out.mono ?_; rintro e w1 ⟨B, N0, rfl, hB, hN0, hm, hrk, hb1⟩; have H1 := hid (And.intro hB (And.intro hN0 (And.intro hm (And.intro hrk hb1)))); have d0 := cell_below c0 hb1 (lt_of_cell c0); have d1 := cell_below c1 hb1 (lt_of_cell c1); clear HPO hB hN0 hm hrk hb1)
    | (go_at_call 88; refine (HRI.out _ (HB.out.1.trans (H1.out.2.2.2.2.mono HB.out.1.size))).mono ?_; rintro e w2 ⟨rv, rfl, hrg, hb2⟩; obtain ⟨ro, rc, rfl⟩ := rgr_form hrg; have H2 := hid (And.intro hrg hb2); clear HRI hrg hb2 d0 d1))
  obtain ⟨RS, hRS⟩ : ∃ RS, ringsL xs ls = RS := ⟨_, rfl⟩
  obtain ⟨K, hK⟩ : ∃ K, RS.length = K := ⟨_, rfl⟩
  rw [hRS] at HOK HP HLE H2
  rw [hRS, hK]
  rw [hK] at HLE H2
  have HRS := hid hRS
  have HK := hid hK
  have HRA := hid (fun (h1 : 1 ≤ K) => rgr_addr H2.out.1 (by omega))
  have hKb : K ≤ 800 := by have := HLE.out; omega
  clear hRS hK c0 c1
  go_loopw [13] (fun iv wr => ∃ (i N : Nat) (f : Int → Option Int) (vv uv : Value) (zs : List Zb) (ys : List Bd), i ≤ K ∧ iv = .int .i64 (i : Int) ∧ LkI w w.heap.size wP.heap.size wR.heap.size B #[.slice no nl nc, .slice ao n cap] N f vv uv zs ys wr ∧ (f, zs.map (·.2)) = lookF n xs ls (RS.take i) ∧ ys = (zs.filter (fun z => z.2.out)).map (·.1) ∧ zs.length = i ∧ N ≤ 400000 + i * (n + 1) ∧ (∃ rk, Rk f rk n) ∧ RgR wr w1.heap.size (.slice ro K rc) RS) (fun iv _ => K - (intOf iv).toNat)
  case atStart =>
    obtain ⟨hB, hN0, hm, hrk, hb1⟩ := H1.out
    obtain ⟨hrg, hb2⟩ := H2.out
    obtain ⟨hb, hhP, hhR, hhS⟩ := HB.out
    have hb12 : Below wS.heap.size wS w2 := hb1.trans (hb2.mono hb1.size)
    exact ⟨0, N0, partsF n xs, .slice none 0 0, .slice none 0 0, [], [], Nat.zero_le _, rfl, ⟨(hb12.block _ (lt_of_heap hhP)).trans hhP, (hb12.block _ (lt_of_heap hhR)).trans hhR, (hb12.block _ (lt_of_heap hhS)).trans hhS, MapV.kept hm (grownOf hb2) (by simp), BRow.nil _ _, BRow.nil _ _, (fun g e => by cases e), (fun z hz => by cases hz), hb.trans (hb12.mono hb.size)⟩, rfl, rfl, rfl, by omega, hrk, hrg⟩
  case round =>
    obtain ⟨i, N, f, vv, uv, zs, ys, hi, rfl, hI, hlk, hys, hzl, hN, hrk, hrg⟩ := hrel
    by_cases hlt : i < K
    · have hltI : (i : Int) < (K : Int) := by omega
      obtain ⟨rg, rfl⟩ := HRA.out (by omega)
      obtain ⟨r, hr⟩ : ∃ r, RS[i]? = some r := ⟨RS[i]'(by have := HK.out; omega), by rw [List.getElem?_eq_getElem]⟩
      obtain ⟨hr0, hrb, hrl⟩ := HOK.out r (List.mem_of_getElem? hr)
      obtain ⟨u, hcu, hnu⟩ := rgr_at hrg hr
      obtain ⟨wo, wc, rfl⟩ := hnu.form
      obtain ⟨k0, r', rfl⟩ : ∃ k0 r', r = k0 :: r' := by
        cases r with
        | nil => exact absurd rfl hr0
        | cons k0 r' => exact ⟨k0, r', rfl⟩
      have hP1 := HP.out _ (List.mem_of_getElem? hr)
      have HBO := hid (borderOf_any (cap := cap) (HH.out.below hI.below) no nl nc hnu.nums hrl hrb hP1)
      have hpl := hI.pln
      have c0 : wr.cell? ⟨w.heap.size, 0, none⟩ = some (.slice no nl nc) := by simp [World.cell?, hpl]
      have c1 : wr.cell? ⟨w.heap.size, 1, none⟩ = some (.slice ao n cap) := by simp [World.cell?, hpl]
      obtain ⟨L, hL⟩ : ∃ L, (k0 :: r').length = L := ⟨_, rfl⟩
      rw [hL] at hcu HBO
      have hL1 : 1 ≤ L := by rw [← hL]; exact Nat.succ_pos _
      obtain ⟨wg, hwg, hck⟩ : ∃ wg, wo = some ⟨wg, 0, none⟩ ∧ wr.cell? ⟨wg, 0, none⟩ = some (.int .i64 k0) := by
        rcases hnu.2 with ⟨_, h0⟩ | ⟨g, cap', cur, e, _⟩
        · simp at h0
        · injection e with e1 e2 e3
          subst e1 e3
          exact ⟨g, rfl, hnu.cellAt 0 (by simp)⟩
      subst hwg
      obtain ⟨ps, hps⟩ : ∃ ps, ringPtsF xs ls (k0 :: r') = ps := ⟨_, rfl⟩
      rw [hps] at HBO hP1
      have HI := hid hI
      have HRG := hid hrg
      have HNU := hid hnu
      have HLK := hid hlk
      have HYS := hid (And.intro hys (And.intro hzl (And.intro hN hrk)))
      have HR := hid (And.intro hr (And.intro hps (And.intro hL hP1)))
      clear hI hrg hnu hlk hys hzl hN hrk hr hr0 hps hL hP1 hrl hpl
      have HRB := hid (hrb k0 List.mem_cons_self)
      clear hrb
      have HOF := hid (fun W (hm : MapI W B N f) => of_any (m := n) hm HYS.out.2.2.2.choose_spec (Nat.le_refl _) (by have q1 := HYS.out.2.2.1; have q2 : i * (n + 1) ≤ 800 * (400 + 1) := Nat.mul_le_mul (by have := HLE.out; omega) (by omega); omega) (HFO.out k0))
      obtain ⟨F0, hF0⟩ : ∃ F0, fromF xs k0 = F0 := ⟨_, rfl⟩
      have HF1 := hid (fun W hW => HFR.out k0 HRB.out W hW)
      rw [hF0] at HOF HF1
      obtain ⟨Z, hZ⟩ : ∃ Z, ofS n f F0 = Z := ⟨_, rfl⟩
      rw [hZ] at HOF
      have HZ := hid (And.intro hF0 hZ)
      clear hF0 hZ
      go_wp2_with (first
        | (go_at_call 89; refine HBO.out.mono ?_; rintro e w3 ⟨⟨po, pc, rfl, hpr⟩, hb3⟩; obtain ⟨x0, hx0⟩ : ∃ x0, bordF (some ⟨wg, 0, none⟩) L wc po pc ps = x0 := ⟨_, rfl⟩; rw [hx0]; obtain ⟨Wb, hWb⟩ : ∃ Wb, w3.alloc (bdO x0) = Wb := ⟨_, rfl⟩; have hbb : Below w3.heap.size w3 Wb := (by rw [← hWb]; exact (Below.refl _ w3).alloc (Nat.le_refl _) _); have hhb : Wb.heap[w3.heap.size]? = some (bdO x0) := (by rw [← hWb]; exact bd_new w3 x0); have hB1 : Below wr.heap.size wr Wb := hb3.trans (hbb.mono hb3.size); have q0 := cell_below c0 hB1 (lt_of_cell c0); have q1 := cell_below c1 hB1 (lt_of_cell c1); have q2 := cell_below hck hB1 (lt_of_cell hck); have hlw : wg < w3.heap.size := Nat.lt_of_lt_of_le (lt_of_cell hck) hb3.size; have hlB : B < w3.heap.size := (by obtain ⟨o, ho, _⟩ := mapI_block HI.out.map; exact Nat.lt_of_lt_of_le (lt_of_heap ho) hb3.size); have hlw0 : w.heap.size < w3.heap.size := Nat.lt_of_lt_of_le (lt_of_heap HI.out.pln) hb3.size; have HNE := hid (And.intro hlw (And.intro hlB hlw0)); have H3 := hid (And.intro hx0 (And.intro (hpr.below hbb) (And.intro hb3 (And.intro hB1 hhb)))); clear HBO hpr hb3 hcu c0 c1 hck hx0 hbb hhb hB1 hlw hlB hlw0))
      have HLB := hid (HI.out.fresh H3.out.2.2.2.1)
      have HRGB := hid (rgr_kt HRG.out (KT.below H3.out.2.2.2.1))
      have HNB := hid (HNU.out.below H3.out.2.2.2.1)
      have HWB := hid (show wg ≠ B from fun e => by
        obtain ⟨o, ho, hc⟩ := mapI_block HLB.out.map
        rcases HNB.out.2 with ⟨e1, _⟩ | ⟨g, cap', cur, e1, _, e3, _⟩
        · cases e1
        · injection e1 with e1 _ _
          injection e1 with e1
          injection e1 with e1 _ _
          subst e1
          rw [e, ho] at e3
          injection e3 with e3
          subst e3
          cases hc)
      go_region_held (fun w' => w'.cell? ⟨w.heap.size, 0, none⟩ = some (.slice no nl nc) ∧ w'.cell? ⟨w.heap.size, 1, none⟩ = some (.slice ao n cap) ∧ w'.cell? ⟨wg, 0, none⟩ = some (.int .i64 k0)) (first | exact ⟨q0, q1, q2⟩ | exact HX4.out | exact HX5.out | exact HX6.out) (first
        | (go_at_call 91; refine (HF1.out _ HLB.out.below.drew).mono ?_; rintro e w4 ⟨rfl, hb4⟩; have HX4 := hid (And.intro (cell_below (show Wb.drew.cell? ⟨w.heap.size, 0, none⟩ = _ from q0) hb4 (lt_of_cell q0)) (And.intro (cell_below (show Wb.drew.cell? ⟨w.heap.size, 1, none⟩ = _ from q1) hb4 (lt_of_cell q1)) (cell_below (show Wb.drew.cell? ⟨wg, 0, none⟩ = _ from q2) hb4 (lt_of_cell q2)))); have hBb4 : Below Wb.heap.size Wb w4 := (Below.refl _ Wb).drew.trans hb4; have HL4 := hid (HLB.out.fresh hBb4); have H4 := hid (And.intro hBb4 ((hBb4.block _ (lt_of_heap H3.out.2.2.2.2)).trans H3.out.2.2.2.2)); clear HF1 hb4 hBb4)
        | (go_at_call 90; refine (HOF.out w4 HL4.out.map).mono ?_; rintro e w5 ⟨rfl, ⟨N5, hN5, hm5⟩, hg5⟩; have HX5 := hid (And.intro (cell_grown hg5 HX4.out.1 (by have := H1.out.1; have := HB.out.1.size; have := HSZ.out; omega)) (And.intro (cell_grown hg5 HX4.out.2.1 (by have := H1.out.1; have := HB.out.1.size; have := HSZ.out; omega)) (cell_grown hg5 HX4.out.2.2 HWB.out))); have HX6 := hid (show (w5.setCell ⟨w3.heap.size, 7, none⟩ (.int .i64 Z.1)).cell? ⟨w.heap.size, 0, none⟩ = some (.slice no nl nc) ∧ (w5.setCell ⟨w3.heap.size, 7, none⟩ (.int .i64 Z.1)).cell? ⟨w.heap.size, 1, none⟩ = some (.slice ao n cap) ∧ (w5.setCell ⟨w3.heap.size, 7, none⟩ (.int .i64 Z.1)).cell? ⟨wg, 0, none⟩ = some (.int .i64 k0) from ⟨(cellSame _ (RowKit.Below.heap_setCell _ _ _ _ (fun e => by have e' : w.heap.size = w3.heap.size := e; have := HNE.out.2.2; omega))).trans HX5.out.1, (cellSame _ (RowKit.Below.heap_setCell _ _ _ _ (fun e => by have e' : w.heap.size = w3.heap.size := e; have := HNE.out.2.2; omega))).trans HX5.out.2.1, (cellSame _ (RowKit.Below.heap_setCell _ _ _ _ (fun e => by have e' : wg = w3.heap.size := e; have := HNE.out.1; omega))).trans HX5.out.2.2⟩); have h5 := (hg5.block _ (lt_of_heap H4.out.2) (fun e => by injection e with e; have := HNE.out.2.1; omega)).trans H4.out.2; obtain ⟨y0, y1, y2, y3, y4, y5, y6, y7, y8⟩ := bd_cells h5; have f7 := bd_frozen h5 7; have H5 := hid (And.intro hN5 (And.intro hm5 (And.intro hg5 h5))); clear HOF hN5 hm5 hg5 h5))
      have HL5 := hid (HL4.out.parts H5.out.2.2.1 H5.out.2.1 (by have := H1.out.1; have := HB.out.1.size; omega))
      have HO5 := hid (show Own1 w wP.heap.size wR.heap.size B vv uv w5 w3.heap.size x0 from ⟨H5.out.2.2.2, Nat.le_of_lt HNE.out.2.2, (fun e => by have q := lt_of_heap HI.out.res; have q2 := H3.out.2.2.1.size; omega), (fun e => by have q := lt_of_heap HI.out.srv; have q2 := H3.out.2.2.1.size; omega), (fun e => by obtain ⟨_, c, hc⟩ := brow_own HI.out.rowB e; have q := lt_of_heap hc; have q2 := H3.out.2.2.1.size; omega), (fun e => by obtain ⟨_, c, hc⟩ := brow_own HI.out.rowO e; have q := lt_of_heap hc; have q2 := H3.out.2.2.1.size; omega)⟩)
      have hL6 := HL5.out.box (i := 7) HO5.out (.int .i64 Z.1)
      have h6 := bd_part HO5.out.at' Z.1
      have hk6 : KT Wb (w5.setCell ⟨w3.heap.size, 7, none⟩ (.int .i64 Z.1)) := ((KT.below H4.out.1).trans (KT.map H5.out.2.2.1 (mapI_block HL4.out.map))).trans (KT.set1 HO5.out.at' _)
      generalize w5.setCell ⟨w3.heap.size, 7, none⟩ (.int .i64 Z.1) = W6 at hL6 h6 hk6 ⊢
      obtain ⟨x1, hx1⟩ : ∃ x1, { x0 with pt := Z.1 } = x1 := ⟨_, rfl⟩
      rw [hx1] at h6
      have HX1 := hid (show ∀ m : Int, BdIs W6 w.heap.size { x1 with nr := m } ⟨k0 :: r', ps, Z.1, m⟩ from fun m => by
        have hn := nrow_other HNB.out (w' := W6) fun k c q hc => hk6.keep k c _ q hc (by decide) (by decide)
        have hp := own_keep H3.out.2.1 (w' := W6) fun k c hc => hk6.keep k c _ _ hc (by decide) (by decide)
        rw [HR.out.2.2.1] at hn
        have hn' : NRow W6 w.heap.size _ _ := nrow_base hn (Nat.le_trans HB.out.1.size H1.out.2.2.2.2.size)
        rw [← hx1, ← H3.out.1]
        exact ⟨hn', PtRow.base hp HI.out.below.size, HR.out.2.2.2, rfl, rfl, rfl, rfl, rfl, rfl, rfl⟩)
      have HAR := hid (show x1.ar = areaL ps ∧ x1.nr = 0 by rw [← hx1, ← H3.out.1]; exact ⟨rfl, rfl⟩)
      have HL6 := hid hL6
      have HO6 := hid (show Own1 w wP.heap.size wR.heap.size B vv uv W6 w3.heap.size x1 from ⟨h6, HO5.out.base, HO5.out.nR, HO5.out.nS, HO5.out.nV, HO5.out.nU⟩)
      have HRG6 := hid (rgr_kt HRGB.out hk6)
      have HOU := hid (outer_any x1 W6)
      rw [HAR.out.1] at HOU
      obtain ⟨uo, uc, hu⟩ := hL6.rowO.form
      obtain ⟨vo, vc, hv⟩ := hL6.rowB.form
      rw [List.length_map] at hv
      have HYL := hid (show ys.length = ((zs.map (·.2)).filter BP.out).length by rw [HYS.out.1, List.length_map, List.filter_map, List.length_map]; rfl)
      obtain ⟨M, hM⟩ : ∃ M, ys.length = M := ⟨_, rfl⟩
      have hM1 : M ≤ 1000 := by
        rw [← hM, HYL.out]
        have q := List.length_filter_le BP.out (zs.map (·.2))
        rw [List.length_map, HYS.out.2.1] at q
        have := HLE.out
        omega
      have HZL := hid (show zs.length ≤ 100000 by have := HYS.out.2.1; have := HLE.out; omega)
      have HSS := hid (show w.heap.size ≤ wR.heap.size ∧ wP.heap.size ≠ wR.heap.size by have := HSZ.out; omega)
      have HLK' := hid (show ∀ m : Int, m = (if 0 < areaL ps then (M : Int) + 1 else 0) → (Z.2, zs.map (·.2) ++ [⟨k0 :: r', ps, Z.1, m⟩]) = lookF n xs ls (RS.take (i + 1)) from fun m hm => by
        rw [List.take_add_one, HR.out.1]
        show _ = lookF n xs ls (RS.take i ++ [k0 :: r'])
        rw [lookF_snoc, ← HLK.out]
        unfold lookStep
        rw [List.headD_cons, HZ.out.1, HZ.out.2, HR.out.2.1, ← HYL.out, hM, hm])
      rw [hM] at hu
      have HM := hid hM
      rw [hu, hv] at HL6 HO6
      have HYF := hid (HYS.out.1)
      clear hx1 hL6 h6 hk6 hM
      obtain ⟨y0, y1, y2, y3, y4, y5, y6, y7, y8⟩ := bd_cells HO6.out.at'
      have HRK := hid (show ∃ rk, Rk Z.2 rk n by
        obtain ⟨rk, hrk⟩ := HYS.out.2.2.2
        have q := ofS_spec hrk (Nat.le_refl n) F0 (by rw [← HZ.out.1]; exact HFO.out k0)
        rw [HZ.out.2] at q
        exact ⟨_, q.1⟩)
      have HN5 := hid (show N5 ≤ 400000 + (i + 1) * (n + 1) by
        have q1 := H5.out.1
        have q2 := HYS.out.2.2.1
        rw [Nat.succ_mul]
        omega)
      cases hc : decide (0 < areaL ps) with
      | true =>
        rw [hc] at HOU
        have HC := hid (of_decide_eq_true hc)
        clear hc
        have HSO := hid (fun W (hW : Below W6.heap.size W6 W) => LkI.stepO (bp := ⟨k0 :: r', ps, Z.1, (M : Int) + 1⟩) HM.out (HL6.out.fresh hW) (HO6.out.keep (hW.block _ (lt_of_heap HO6.out.at'))) ((HX1.out ((M : Int) + 1)).below hW) HSS.out.1 HSS.out.2 (by omega) HZL.out)
        have HYF' := hid (show ys ++ [{ x1 with nr := (M : Int) + 1 }] = ((zs ++ [({ x1 with nr := (M : Int) + 1 }, (⟨k0 :: r', ps, Z.1, (M : Int) + 1⟩ : BP))]).filter (fun z : Zb => z.2.out)).map (fun z : Zb => z.1) by
          rw [List.filter_append, List.map_append, ← HYF.out]
          congr 1
          rw [List.filter_cons_of_pos (by unfold BP.out; exact decide_eq_true HC.out)]
          rfl)
        go_wp2_with (first
          | (go_at_call 64; refine HOU.out.mono ?_; rintro e w7 ⟨rfl, hb7⟩; obtain ⟨W8, hW8, hb8, hS8, uo', uc', W9, hr9, hS9, W10, hW10, hb10, hS10, vo', vc', W11, hr11, hS11, W12, hW12, hL12, hk12⟩ := HSO.out w7 hb7; have h7 := (hb7.block _ (lt_of_heap HO6.out.at')).trans HO6.out.at'; have hS7 := (hb7.block _ (lt_of_heap HL6.out.srv)).trans HL6.out.srv; have HFIN := hid (And.intro hL12 ((KT.below hb7).trans hk12)); have HR9 := hid hr9; have HR11 := hid hr11; clear y0 y1 y2 y3 y4 y5 y6 y7 y8; obtain ⟨y0, y1, y2, y3, y4, y5, y6, y7, y8⟩ := bd_cells h7; have f8 := bd_frozen h7 8; have s1 : w7.cell? ⟨wR.heap.size, 1, none⟩ = some (.slice uo M uc) := (by simp [World.cell?, hS7]); obtain ⟨z0, z1, z2, z3, z4, z5, z6, z7, z8⟩ := bd_cells hb8; have t1 : W8.cell? ⟨wR.heap.size, 1, none⟩ = some (.slice uo M uc) := (by simp [World.cell?, hS8]); have t2 : W9.cell? ⟨wR.heap.size, 1, none⟩ = some (.slice uo M uc) := (by simp [World.cell?, hS9]); have t3 : W9.frozen? ⟨wR.heap.size, 1, none⟩ = false := (by simp [World.frozen?, hS9]); obtain ⟨x0', x1', x2', x3', x4', x5', x6', x7', x8'⟩ := bd_cells hb10; have t4 : W10.cell? ⟨wR.heap.size, 0, none⟩ = some (.slice vo zs.length vc) := (by simp [World.cell?, hS10]); have t5 : W11.cell? ⟨wR.heap.size, 0, none⟩ = some (.slice vo zs.length vc) := (by simp [World.cell?, hS11]); have t6 : W11.frozen? ⟨wR.heap.size, 0, none⟩ = false := (by simp [World.frozen?, hS11]); clear hb7 hb8 hS8 hr9 hS9 hb10 hS10 hr11 hS11 hL12 hk12 h7 hS7 HSO HOU)
          | (at_builtin; refine wpList_append_run rfl (.tmp 36) (.tmp 38) 99 rfl rfl rfl HR9.out ?_; clear HR9)
          | (at_builtin; refine wpList_append_run rfl (.tmp 42) (.tmp 44) 99 rfl rfl rfl HR11.out ?_; clear HR11))
        go_roundw
        case rel => exact ⟨i + 1, N5, Z.2, _, _, _, _, by omega, by go_num, HFIN.out.1, by rw [List.map_append]; exact HLK'.out _ (by rw [if_pos HC.out]), HYF'.out, by rw [List.length_append, HYS.out.2.1]; rfl, HN5.out, HRK.out, rgr_kt HRG6.out HFIN.out.2⟩
        case measure => simp [intOf]; omega
      | false =>
        rw [hc] at HOU
        have HC := hid (of_decide_eq_false hc)
        clear hc
        have HSO := hid (fun W (hW : Below W6.heap.size W6 W) => LkI.stepB (bp := ⟨k0 :: r', ps, Z.1, 0⟩) (HL6.out.fresh hW) (HO6.out.keep (hW.block _ (lt_of_heap HO6.out.at'))) ((show BdIs W6 w.heap.size x1 ⟨k0 :: r', ps, Z.1, 0⟩ by
          have q := HX1.out 0
          have e : { x1 with nr := 0 } = x1 := by rw [← HAR.out.2]
          rw [e] at q
          exact q).below hW) HSS.out.1 HSS.out.2 HZL.out)
        have HYF' := hid (show ys = ((zs ++ [(x1, (⟨k0 :: r', ps, Z.1, 0⟩ : BP))]).filter (fun z : Zb => z.2.out)).map (fun z : Zb => z.1) by
          rw [List.filter_append, List.map_append, ← HYF.out, List.filter_cons_of_neg (by unfold BP.out; rw [decide_eq_false HC.out]; exact Bool.false_ne_true)]
          simp)
        go_wp2_with (first
          | (go_at_call 64; refine HOU.out.mono ?_; rintro e w7 ⟨rfl, hb7⟩; obtain ⟨vo', vc', W11, hr11, hS11, W12, hW12, hL12, hk12⟩ := HSO.out w7 hb7; have h7 := (hb7.block _ (lt_of_heap HO6.out.at')).trans HO6.out.at'; have hS7 := (hb7.block _ (lt_of_heap HL6.out.srv)).trans HL6.out.srv; have HFIN := hid (And.intro hL12 ((KT.below hb7).trans hk12)); have HR11 := hid hr11; clear y0 y1 y2 y3 y4 y5 y6 y7 y8; obtain ⟨y0, y1, y2, y3, y4, y5, y6, y7, y8⟩ := bd_cells h7; have t4 : w7.cell? ⟨wR.heap.size, 0, none⟩ = some (.slice vo zs.length vc) := (by simp [World.cell?, hS7]); have t5 : W11.cell? ⟨wR.heap.size, 0, none⟩ = some (.slice vo zs.length vc) := (by simp [World.cell?, hS11]); have t6 : W11.frozen? ⟨wR.heap.size, 0, none⟩ = false := (by simp [World.frozen?, hS11]); clear hb7 hr11 hS11 hL12 hk12 h7 hS7 HSO HOU)
          | (at_builtin; refine wpList_append_run rfl (.tmp 42) (.tmp 44) 99 rfl rfl rfl HR11.out ?_; clear HR11))
        go_roundw
        case rel => exact ⟨i + 1, N5, Z.2, _, _, _, _, by omega, by go_num, HFIN.out.1, by rw [List.map_append]; exact HLK'.out _ (by rw [if_neg (by have := HC.out; omega)]), HYF'.out, by rw [List.length_append, HYS.out.2.1]; rfl, HN5.out, HRK.out, rgr_kt HRG6.out HFIN.out.2⟩
        case measure => simp [intOf]; omega
    · have hltI : ¬ (i : Int) < (K : Int) := by omega
      have hiK : i = K := by omega
      rw [hiK, List.take_of_length_le (by rw [HK.out]; exact Nat.le_refl _)] at hlk
      have hbs : zs.map (·.2) = bordersL xs ls := by
        unfold bordersL
        rw [HRS.out, hxl, ← hlk]
      have hyl : ys.length = ((bordersL xs ls).filter BP.out).length := by rw [hys, List.length_map, ← hbs, List.filter_map, List.length_map]; rfl
      have hos : (sortZ (zs.filter (fun z => z.2.out))).map (·.2) = outersL xs ls := by
        unfold outersL
        rw [sortZ_snd _ (fun z hz => (hI.is z (List.mem_filter.1 hz).1).ar), ← hbs, List.filter_map]
        rfl
      obtain ⟨uo, uc, hu⟩ := hI.rowO.form
      obtain ⟨vo, vc, hv⟩ := hI.rowB.form
      rw [List.length_map] at hv
      obtain ⟨M, hM⟩ : ∃ M, ys.length = M := ⟨_, rfl⟩
      rw [hM] at hu hyl
      have hM19 : M ≤ 19 := by rw [hyl]; exact HOUT.out
      have HPL := hid (And.intro hbs (And.intro hos hyl))
      have HI := hid hI
      have HYS := hid (And.intro hys (And.intro hM hv))
      have hsr := hI.srv
      rw [hu, hv] at hsr
      have s0 : wr.cell? ⟨wR.heap.size, 0, none⟩ = some (.slice vo zs.length vc) := by simp [World.cell?, hsr]
      have s1 : wr.cell? ⟨wR.heap.size, 1, none⟩ = some (.slice uo M uc) := by simp [World.cell?, hsr]
      have HST := hid (show Calls Tryz.prog 92 #[.slice uo M uc, .func (.func 93) #[] #[]] wr fun e w' => e = .returned (.tuple #[]) ∧ ∃ g, (1 ≤ M → uo = some ⟨g, 0, none⟩) ∧ (∀ (k : Nat) (x : Bd), (sortB ys)[k]? = some x → BAt w' g (k * 9) x) ∧ KT wr w' ∧ (∀ k, k < wr.heap.size → uv.ownBlock ≠ some k → w'.heap[k]? = wr.heap[k]?) ∧ (∀ k c t q, wr.heap[k]? = some (.cells c t q) → t = 101 → g ≠ k) ∧ Below w.heap.size w w' by
        have hrow := HI.out.rowO
        by_cases h1 : 1 ≤ M
        · rcases hrow.2 with ⟨e, h0⟩ | ⟨g, cp, cur, e, hg1, hg2, hg3, hg4, hg5, hg6⟩
          · omega
          · rw [hu] at e
            injection e with e1 e2 e3
            subst e1 e3
            have hsw : SwI wr g M ys := ⟨hM, ⟨cur, hg2, by rw [hg5]; omega⟩, fun k x hx => by
              rw [hu] at hrow
              have q := BRow.at hrow hM hx
              rw [Nat.zero_add] at q
              exact q⟩
            refine (stableB_any (cap := uc) hsw hg1 hM19).mono ?_
            rintro e w' ⟨rfl, hs', hk', hb'⟩
            refine ⟨rfl, g, fun _ => rfl, hs'.cells, hk'.kt ⟨cur, hg2⟩, fun k hk hne => hk'.keep k hk (fun e => hne (by rw [hu, e]; rfl)), fun k c t q hk ht e => ?_, ?_⟩
            · subst ht
              rw [← e, hg2] at hk
              injection hk with hk
              injection hk with _ e2 _
              exact absurd e2 (by decide)
            · exact ⟨hb'.os.trans HI.out.below.os, hb'.tape.trans HI.out.below.tape, hb'.output.trans HI.out.below.output, Nat.le_trans HI.out.below.size hb'.size, fun k hk => (hb'.block k hk).trans (HI.out.below.block k hk)⟩
        · obtain rfl : M = 0 := by omega
          refine (stableB_nil wr uo uc).mono ?_
          rintro e w' ⟨rfl, hb'⟩
          have hys0 : ys = [] := List.eq_nil_of_length_eq_zero hM
          refine ⟨rfl, wr.heap.size, fun h => absurd h h1, fun k x hx => ?_, KT.below hb', fun k hk _ => hb'.block k hk, fun k c t q hk _ e => ?_, HI.out.below.trans (hb'.mono HI.out.below.size)⟩
          · rw [hys0] at hx
            simp [sortB] at hx
          · have := lt_of_heap hk
            omega)
      have HUV := hid hu
      have HST2 := hid (show Calls Tryz.prog 92 #[.slice uo M uc, .func (.func 93) #[] #[]] wr fun e w' => e = .returned (.tuple #[]) ∧ ∃ g, (1 ≤ M → uo = some ⟨g, 0, none⟩) ∧ (∀ (k : Nat) (x : Bd), (sortB ys)[k]? = some x → BAt w' g (k * 9) x) ∧ KT wr w' ∧ (∀ k, k < wr.heap.size → uv.ownBlock ≠ some k → w'.heap[k]? = wr.heap[k]?) ∧ Below w.heap.size w w' ∧ w'.heap[wP.heap.size]? = some (.cells #[.slice none 0 0, .slice none 0 0] 101 (0, 0)) ∧ g ≠ wP.heap.size ∧ w'.heap[wR.heap.size]? = some (.cells #[.slice vo zs.length vc, .slice uo M uc] 101 (0, 0)) from by
        refine HST.out.mono ?_
        rintro e w5 ⟨rfl, g, hat, hcs, hkt, hoff, hgs, hb5⟩
        have hUo : ∀ (k : Nat) (c : Array Value) (q : Nat × Nat), wr.heap[k]? = some (.cells c 101 q) → w5.heap[k]? = wr.heap[k]? := fun k c q hk => hoff k (lt_of_heap hk) (fun e => by
          obtain ⟨_, c', hc'⟩ := brow_own HI.out.rowO e
          rw [hk] at hc'
          injection hc' with hc'
          injection hc' with _ e2 _
          exact absurd e2 (by decide))
        exact ⟨rfl, g, hat, hcs, hkt, hoff, hb5, (hUo _ _ _ HI.out.res).trans HI.out.res, hgs _ _ _ _ HI.out.res rfl, (hUo _ _ _ hsr).trans hsr⟩)
      clear hI hlk hys hzl hN hrk hrg hbs hyl hos hM hsr hu hv HST
      go_wp2_with (go_at_call 92; (refine HST2.out.mono ?_; rintro e w5 ⟨rfl, g, hat, hcs, hkt, hoff, hb5, hsR, hgR, hsS⟩; have s0' : w5.cell? ⟨wR.heap.size, 0, none⟩ = some (.slice vo zs.length vc) := (by simp [World.cell?, hsS]); have s1' : w5.cell? ⟨wR.heap.size, 1, none⟩ = some (.slice uo M uc) := (by simp [World.cell?, hsS]); have r0 : w5.cell? ⟨wP.heap.size, 0, none⟩ = some (.slice none 0 0) := (by simp [World.cell?, hsR]); have r1 : w5.cell? ⟨wP.heap.size, 1, none⟩ = some (.slice none 0 0) := (by simp [World.cell?, hsR]); have f0 : w5.frozen? ⟨wP.heap.size, 0, none⟩ = false := (by simp [World.frozen?, hsR]); have f1 : w5.frozen? ⟨wP.heap.size, 1, none⟩ = false := (by simp [World.frozen?, hsR]); have H5 := hid (And.intro hat (And.intro hcs (And.intro hkt (And.intro hoff (And.intro hb5 (And.intro hsR hgR)))))); clear HST2 hat hcs hkt hoff hb5 hsR hgR hsS s0 s1))
      generalize hV : World.setCell _ _ _ = V
      have hhV : V.heap[wP.heap.size]? = some (.cells #[.slice vo zs.length vc, .slice uo M uc] 101 (0, 0)) := by
        have q := set1 (i := 1) (set1 (i := 0) H5.out.2.2.2.2.2.1 (.slice vo zs.length vc)) (.slice uo M uc)
        simp only [List.setIfInBounds_toArray, List.set_cons_zero, List.set_cons_succ] at q
        rw [← hV]
        exact q
      have hkV : ∀ k, k ≠ wP.heap.size → V.heap[k]? = w5.heap[k]? := fun k hk => by
        rw [← hV, RowKit.Below.heap_setCell _ _ _ _ hk, RowKit.Below.heap_setCell _ _ _ _ hk]
      have hktV : KT wr V := by
        rw [← hV]
        exact H5.out.2.2.1.trans (KT.res H5.out.2.2.2.2.2.1 _ _)
      have hbV : Below w.heap.size w V := by
        rw [← hV]
        have hge : w.heap.size ≤ wP.heap.size := by have := HSZ.out; omega
        exact (H5.out.2.2.2.2.1.setCell (p := ⟨wP.heap.size, 0, none⟩) hge _).setCell (p := ⟨wP.heap.size, 1, none⟩) hge _
      obtain ⟨gb, hsv⟩ := HI.out.sv (W' := V) HYS.out.1 hktV (fun k hk => by
        obtain ⟨_, c, hc⟩ := brow_own HI.out.rowB hk
        have hne : k ≠ wP.heap.size := fun e => by
          subst e
          rw [HI.out.res] at hc
          injection hc with hc
          injection hc with _ e2 _
          exact absurd e2 (by decide)
        exact (hkV k hne).trans (H5.out.2.2.2.1 k (lt_of_heap hc) (HI.out.sep k hk))) HYS.out.2.2 H5.out.1 HYS.out.2.1 (by omega) (fun k x hx => by
        obtain ⟨b0, b1, b2, b3, b4, b5, b6, b7, b8⟩ := H5.out.2.1 k x hx
        have hne : V.heap[g]? = w5.heap[g]? := hkV g H5.out.2.2.2.2.2.2
        exact ⟨(cellSame _ hne).trans b0, (cellSame _ hne).trans b1, (cellSame _ hne).trans b2, (cellSame _ hne).trans b3, (cellSame _ hne).trans b4, (cellSame _ hne).trans b5, (cellSame _ hne).trans b6, (cellSame _ hne).trans b7, (cellSame _ hne).trans b8⟩)
      have v0 : V.cell? ⟨wP.heap.size, 0, none⟩ = some (.slice vo zs.length vc) := by simp [World.cell?, hhV]
      have v1 : V.cell? ⟨wP.heap.size, 1, none⟩ = some (.slice uo M uc) := by simp [World.cell?, hhV]
      refine bodyPost_ret (v := .agg #[.slice vo zs.length vc, .slice uo M uc]) (by simp [results, Tryz.results60, go_sem, v0, v1]) rfl ?_
      exact ⟨vo, zs.length, vc, uo, M, uc, gb, g, zs, _, rfl, hsv, HPL.out.1, HPL.out.2.1, HPL.out.2.2, hbV⟩
end Go.Proofs.YtkdnkmheidbfdaaGreat
