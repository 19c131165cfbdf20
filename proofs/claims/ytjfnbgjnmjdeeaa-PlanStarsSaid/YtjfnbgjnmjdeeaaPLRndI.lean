/-
  Layer 14: the ways of a node told one by one, each with the one ahead of it.
-/
import Derived.Test.YtjfnbgjnmjdeeaaPLRnd
namespace Go.Proofs.Ytjfnbgjnmjdeeaa
open Go.RowKit Go.Shelf Go.Sort

attribute [local go_sem] Oper.semAt_some

/-- The leads of a row by its order. -/
def ordG (M : List LdT) : List LdT := (sortD (M.map (·.2.2))).map fun i => M.getD i ld0
theorem ordL_ordG (L : List LdT) : ordL L = ordG (wayS L) := rfl
theorem ordG_len (M : List LdT) : (ordG M).length = M.length := by unfold ordG; rw [List.length_map, sortD_length, List.length_map]
/-- The way ahead of the one at a place. -/
def aheadL (G : List LdT) (k : Nat) : Int := (G.getD ((k + G.length - 1) % G.length) ld0).1
theorem sortD_lt {ps : List Pp} {k z : Nat} (h : (sortD ps)[k]? = some z) : z < ps.length := by
  have hk : k < ps.length := by rw [← sortD_length]; exact (List.getElem?_eq_some_iff.1 h).1
  have h1 := sort_one (ps := ps) (F := srtF ps ps.length) ⟨fun k _ h2 => ⟨Nat.zero_le _, srtF_lt ps _ k h2⟩, srtF_blk ps ps.length⟩
  have h2 := rowF_at (srtF ps ps.length) hk
  rw [h1, natsI_at h] at h2
  injection h2 with h2
  have := srtF_lt ps ps.length k hk
  omega
theorem drewM_kr (w : World) (q Bo R b bo : Nat) : Kr Bo R b bo w (w.drewN q) := ⟨Nat.le_refl _, rfl, rfl, rfl, rfl⟩
theorem grown_drewQ (w : World) (q : Nat) : w.grownBy (w.drewN q) none := ⟨rfl, rfl, rfl, Nat.le_refl _, fun _ _ _ => rfl⟩

set_option maxRecDepth 100000 in
set_option maxHeartbeats 6400000 in
theorem round2_in (m : Nat) (hm : 2 ≤ m) (l Bo R b bo oo n cap cap' : Nat) (ao ao' : Option Addr) (M : List LdT) (J Jx : List (Ln n) → World → Prop) (W : World) (hAb : AbidesFrom W.heap.size J)
    (hY : ∀ pre x W1, J pre W1 → pre.length < n → YieldAt Fence.wide (m - 1) Try.prog l #[.int .i64 ((ordG M).getD x.1 ld0).1, .int .i64 (aheadL (ordG M) x.1)] W1 fun e W' =>
      (e = .returned (.bool true) ∧ J (pre ++ [x]) W' ∧ Kr Bo R b bo W1 W') ∨ (e = .returned (.bool false) ∧ Jx (pre ++ [x]) W'))
    (hM : RdM W Bo R b bo oo n cap cap' ao ao' M) (h0 : J [] W) :
    CallsIn Fence.wide m Try.prog 22 #[.func (.yield l) #[] #[], .pointer (some ⟨Bo, 0, none⟩), .pointer (some ⟨R, 0, none⟩)] W fun e W' => (∃ v, e = .returned v) ∧
      ((∃ zs, zs.map (·.1) = List.range n ∧ J zs W') ∨ (∃ pre, True ∧ Jx pre W')) := by
  have hfn : ∀ k, Fence.wide.fn k := fun _ => trivial
  have hmx : Try.prog.follows .mixedOrders = true := by kernel_rfl
  have HM := hid hM
  have hob := hM.obox
  have hfew := hM.few
  clear hM
  refine callsIn_of_wp Try.func22 rfl trivial ?_ rfl
  simp only [Try.ntmps22, List.size_toArray, List.length_cons, List.length_nil, Nat.reduceAdd, Nat.reduceSub, Array.replicate_succ, Array.replicate_zero, List.push_toArray, List.append_toArray, List.nil_append, List.cons_append]
  gi_wp2
  gi_loopw [4, 5, 6, 9] (fun _ _ _ i wr => ∃ (k : Nat) (pre : List (Ln n)), k ≤ n ∧ i = .int .i64 k ∧ pre.map (·.1) = List.range k ∧ J pre wr ∧ RdM wr Bo R b bo oo n cap cap' ao ao' M) (fun _ _ _ i _ => n - (intOf i).toNat)
  case atStart => exact ⟨0, [], Nat.zero_le _, rfl, rfl, h0, HM.out⟩
  case round =>
    obtain ⟨k, pre, hk, rfl, hpre, hJs, hMr⟩ := hrel
    by_cases hlt : k < n
    · have hprel : pre.length = k := by
        have := congrArg List.length hpre
        rwa [List.length_map, List.length_range] at this
      have hltI : (k : Int) < (n : Int) := by omega
      obtain rfl := hMr.at1 (by omega)
      obtain rfl := hMr.at2 (by omega)
      have hso : (sortD (M.map (·.2.2))).length = n := by rw [sortD_length, List.length_map, hMr.len]
      obtain ⟨j, hj⟩ : ∃ j : Nat, (k + n - 1) % n = j := ⟨_, rfl⟩
      have hjn : j < n := by rw [← hj]; exact Nat.mod_lt _ (by omega)
      obtain ⟨z, hz⟩ : ∃ z, (sortD (M.map (·.2.2)))[k]? = some z := ⟨_, List.getElem?_eq_getElem (by omega)⟩
      obtain ⟨y, hy'⟩ : ∃ y, (sortD (M.map (·.2.2)))[j]? = some y := ⟨_, List.getElem?_eq_getElem (by omega)⟩
      have hzn : z < n := by have := sortD_lt hz; rwa [List.length_map, hMr.len] at this
      have hyn : y < n := by have := sortD_lt hy'; rwa [List.length_map, hMr.len] at this
      obtain ⟨lz, hlz⟩ : ∃ lz, M[z]? = some lz := ⟨_, List.getElem?_eq_getElem (by rw [hMr.len]; exact hzn)⟩
      obtain ⟨ly, hly⟩ : ∃ ly, M[y]? = some ly := ⟨_, List.getElem?_eq_getElem (by rw [hMr.len]; exact hyn)⟩
      have e1 : ((ordG M).getD k ld0).1 = lz.1 := by
        unfold ordG
        rw [List.getD_eq_getElem?_getD, List.getElem?_map, hz]
        simp [List.getD_eq_getElem?_getD, hlz]
      have e2 : aheadL (ordG M) k = ly.1 := by
        unfold aheadL
        rw [ordG_len, hMr.len, hj]
        unfold ordG
        rw [List.getD_eq_getElem?_getD, List.getElem?_map, hy']
        simp [List.getD_eq_getElem?_getD, hly]
      have HY := hid (fun q => hY pre ⟨k, hlt⟩ (wr.drewN q) (hAb _ _ _ none hJs (grown_drewQ wr q) (fun r hr => by cases hr)) (by omega))
      dsimp only at HY
      rw [e1, e2] at HY
      have c0 := hMr.obox
      have c1 := hMr.lbox
      have d0 := hMr.ord k z hz
      have d1 := hMr.ord j y hy'
      obtain ⟨z0, _, _, _⟩ := hMr.lds z lz hlz
      obtain ⟨y0, _, _, _⟩ := hMr.lds y ly hly
      have hjI : (j : Int) < (n : Int) := by omega
      have hzI : (z : Int) < (n : Int) := by omega
      have hyI : (y : Int) < (n : Int) := by omega
      have hw1 : IntKind.i64.wrap ((k : Int) + (n : Int)) = (k : Int) + (n : Int) := by rw [IntKind.wrap_i64]; omega
      have hw2 : IntKind.i64.wrap ((k : Int) + (n : Int) - 1) = (k : Int) + (n : Int) - 1 := by rw [IntKind.wrap_i64]; omega
      have hn0 : ¬ (n : Int) = 0 := by omega
      have hn0B : ((n : Int) == 0) = false := by simpa using hn0
      have hmod : Int.tmod ((k : Int) + (n : Int) - 1) (n : Int) = (j : Int) := by
        rw [show (k : Int) + (n : Int) - 1 = ((k + n - 1 : Nat) : Int) by omega, ← hj]
        exact (Int.ofNat_tmod _ _).symm
      have HP := hid hpre
      have HMR := hid hMr
      obtain ⟨LZ, hLZ⟩ : ∃ LZ, lz.1 = LZ := ⟨_, rfl⟩
      obtain ⟨LY, hLY⟩ : ∃ LY, ly.1 = LY := ⟨_, rfl⟩
      rw [hLZ] at HY z0
      rw [hLY] at HY y0
      clear hpre hprel hJs hMr hz hy' hlz hly e1 e2 hj hob HM hso hLZ hLY hzn hyn hjn
      gi_wp2
      refine wpIn_region_tail 11 rfl hmx (by kernel_rfl) ?_
      simp only [List.take]
      gi_big_quiet_step (fail)
      gi_big_quiet_step (fail)
      gi_big_quiet_step (fail)
      gi_big_quiet_step (fail)
      gi_big_quiet_step (fail)
      gi_big_quiet_step (fail)
      gi_big_quiet_step (fail)
      gi_big_quiet_step (fail)
      gi_big_quiet_step (fail)
      gi_big_quiet_step (fail)
      gi_big_quiet_step (fail)
      refine wpQuietIn_nil ?_
      intro w' hw'
      obtain ⟨q1, rfl⟩ := hw'
      simp only [List.drop]
      gi_wp2
      refine wpIn_region_tail 11 rfl hmx (by kernel_rfl) ?_
      simp only [List.take]
      gi_big_quiet_step (fail)
      gi_big_quiet_step (fail)
      gi_big_quiet_step (fail)
      gi_big_quiet_step (fail)
      gi_big_quiet_step (fail)
      gi_big_quiet_step (fail)
      gi_big_quiet_step (fail)
      gi_big_quiet_step (fail)
      gi_big_quiet_step (fail)
      gi_big_quiet_step (fail)
      gi_big_quiet_step (fail)
      refine wpQuietIn_nil ?_
      intro w' hw'
      obtain ⟨q2, rfl⟩ := hw'
      obtain ⟨fn, tmps, assign, body, hy, hR⟩ := HY.out (q1 + q2)
      have HR := hid hR
      clear hR HY
      simp only [List.drop]
      gi_wp2
      refine ⟨fun _ => by omega, HR.out.mono ?_⟩
      rintro e W3 (⟨rfl, hJ3, hk3⟩ | ⟨rfl, hJx3⟩)
      · clear hy
        have HM3 := hid (HMR.out.kr ((drewM_kr wr (q1 + q2) Bo R b bo).trans hk3))
        gi_wp2
        go_roundw
        case rel =>
          refine ⟨k + 1, _, by omega, by go_num, ?_, hJ3, HM3.out⟩
          rw [List.map_append, HP.out, List.range_succ]
          rfl
        case measure => simp [intOf]; omega
      · clear hy
        gi_wp2
        refine bodyPost_ret (results_none rfl _ _ _) rfl ?_
        exact ⟨⟨_, rfl⟩, .inr ⟨_, trivial, hJx3⟩⟩
    · obtain rfl : k = n := by omega
      have HF := hid hpre
      clear hpre hMr HM hob
      gi_wp2
      go_end0
      exact ⟨⟨_, rfl⟩, .inl ⟨pre, HF.out, hJs⟩⟩
theorem round2_stops (m : Nat) (hm : 2 ≤ m) (Bo R b bo oo n cap cap' : Nat) (ao ao' : Option Addr) (M : List LdT) (w : World) (hM : RdM w Bo R b bo oo n cap cap' ao ao' M) (h1 : Bo < w.heap.size) (h2 : R < w.heap.size) (h3 : b < w.heap.size) (h4 : bo < w.heap.size) :
    SeqStopsK Fence.wide m Try.prog 22 #[.pointer (some ⟨Bo, 0, none⟩), .pointer (some ⟨R, 0, none⟩)] (fun x : Ln n => #[.int .i64 ((ordG M).getD x.1 ld0).1, .int .i64 (aheadL (ordG M) x.1)]) (Kr Bo R b bo) (fun zs => zs.map (·.1) = List.range n) (fun _ => True) n w := fun l J Jx W hW hJ _ hY h0 =>
  round2_in m hm l Bo R b bo oo n cap cap' ao ao' M J Jx W hJ hY (hM.kr (Kr.below hW (Nat.le_refl _) h1 h2 h3 h4)) h0
end Go.Proofs.Ytjfnbgjnmjdeeaa
