/-
  Layer 17, plain: a box, and where points lie to it.
-/
import Derived.Test.YtkdnkmheidbfdaaGreatN6
namespace Go.Proofs.YtkdnkmheidbfdaaGreat

def wiP : List Pp := [(0, 0), (20, 0), (20, 20), (0, 20), (0, 0)]
def wiX : List ER := [⟨1, 1, 1, none, 0, 0, 0, 0⟩]
def wiL : List (List Pp) := [wiP]
def wiN : List NR := [⟨1, 0, 0, -1⟩]
/-- Where a point lies, as the law has it. -/
def whF (x y : Int) : Int := if 0 < x ∧ x < 20 ∧ 0 < y ∧ y < 20 then 4 else if x < 0 ∨ 20 < x ∨ y < 0 ∨ 20 < y then 0 else -1
def chkB1 : Bool :=
  let bs := bordersC wiX wiL
  let os := outersC wiX wiL
  ((allLd wiX wiL).map (·.1)).Nodup && ((ringsC wiX wiL).all fun r => decide ((ringPtsF wiX wiL r).length ≤ 4096)) && (bs.filter BP.out).length == 1 && ((rgsF id os bs).1 0).isNone && ((rgsF id os bs).1 1).map (·.ways) == some [1] && os.length == 1 && (os.all fun o => o.num == 1 && o.ways == [1])
theorem chk_b1 : chkB1 = true := by decide +kernel
def chkB2 (i j : Nat) : Bool :=
  let x := (i : Int) - 5
  let y := (j : Int) - 5
  takenF wiN 1 wiL (x, y) == decide (whF x y < 0) && (takenF wiN 1 wiL (x, y) || leastP (fun _ => true) (x, y) (outersC wiX wiL) == if whF x y = 4 then 1 else 0)
theorem chk_b2 : ∀ i, i < 32 → ∀ j, j < 32 → chkB2 i j = true := by decide +kernel
end Go.Proofs.YtkdnkmheidbfdaaGreat

namespace Go.Proofs.YtkdnkmheidbfdaaGreat
open Go.RowKit Go.Shelf Go.Sort

set_option maxRecDepth 100000 in
set_option maxHeartbeats 1600000 in
theorem where_any (x y : Int) (w : World) :
    Calls Tryz.prog 5 #[pv x y] w fun e w' => e = .returned (.int .i64 (whF x y)) ∧ Below w.heap.size w w' := by
  obtain ⟨wA, hwA⟩ : ∃ wA, w.alloc (.cells #[.int .i64 x, .int .i64 y] 23) = wA := ⟨_, rfl⟩
  have hbA : Below w.heap.size w wA := by rw [← hwA]; exact (Below.refl _ w).alloc (Nat.le_refl _) _
  have hhA : wA.heap[w.heap.size]? = some (.cells #[.int .i64 x, .int .i64 y] 23 (0, 0)) := by rw [← hwA]; exact World.alloc_heap_new w _
  have x0 : wA.cell? ⟨w.heap.size, 0, none⟩ = some (.int .i64 x) := by simp [World.cell?, hhA]
  have x1 : wA.cell? ⟨w.heap.size, 1, none⟩ = some (.int .i64 y) := by simp [World.cell?, hhA]
  have HB := hid hbA
  clear hbA hhA
  by_cases a1 : 0 < x
  · by_cases a2 : x < 20
    · have b1 : ¬ x < 0 := by omega
      have b2 : ¬ 20 < x := by omega
      by_cases a3 : 0 < y
      · by_cases a4 : y < 20
        · have HV := hid (show whF x y = 4 from by unfold whF; rw [if_pos (by omega)])
          rw [HV.out]
          clear HV
          go_enter Tryz.func5, Tryz.ntmps5
          go_wp2
          go_ret
          exact ⟨rfl, HB.out⟩
        · have b3 : ¬ y < 0 := by omega
          by_cases b4 : 20 < y
          · have HV := hid (show whF x y = 0 from by unfold whF; rw [if_neg (by omega), if_pos (by omega)])
            rw [HV.out]
            clear HV
            go_enter Tryz.func5, Tryz.ntmps5
            go_wp2
            go_ret
            exact ⟨rfl, HB.out⟩
          · have HV := hid (show whF x y = -1 from by unfold whF; rw [if_neg (by omega), if_neg (by omega)])
            rw [HV.out]
            clear HV
            go_enter Tryz.func5, Tryz.ntmps5
            go_wp2
            go_ret
            exact ⟨rfl, HB.out⟩
      · by_cases b3 : y < 0
        · have HV := hid (show whF x y = 0 from by unfold whF; rw [if_neg (by omega), if_pos (by omega)])
          rw [HV.out]
          clear HV
          go_enter Tryz.func5, Tryz.ntmps5
          go_wp2
          go_ret
          exact ⟨rfl, HB.out⟩
        · have b4 : ¬ 20 < y := by omega
          have HV := hid (show whF x y = -1 from by unfold whF; rw [if_neg (by omega), if_neg (by omega)])
          rw [HV.out]
          clear HV
          go_enter Tryz.func5, Tryz.ntmps5
          go_wp2
          go_ret
          exact ⟨rfl, HB.out⟩
    · have b1 : ¬ x < 0 := by omega
      by_cases b2 : 20 < x
      · have HV := hid (show whF x y = 0 from by unfold whF; rw [if_neg (by omega), if_pos (by omega)])
        rw [HV.out]
        clear HV
        go_enter Tryz.func5, Tryz.ntmps5
        go_wp2
        go_ret
        exact ⟨rfl, HB.out⟩
      · by_cases b3 : y < 0
        · have HV := hid (show whF x y = 0 from by unfold whF; rw [if_neg (by omega), if_pos (by omega)])
          rw [HV.out]
          clear HV
          go_enter Tryz.func5, Tryz.ntmps5
          go_wp2
          go_ret
          exact ⟨rfl, HB.out⟩
        · by_cases b4 : 20 < y
          · have HV := hid (show whF x y = 0 from by unfold whF; rw [if_neg (by omega), if_pos (by omega)])
            rw [HV.out]
            clear HV
            go_enter Tryz.func5, Tryz.ntmps5
            go_wp2
            go_ret
            exact ⟨rfl, HB.out⟩
          · have HV := hid (show whF x y = -1 from by unfold whF; rw [if_neg (by omega), if_neg (by omega)])
            rw [HV.out]
            clear HV
            go_enter Tryz.func5, Tryz.ntmps5
            go_wp2
            go_ret
            exact ⟨rfl, HB.out⟩
  · by_cases b1 : x < 0
    · have HV := hid (show whF x y = 0 from by unfold whF; rw [if_neg (by omega), if_pos (by omega)])
      rw [HV.out]
      clear HV
      go_enter Tryz.func5, Tryz.ntmps5
      go_wp2
      go_ret
      exact ⟨rfl, HB.out⟩
    · have b2 : ¬ 20 < x := by omega
      by_cases b3 : y < 0
      · have HV := hid (show whF x y = 0 from by unfold whF; rw [if_neg (by omega), if_pos (by omega)])
        rw [HV.out]
        clear HV
        go_enter Tryz.func5, Tryz.ntmps5
        go_wp2
        go_ret
        exact ⟨rfl, HB.out⟩
      · by_cases b4 : 20 < y
        · have HV := hid (show whF x y = 0 from by unfold whF; rw [if_neg (by omega), if_pos (by omega)])
          rw [HV.out]
          clear HV
          go_enter Tryz.func5, Tryz.ntmps5
          go_wp2
          go_ret
          exact ⟨rfl, HB.out⟩
        · have HV := hid (show whF x y = -1 from by unfold whF; rw [if_neg (by omega), if_neg (by omega)])
          rw [HV.out]
          clear HV
          go_enter Tryz.func5, Tryz.ntmps5
          go_wp2
          go_ret
          exact ⟨rfl, HB.out⟩
end Go.Proofs.YtkdnkmheidbfdaaGreat

namespace Go.Proofs.YtkdnkmheidbfdaaGreat
open Go.RowKit Go.Shelf Go.Sort

theorem and31_nat (n : Int) : ∃ p : Nat, bits .and .i64 n 31 = (p : Int) ∧ p < 32 := by
  have h31 : (BitVec.ofInt 64 31).toNat = 2 ^ 5 - 1 := by decide
  have key : (BitVec.ofInt 64 n &&& BitVec.ofInt 64 31).toNat = (n % ((2 ^ 64 : Nat) : Int)).toNat % 2 ^ 5 := by
    rw [BitVec.toNat_and, BitVec.toNat_ofInt, h31, Nat.and_two_pow_sub_one_eq_mod]
  refine ⟨(n % ((2 ^ 64 : Nat) : Int)).toNat % 32, ?_, Nat.mod_lt _ (by decide)⟩
  show IntKind.i64.wrap ((BitVec.ofInt 64 n &&& BitVec.ofInt 64 31).toNat : Nat) = _
  rw [key, IntKind.wrap_i64]
  omega
def wiE (g : Nat) : ER := ⟨1, 1, 1, some ⟨g, 0, none⟩, 5, 5, 4, 0⟩
theorem wi_ple {W : World} {b g : Nat} (hb : W.heap[b]? = some (.cells #[.int .i64 1, .int .i64 1, .int .i64 1, .slice (some ⟨g, 0, none⟩) 5 5, .int .i64 4, .int .i64 0] 29 (0, 0))) (hg : W.heap[g]? = some (.cells (ptCells wiP).toArray 23 (0, 0))) : PlE W b 0 1 (some ⟨b, 0, none⟩) [wiE g] wiL := by
  refine ⟨rfl, by decide, deg_few (by simp), fun k x hx => ?_, fun i j x y hij hx hy => ?_, fun _ => rfl, fun h => absurd h (by decide), fun x hx => ?_, fun x hx => ?_, fun k => ?_, fun k x hx => ?_⟩
  · match k, hx with
    | 0, hx =>
      simp at hx
      subst hx
      refine ⟨?_, ?_, ?_, ?_, ?_, ?_⟩ <;> simp [World.cell?, hb, wiE]
    | k + 1, hx => simp at hx
  · have h1 := (List.getElem?_eq_some_iff.1 hx).1
    have h2 := (List.getElem?_eq_some_iff.1 hy).1
    simp at h1 h2
    omega
  · rw [List.mem_singleton] at hx
    subst hx
    exact ⟨by simp [wiE], by simp [wiE]⟩
  · rw [List.mem_singleton] at hx
    subst hx
    exact ⟨by simp [wiE], by simp [wiE], by simp [wiE], by simp [wiE]⟩
  · cases k with
    | zero => decide
    | succ k => simp [wiL]
  · match k, hx with
    | 0, hx =>
      simp at hx
      subst hx
      exact ⟨src_new (ps := wiP) hg, fun a ha => by
        injection ha with ha
        subst ha
        exact ⟨_, _, hg⟩⟩
    | k + 1, hx => simp at hx
theorem wi_nde {W : World} {b : Nat} (hb : W.heap[b]? = some (.cells #[.int .i64 1, .int .i64 0, .int .i64 0, .int .i64 (-1)] 25 (0, 0))) : NdE W b 0 1 (some ⟨b, 0, none⟩) wiN := by
  refine ⟨rfl, by decide, fun k x hx => ?_, fun _ => rfl⟩
  match k, hx with
  | 0, hx =>
    simp [wiN] at hx
    subst hx
    exact nr_cells (n := ⟨1, 0, 0, -1⟩) hb
  | k + 1, hx => simp [wiN] at hx
theorem wiN_rise : RiseN wiN := fun i j x y hij hx hy => by
  have h1 := (List.getElem?_eq_some_iff.1 hx).1
  have h2 := (List.getElem?_eq_some_iff.1 hy).1
  simp [wiN] at h1 h2
  omega
theorem wiN_ids : ∀ x ∈ wiN, -1000000 ≤ x.id ∧ x.id ≤ 1000000 := fun x hx => by rw [wiN, List.mem_singleton] at hx; subst hx; exact ⟨by decide, by decide⟩
theorem wi_un : unL (wiN.map (·.id)) = 2 := by
  obtain ⟨h1, h2, h3, h4⟩ := unL_spec [1]
  have hl : (([1] : List Int).length : Int) = 1 := rfl
  have a : unL [1] ≠ 1 := fun e => h3 (by rw [e]; simp)
  show unL [1] = 2
  omega
theorem wi_all : ((allLd wiX wiL).map (·.1)).Nodup ∧ (∀ r ∈ ringsC wiX wiL, (ringPtsF wiX wiL r).length ≤ 4096) ∧ ((bordersC wiX wiL).filter BP.out).length = 1 ∧ (rgsF id (outersC wiX wiL) (bordersC wiX wiL)).1 0 = none ∧ ∃ b, (rgsF id (outersC wiX wiL) (bordersC wiX wiL)).1 1 = some b ∧ b.ways = [1] := by
  have h := chk_b1
  unfold chkB1 at h
  simp only [Bool.and_eq_true, decide_eq_true_eq, List.all_eq_true, beq_iff_eq, Option.isNone_iff_eq_none] at h
  obtain ⟨⟨⟨⟨⟨⟨h1, h2⟩, h3⟩, h4⟩, h5⟩, _⟩, _⟩ := h
  refine ⟨h1, h2, h3, h4, ?_⟩
  cases hb : (rgsF id (outersC wiX wiL) (bordersC wiX wiL)).1 1 with
  | none => rw [hb] at h5; cases h5
  | some b => rw [hb] at h5; exact ⟨b, rfl, Option.some.inj h5⟩
theorem wi_same (g : Nat) : Same0 [wiE g] wiL wiX := ⟨rfl, wi_all.1⟩
theorem wi_plf (g : Nat) : PlF [wiE g] wiL 1 := by
  have hS := wi_same g
  obtain ⟨_, k2, k3, _⟩ := wi_all
  exact ⟨fun r hr => by rw [hS.rings] at hr; rw [hS.pts]; exact k2 r hr, by rw [hS.borders]; exact k3, by decide⟩
theorem whF_in (x y : Int) : whF x y = 4 ∨ whF x y = 0 ∨ whF x y = -1 := by
  unfold whF
  split
  · exact .inl rfl
  · split
    · exact .inr (.inl rfl)
    · exact .inr (.inr rfl)
theorem wi_taken {i j : Nat} (hi : i < 32) (hj : j < 32) : takenF wiN 1 wiL ((i : Int) - 5, (j : Int) - 5) = decide (whF ((i : Int) - 5) ((j : Int) - 5) < 0) := by
  have h := chk_b2 i hi j hj
  unfold chkB2 at h
  simp only [Bool.and_eq_true, beq_iff_eq] at h
  exact h.1
theorem wi_face {i j : Nat} (hi : i < 32) (hj : j < 32) (g : Nat) (ht : takenF wiN 1 wiL ((i : Int) - 5, (j : Int) - 5) = false) : FaceIs [wiE g] wiL ((i : Int) - 5, (j : Int) - 5) 1 (whF ((i : Int) - 5) ((j : Int) - 5)) := by
  have h := chk_b2 i hi j hj
  unfold chkB2 at h
  simp only [Bool.and_eq_true, beq_iff_eq, ht, Bool.false_or] at h
  obtain ⟨h1, h2⟩ := h
  have hn : ¬ whF ((i : Int) - 5) ((j : Int) - 5) < 0 := of_decide_eq_false h1.symm
  have hS := wi_same g
  obtain ⟨_, _, _, k4, b, k5, k6⟩ := wi_all
  unfold FaceIs
  rw [hS.outers, hS.borders]
  rcases whF_in ((i : Int) - 5) ((j : Int) - 5) with e | e | e
  · rw [e, if_pos rfl] at h2
    exact ⟨1, h2, by decide, .inr ⟨b, 1, wiE g, k5, k6, rfl, e⟩⟩
  · rw [e, if_neg (by decide)] at h2
    exact ⟨0, h2, by decide, .inl ⟨k4, e⟩⟩
  · omega
theorem chk_ok : ∀ i : Nat, i < 32 → ∀ j : Nat, j < 32 → okP ((i : Int) - 5) ((j : Int) - 5) = true := by decide +kernel
end Go.Proofs.YtkdnkmheidbfdaaGreat
