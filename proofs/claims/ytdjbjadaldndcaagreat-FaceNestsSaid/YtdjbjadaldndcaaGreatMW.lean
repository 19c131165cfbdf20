/-
  Layer 15, plain: what face tells does not hang on where lines lie; boxes within boxes, computed.
-/
import Derived.Test.YtdjbjadaldndcaaGreatMV
import Derived.Test.YtdjbjadaldndcaaGreatFTk
import Derived.Test.YtdjbjadaldndcaaGreatFOfW
import Derived.Test.YtdjbjadaldndcaaGreatFPt2
import Derived.Test.YtdjbjadaldndcaaGreatMS
import Derived.Test.YtdjbjadaldndcaaGreatFRegs
namespace Go.Proofs.YtdjbjadaldndcaaGreat

/-- An edge but for where its line lies, and its faces. -/
def bare (x : ER) : ER := ⟨x.id, x.st, x.en, none, 0, 0, 0, 0⟩
theorem getD_bare (xs : List ER) (k : Nat) : (xs.map bare).getD k default = bare (xs.getD k default) := by
  rw [List.getD_eq_getElem?_getD, List.getD_eq_getElem?_getD, List.getElem?_map]
  cases xs[k]? with
  | none => rfl
  | some x => rfl
theorem ldW_bare (xs : List ER) (k : Nat) : ldW (xs.map bare) k = ldW xs k := by unfold ldW; rw [getD_bare]; rfl
theorem ldN_bare (xs : List ER) (k : Nat) : ldN (xs.map bare) k = ldN xs k := by unfold ldN; rw [getD_bare]; rfl
theorem allLd_bare (xs : List ER) (ls : List (List Pp)) : allLd (xs.map bare) ls = allLd xs ls := by
  unfold allLd
  rw [List.length_map]
  refine List.map_congr_left fun k _ => ?_
  unfold ldT
  rw [ldW_bare, ldN_bare]
theorem ringsL_bare (xs : List ER) (ls : List (List Pp)) : ringsL (xs.map bare) ls = ringsL xs ls := by
  unfold ringsL waysL
  rw [allLd_bare, List.length_map]
theorem fstE_bare (id : Int) (xs : List ER) : fstE id (xs.map bare) = (fstE id xs).map bare := by
  unfold fstE
  rw [List.find?_map]
  rfl
theorem fromF_bare (xs : List ER) (way : Int) : fromF (xs.map bare) way = fromF xs way := by
  unfold fromF edgeF
  rw [fstE_bare, fstE_bare]
  cases fstE way xs with
  | some x => rfl
  | none =>
    cases fstE (-way) xs with
    | some x => rfl
    | none => rfl
theorem lnA_bare (id : Int) : ∀ (xs : List ER) (ls : List (List Pp)), lnA id (xs.map bare) ls = lnA id xs ls
  | [], _ => rfl
  | x :: xs, ls => by
    rw [List.map_cons, lnA, lnA, lnA_bare id xs ls.tail]
    rfl
theorem ringPtsF_bare (xs : List ER) (ls : List (List Pp)) (r : List Int) : ringPtsF (xs.map bare) ls r = ringPtsF xs ls r := by
  unfold ringPtsF
  congr 1
  refine List.map_congr_left fun k _ => ?_
  unfold ptsF
  rw [lnA_bare, lnA_bare]
theorem partsF_bare (m : Nat) (xs : List ER) : partsF m (xs.map bare) = partsF m xs := by
  unfold partsF
  rw [List.foldl_map]
  rfl
theorem bordersL_bare (xs : List ER) (ls : List (List Pp)) : bordersL (xs.map bare) ls = bordersL xs ls := by
  unfold bordersL lookF
  rw [ringsL_bare, List.length_map, partsF_bare]
  congr 2
  funext s r
  unfold lookStep
  rw [fromF_bare, ringPtsF_bare]
theorem outersL_bare (xs : List ER) (ls : List (List Pp)) : outersL (xs.map bare) ls = outersL xs ls := by unfold outersL; rw [bordersL_bare]

/-- The rings, the borders, computable. -/
def ringsC (xs : List ER) (ls : List (List Pp)) : List (List Int) := (ringsS (2 * xs.length + 1) (nxtC (allLd xs ls)) (waysL xs ls)).1
def bordersC (xs : List ER) (ls : List (List Pp)) : List BP := (lookF xs.length xs ls (ringsC xs ls)).2
def outersC (xs : List ER) (ls : List (List Pp)) : List BP := sortP ((bordersC xs ls).filter BP.out)
theorem ringsC_eq {xs : List ER} {ls : List (List Pp)} (hn : ((allLd xs ls).map (·.1)).Nodup) : ringsL xs ls = ringsC xs ls := by
  unfold ringsL ringsC
  rw [nxtC_eq hn]
theorem bordersC_eq {xs : List ER} {ls : List (List Pp)} (hn : ((allLd xs ls).map (·.1)).Nodup) : bordersL xs ls = bordersC xs ls := by
  unfold bordersL bordersC
  rw [ringsC_eq hn]
theorem outersC_eq {xs : List ER} {ls : List (List Pp)} (hn : ((allLd xs ls).map (·.1)).Nodup) : outersL xs ls = outersC xs ls := by
  unfold outersL outersC
  rw [bordersC_eq hn]

/-- Boxes within boxes. -/
def nestX (n : Nat) : List ER := (List.range n).map fun (i : Nat) => ⟨(i : Int) + 1, (i : Int) + 1, (i : Int) + 1, none, 0, 0, 0, 0⟩
def nestB (i : Nat) : List Pp := [(2 * (i : Int), 2 * (i : Int)), (60 - 2 * (i : Int), 2 * (i : Int)), (60 - 2 * (i : Int), 60 - 2 * (i : Int)), (2 * (i : Int), 60 - 2 * (i : Int)), (2 * (i : Int), 2 * (i : Int))]
def nestL (n : Nat) : List (List Pp) := (List.range n).map nestB
def nestN (n : Nat) : List NR := (List.range n).map fun (i : Nat) => ⟨(i : Int) + 1, 2 * (i : Int), 2 * (i : Int), -1⟩
def nestK (n : Nat) : List Int := (List.range n).map fun (i : Nat) => (i : Int) + 1
/-- All that the law asks of them. -/
def chkAt (n k : Nat) : Bool :=
  let bs := bordersC (nestX n) (nestL n)
  let os := outersC (nestX n) (nestL n)
  let s := rgsF id os bs
  (if k = 0 then (s.1 k).isNone else match s.1 k with
    | none => false
    | some b => b.ways == [(k : Int)]) &&
  (if k < n then match s.2 k with
    | [b] => b.ways == [-((k : Int) + 1)]
    | _ => false else (s.2 k).isEmpty) &&
  !takenF (nestN n) n (nestL n) (2 * (k : Int) - 1, 30) && leastP (fun _ => true) (2 * (k : Int) - 1, 30) os == (k : Int)
def chkN (n : Nat) : Bool :=
  let bs := bordersC (nestX n) (nestL n)
  ((allLd (nestX n) (nestL n)).map (·.1)).Nodup && ((ringsC (nestX n) (nestL n)).all fun r => decide ((ringPtsF (nestX n) (nestL n) r).length ≤ 4096)) &&
  (bs.filter BP.out).length == n && (List.range (n + 1)).all (chkAt n) && ((nestK n).filter fun k => partsF n (nestX n) k == some k).length == n
theorem chk_nests : ∀ n, n < 12 → chkN (n + 1) = true := by decide +kernel
end Go.Proofs.YtdjbjadaldndcaaGreat

namespace Go.Proofs.YtdjbjadaldndcaaGreat
open Go.RowKit Go.Shelf Go.Sort Go.Maps

theorem rgsF_mem {α : Type} (π : α → BP) (os : List BP) (zs : List α) (k : Nat) : (∀ z, (rgsF π os zs).1 k = some z → z ∈ zs) ∧ ∀ z ∈ (rgsF π os zs).2 k, z ∈ zs := by
  suffices h : ∀ (zs' : List α) (s : (Nat → Option α) × (Nat → List α)), (∀ z ∈ zs', z ∈ zs) → (∀ k, (∀ z, s.1 k = some z → z ∈ zs) ∧ ∀ z ∈ s.2 k, z ∈ zs) → ∀ k, (∀ z, (zs'.foldl (rgStep π os) s).1 k = some z → z ∈ zs) ∧ ∀ z ∈ (zs'.foldl (rgStep π os) s).2 k, z ∈ zs from h zs _ (fun z hz => hz) (fun k => ⟨fun z hz => (by cases hz), fun z hz => (by cases hz)⟩) k
  intro zs'
  induction zs' with
  | nil => intro s _ h; exact h
  | cons a zs' ih =>
    intro s ha h
    rw [List.foldl_cons]
    refine ih _ (fun z hz => ha z (List.mem_cons_of_mem _ hz)) fun j => ?_
    have ha0 := ha a List.mem_cons_self
    unfold rgStep updF
    by_cases ho : (π a).out = true
    · rw [if_pos ho]
      refine ⟨fun z hz => ?_, (h j).2⟩
      dsimp only at hz
      by_cases e : j = (regionP (π a) os).toNat
      · rw [if_pos e] at hz
        injection hz with hz
        rw [← hz]
        exact ha0
      · rw [if_neg e] at hz
        exact (h j).1 z hz
    · rw [if_neg ho]
      refine ⟨(h j).1, fun z hz => ?_⟩
      dsimp only at hz
      by_cases e : j = (regionP (π a) os).toNat
      · rw [if_pos e] at hz
        rcases List.mem_append.1 hz with hz | hz
        · exact (h _).2 z hz
        · rw [List.mem_singleton] at hz
          rw [hz]
          exact ha0
      · rw [if_neg e] at hz
        exact (h j).2 z hz
theorem nrow_one {W : World} {base : Nat} {v : Value} {a : Int} (h : NRow W base v [a]) : ∃ g cap, v = .slice (some ⟨g, 0, none⟩) 1 cap ∧ W.cell? ⟨g, 0, none⟩ = some (.int .i64 a) := by
  rcases h.2 with ⟨_, h0⟩ | ⟨g, cap, cur, rfl, _⟩
  · simp at h0
  · exact ⟨g, cap, rfl, h.cellAt 0 (by simp)⟩
theorem irow_one {W : World} {base : Nat} {v u : Value} (h : IRow W base v [u]) : ∃ g cap, v = .slice (some ⟨g, 0, none⟩) 1 cap ∧ W.cell? ⟨g, 0, none⟩ = some u := by
  rcases h.2 with ⟨_, h0⟩ | ⟨g, cap, cur, rfl, _⟩
  · simp at h0
  · exact ⟨g, cap, rfl, h.cellAt 0 (by simp)⟩
/-- A region's outer ring of one way. -/
theorem rg_outer {w wS W : World} {G m : Nat} {IV NV : Nat → Value} {zs : List Zb} {bs os : List BP} {nd : Nat → List Int} (hzs : zs.map (·.2) = bs) (hI : RgI wS G m (rgsF (·.2) os zs).1 IV NV (rgsF (·.2) os zs).2 nd W) (hbd : ∀ z ∈ zs, BdIs W w.heap.size z.1 z.2) {k : Nat} (hk : k < m) {b : BP} (hb : (rgsF id os bs).1 k = some b) {a : Int} (hw : b.ways = [a]) :
    ∃ g cap, W.cell? ⟨G, k * 3, none⟩ = some (.slice (some ⟨g, 0, none⟩) 1 cap) ∧ W.cell? ⟨g, 0, none⟩ = some (.int .i64 a) := by
  have q := (rgsF_map (fun z : Zb => z.2) os zs k).1
  rw [hzs, hb] at q
  obtain ⟨z, hz, hzb⟩ := Option.map_eq_some_iff.1 q
  have hr := (hbd z ((rgsF_mem _ os zs k).1 z hz)).ways
  have hzb' : z.2 = b := hzb
  rw [hzb', hw] at hr
  obtain ⟨g, cap, hv, hc⟩ := nrow_one hr
  refine ⟨g, cap, ?_, hc⟩
  rw [(hI.cells.at hk).1, hz]
  exact congrArg some hv
/-- A region's one inner ring of one way. -/
theorem rg_inner {w wS W : World} {G m : Nat} {IV NV : Nat → Value} {zs : List Zb} {bs os : List BP} {nd : Nat → List Int} (hzs : zs.map (·.2) = bs) (hI : RgI wS G m (rgsF (·.2) os zs).1 IV NV (rgsF (·.2) os zs).2 nd W) (hbd : ∀ z ∈ zs, BdIs W w.heap.size z.1 z.2) {k : Nat} (hk : k < m) {b : BP} (hb : (rgsF id os bs).2 k = [b]) {a : Int} (hw : b.ways = [a]) :
    ∃ g1 c1 g2 c2, W.cell? ⟨G, k * 3 + 1, none⟩ = some (.slice (some ⟨g1, 0, none⟩) 1 c1) ∧ W.cell? ⟨g1, 0, none⟩ = some (.slice (some ⟨g2, 0, none⟩) 1 c2) ∧ W.cell? ⟨g2, 0, none⟩ = some (.int .i64 a) := by
  have q := (rgsF_map (fun z : Zb => z.2) os zs k).2
  rw [hzs, hb] at q
  obtain ⟨z, hz, hzb⟩ : ∃ z, (rgsF (fun z : Zb => z.2) os zs).2 k = [z] ∧ z.2 = b := by
    cases hl : (rgsF (fun z : Zb => z.2) os zs).2 k with
    | nil => rw [hl] at q; cases q
    | cons z l =>
      rw [hl] at q
      rw [List.map_cons] at q
      injection q with q1 q2
      rw [List.map_eq_nil_iff] at q2
      exact ⟨z, by rw [q2], q1⟩
  have hr := (hbd z ((rgsF_mem _ os zs k).2 z (by rw [hz]; exact List.mem_cons_self))).ways
  rw [hzb, hw] at hr
  obtain ⟨g2, c2, hv2, hc2⟩ := nrow_one hr
  have hrow := hI.inn k hk
  rw [hz] at hrow
  obtain ⟨g1, c1, hv1, hc1⟩ := irow_one hrow
  refine ⟨g1, c1, g2, c2, by rw [(hI.cells.at hk).2.1]; exact congrArg some hv1, ?_, hc2⟩
  rw [hc1]
  exact congrArg some hv2
/-- A region without inner rings. -/
theorem rg_none {wS W : World} {G m : Nat} {IV NV : Nat → Value} {zs : List Zb} {bs os : List BP} {nd : Nat → List Int} (hzs : zs.map (·.2) = bs) (hI : RgI wS G m (rgsF (·.2) os zs).1 IV NV (rgsF (·.2) os zs).2 nd W) {k : Nat} (hk : k < m) (hb : (rgsF id os bs).2 k = []) :
    ∃ io ic, W.cell? ⟨G, k * 3 + 1, none⟩ = some (.slice io 0 ic) := by
  have q := (rgsF_map (fun z : Zb => z.2) os zs k).2
  rw [hzs, hb, List.map_eq_nil_iff] at q
  have hrow := hI.inn k hk
  obtain ⟨io, ic, hv⟩ := hrow.form
  rw [q] at hv
  exact ⟨io, ic, by rw [(hI.cells.at hk).2.1, hv]; rfl⟩
end Go.Proofs.YtdjbjadaldndcaaGreat

namespace Go.Proofs.YtdjbjadaldndcaaGreat
open Go.RowKit Go.Shelf Go.Sort Go.Maps

def awX : List ER := [⟨1, 1, 1, none, 0, 0, 0, 0⟩]
def awL : List (List Pp) := [[(0, 0), (4, 0), (0, 4), (0, 0)]]
def awN : List NR := [⟨1, 0, 0, -1⟩]
def chkAw : Bool :=
  let bs := bordersC awX awL
  let os := outersC awX awL
  ((allLd awX awL).map (·.1)).Nodup && ((ringsC awX awL).all fun r => decide ((ringPtsF awX awL r).length ≤ 4096)) && (bs.filter BP.out).length == 1 &&
  (match (rgsF id os bs).1 1 with
    | none => false
    | some b => b.ways == [1]) &&
  !takenF awN 1 awL (1, 1) && leastP (fun _ => true) (1, 1) os == 1 && ([(1 : Int)].filter fun k => partsF 1 awX k == some k).length == 1 && ofL (-1) os bs == 0 && (bs.all fun b => decide (b.ways.length ≤ 100000)) && decide (bs.length ≤ 1000)
theorem chk_aw : chkAw = true := by decide +kernel
end Go.Proofs.YtdjbjadaldndcaaGreat
