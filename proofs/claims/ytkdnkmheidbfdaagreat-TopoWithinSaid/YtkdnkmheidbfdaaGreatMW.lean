/-
  Layer 15: face's Parts.
-/
import Derived.Test.YtkdnkmheidbfdaaGreatMR
import Derived.Test.YtkdnkmheidbfdaaGreatFLook
import Derived.Test.YtkdnkmheidbfdaaGreatM5
import Derived.Test.YtkdnkmheidbfdaaGreatMV
import Derived.Test.YtkdnkmheidbfdaaGreatMS
namespace Go.Proofs.YtkdnkmheidbfdaaGreat
open Go.RowKit Go.Shelf Go.Sort Go.Maps

/-- How many of these keys stand for themselves and have come. -/
def cntF (Ks : List Int) (f : Int → Option Int) (left : Int → Bool) : Nat := (Ks.filter fun k => (f k == some k) && !left k).length
theorem cntF_step {Ks : List Int} (hn : Ks.Nodup) (f : Int → Option Int) {left : Int → Bool} {k : Int} (hl : left k = true) : k ∈ Ks → cntF Ks f (fun j => left j && !(j == k)) = cntF Ks f left + (if f k == some k then 1 else 0) := by
  unfold cntF
  induction Ks with
  | nil => intro h; cases h
  | cons a Ks ih =>
    intro h
    obtain ⟨ha, hn'⟩ := List.nodup_cons.1 hn
    by_cases e : a = k
    · subst e
      have hrest : (Ks.filter fun j => (f j == some j) && !(left j && !(j == a))) = Ks.filter fun j => (f j == some j) && !left j := List.filter_congr fun j hj => by
        have hne : (j == a) = false := beq_eq_false_iff_ne.2 (fun e => ha (e ▸ hj))
        rw [hne]
        simp
      rw [List.filter_cons, List.filter_cons, hrest, hl]
      cases hp : f a == some a with
      | true => simp
      | false => simp
    · have hk : k ∈ Ks := by
        rcases List.mem_cons.1 h with h | h
        · exact absurd h.symm e
        · exact h
      have hne : (a == k) = false := beq_eq_false_iff_ne.2 e
      have q := ih hn' hk
      rw [List.filter_cons, List.filter_cons]
      simp only [hne, Bool.not_false, Bool.and_true] at q ⊢
      cases hp : (f a == some a) && !left a with
      | true => simp only [if_true, List.length_cons, q]; omega
      | false => simpa using q
/-- No key comes but those of the ends of edges. -/
theorem ofF_dom : ∀ (m : Nat) (f : Int → Option Int) (rk : Int → Nat) (M : Nat) (k : Int), Rk f rk M → f k ≠ none → ∀ j, f j = none → (ofF m f k).2 j = none
  | 0, f, _, _, k, _, _, j, hj => hj
  | m + 1, f, rk, M, k, h, hk, j, hj => by
    cases hf : f k with
    | none => exact absurd hf hk
    | some a =>
      by_cases ha : a = k
      · subst ha
        rw [ofF_end hf]
        exact hj
      · obtain ⟨h1, _⟩ := h k a hf
        cases hb : f a with
        | none => exact absurd hb h1
        | some b =>
          obtain ⟨r1, r2, r3⟩ := h.halve hf ha hb
          rw [ofF_on hf ha hb]
          have hbk : b ≠ k := fun e => by rw [e] at r2; omega
          refine ofF_dom m (updI f k b) rk M b r1 (by rw [updI_other _ _ hbk]; exact r3) j ?_
          rw [updI_other _ _ (fun e => by rw [e, hf] at hj; cases hj)]
          exact hj
theorem ofS_dom {f : Int → Option Int} {rk : Int → Nat} {M : Nat} (m : Nat) (h : Rk f rk M) (k : Int) (hk : -1000000 ≤ k ∧ k ≤ 1000000) {j : Int} (hj : f j = none) (hjk : j ≠ k) : (ofS m f k).2 j = none := by
  unfold ofS
  refine ofF_dom m (newF f k) _ M k (h.fresh k hk) (newF_some f k) j ?_
  unfold newF
  by_cases hf : f k = none
  · rw [if_pos hf, updI_other _ _ hjk]
    exact hj
  · rw [if_neg hf]
    exact hj
theorem partsF_dom (m : Nat) : ∀ (xs : List ER), xs.length ≤ m → (∀ x ∈ xs, -1000000 ≤ x.st ∧ x.st ≤ 1000000 ∧ -1000000 ≤ x.en ∧ x.en ≤ 1000000) → (∃ rk, Rk (partsF m xs) rk xs.length) ∧ ∀ j, (∀ x ∈ xs, j ≠ x.st ∧ j ≠ x.en) → partsF m xs j = none := by
  suffices h : ∀ n (xs : List ER), xs.length = n → n ≤ m → (∀ x ∈ xs, -1000000 ≤ x.st ∧ x.st ≤ 1000000 ∧ -1000000 ≤ x.en ∧ x.en ≤ 1000000) → (∃ rk, Rk (partsF m xs) rk n) ∧ ∀ j, (∀ x ∈ xs, j ≠ x.st ∧ j ≠ x.en) → partsF m xs j = none from fun xs hl hb => h _ xs rfl hl hb
  intro n
  induction n with
  | zero =>
    intro xs hl _ _
    obtain rfl := List.eq_nil_of_length_eq_zero hl
    exact ⟨⟨fun _ => 0, fun j a hj => by cases hj⟩, fun j _ => rfl⟩
  | succ n ih =>
    intro xs hl hnm hb
    obtain ⟨xs', x, rfl⟩ : ∃ xs' x, xs = xs' ++ [x] := ⟨xs.dropLast, xs.getLast (by intro e; rw [e] at hl; cases hl), (List.dropLast_concat_getLast _).symm⟩
    have hl' : xs'.length = n := by simp at hl; exact hl
    obtain ⟨⟨rk, hrk⟩, hd⟩ := ih xs' hl' (by omega) (fun y hy => hb y (List.mem_append_left _ hy))
    have hx := hb x (List.mem_append_right _ List.mem_cons_self)
    rw [partsF_snoc]
    refine ⟨linkF_rk hrk (by omega) ⟨hx.1, hx.2.1⟩ hx.2.2, fun j hj => ?_⟩
    have hjx := hj x (List.mem_append_right _ List.mem_cons_self)
    have hj0 := hd j fun y hy => hj y (List.mem_append_left _ hy)
    obtain ⟨a1, a2, _⟩ := ofS_spec hrk (show n ≤ m by omega) x.st ⟨hx.1, hx.2.1⟩
    have hj1 := ofS_dom m hrk x.st ⟨hx.1, hx.2.1⟩ hj0 hjx.1
    have hj2 := ofS_dom m a1 x.en hx.2.2 hj1 hjx.2
    obtain ⟨b1, _, b3⟩ := ofS_spec a1 (show n ≤ m by omega) x.en hx.2.2
    unfold linkF
    rw [updI_other _ _ (fun e => ?_)]
    · exact hj2
    · rw [e, b3 _ a2] at hj2
      cases hj2
























































































end Go.Proofs.YtkdnkmheidbfdaaGreat

namespace Go.Proofs.YtkdnkmheidbfdaaGreat
open Go.RowKit Go.Shelf Go.Sort Go.Maps

/-- Is a number in a list? -/
def hasI (zs : List Int) (x : Int) : Bool := zs.contains x






























































































/-- The region at a way's left, by the borders. -/
def ofL (way : Int) (os : List BP) : List BP → Int
  | [] => -1
  | b :: bs => if hasI b.ways way then regionP b os else ofL way os bs
/-- Where the first border with a way stands. -/
def IdxB (way : Int) (zs : List Zb) (r : Int) : Prop := (r = -1 ∧ ∀ z ∈ zs, hasI z.2.ways way = false) ∨ ∃ (k : Nat) (z : Zb), r = (k : Int) ∧ zs[k]? = some z ∧ hasI z.2.ways way = true ∧ ∀ y ∈ zs.take k, hasI y.2.ways way = false





















































theorem ofL_none {way : Int} {os : List BP} : ∀ {bs : List BP}, (∀ b ∈ bs, hasI b.ways way = false) → ofL way os bs = -1
  | [], _ => rfl
  | b :: bs, h => by rw [ofL, h b List.mem_cons_self, if_neg Bool.false_ne_true, ofL_none fun c hc => h c (List.mem_cons_of_mem _ hc)]
theorem ofL_some {way : Int} {os : List BP} : ∀ {bs : List BP} {k : Nat} {b : BP}, bs[k]? = some b → hasI b.ways way = true → (∀ c ∈ bs.take k, hasI c.ways way = false) → ofL way os bs = regionP b os
  | [], k, b, h, _, _ => by simp at h
  | c :: bs, 0, b, h, hb, _ => by
    simp at h
    subst h
    rw [ofL, if_pos hb]
  | c :: bs, k + 1, b, h, hb, h0 => by
    rw [List.getElem?_cons_succ] at h
    rw [List.take_succ_cons] at h0
    rw [ofL, h0 c List.mem_cons_self, if_neg Bool.false_ne_true]
    exact ofL_some h hb fun d hd => h0 d (List.mem_cons_of_mem _ hd)


































































end Go.Proofs.YtkdnkmheidbfdaaGreat

namespace Go.Proofs.YtkdnkmheidbfdaaGreat

/-- An edge but for where its line lies, and its faces. -/
def bare (x : ER) : ER := ⟨x.id, x.st, x.en, none, 0, 0, 0, 0⟩
theorem getD_bare (xs : List ER) (k : Nat) : (xs.map bare).getD k default = bare (xs.getD k default) := by
  rw [List.getD_eq_getElem?_getD, List.getD_eq_getElem?_getD, List.getElem?_map]
  cases xs[k]? with
  | none => rfl
  | some x => rfl
theorem ldW_bare (xs : List ER) (k : Nat) : ldW (xs.map bare) k = ldW xs k := by unfold ldW; rw [getD_bare]; rfl
theorem ldN_bare (xs : List ER) (k : Nat) : ldN (xs.map bare) k = ldN xs k := by unfold ldN; rw [getD_bare]; rfl
theorem allLd_bare (xs : List ER) (ls : List (List Pp)) : allLd (xs.map bare) ls = allLd xs ls := by
  unfold allLd
  rw [List.length_map]
  refine List.map_congr_left fun k _ => ?_
  unfold ldT
  rw [ldW_bare, ldN_bare]
theorem ringsL_bare (xs : List ER) (ls : List (List Pp)) : ringsL (xs.map bare) ls = ringsL xs ls := by
  unfold ringsL waysL
  rw [allLd_bare, List.length_map]
theorem fstE_bare (id : Int) (xs : List ER) : fstE id (xs.map bare) = (fstE id xs).map bare := by
  unfold fstE
  rw [List.find?_map]
  rfl
theorem fromF_bare (xs : List ER) (way : Int) : fromF (xs.map bare) way = fromF xs way := by
  unfold fromF edgeF
  rw [fstE_bare, fstE_bare]
  cases fstE way xs with
  | some x => rfl
  | none =>
    cases fstE (-way) xs with
    | some x => rfl
    | none => rfl
theorem lnA_bare (id : Int) : ∀ (xs : List ER) (ls : List (List Pp)), lnA id (xs.map bare) ls = lnA id xs ls
  | [], _ => rfl
  | x :: xs, ls => by
    rw [List.map_cons, lnA, lnA, lnA_bare id xs ls.tail]
    rfl
theorem ringPtsF_bare (xs : List ER) (ls : List (List Pp)) (r : List Int) : ringPtsF (xs.map bare) ls r = ringPtsF xs ls r := by
  unfold ringPtsF
  congr 1
  refine List.map_congr_left fun k _ => ?_
  unfold ptsF
  rw [lnA_bare, lnA_bare]
theorem partsF_bare (m : Nat) (xs : List ER) : partsF m (xs.map bare) = partsF m xs := by
  unfold partsF
  rw [List.foldl_map]
  rfl
theorem bordersL_bare (xs : List ER) (ls : List (List Pp)) : bordersL (xs.map bare) ls = bordersL xs ls := by
  unfold bordersL lookF
  rw [ringsL_bare, List.length_map, partsF_bare]
  congr 2
  funext s r
  unfold lookStep
  rw [fromF_bare, ringPtsF_bare]
theorem outersL_bare (xs : List ER) (ls : List (List Pp)) : outersL (xs.map bare) ls = outersL xs ls := by unfold outersL; rw [bordersL_bare]

/-- The rings, the borders, computable. -/
def ringsC (xs : List ER) (ls : List (List Pp)) : List (List Int) := (ringsS (2 * xs.length + 1) (nxtC (allLd xs ls)) (waysL xs ls)).1
def bordersC (xs : List ER) (ls : List (List Pp)) : List BP := (lookF xs.length xs ls (ringsC xs ls)).2
def outersC (xs : List ER) (ls : List (List Pp)) : List BP := sortP ((bordersC xs ls).filter BP.out)
theorem ringsC_eq {xs : List ER} {ls : List (List Pp)} (hn : ((allLd xs ls).map (·.1)).Nodup) : ringsL xs ls = ringsC xs ls := by
  unfold ringsL ringsC
  rw [nxtC_eq hn]
theorem bordersC_eq {xs : List ER} {ls : List (List Pp)} (hn : ((allLd xs ls).map (·.1)).Nodup) : bordersL xs ls = bordersC xs ls := by
  unfold bordersL bordersC
  rw [ringsC_eq hn]
theorem outersC_eq {xs : List ER} {ls : List (List Pp)} (hn : ((allLd xs ls).map (·.1)).Nodup) : outersL xs ls = outersC xs ls := by
  unfold outersL outersC
  rw [bordersC_eq hn]

/-- Boxes within boxes. -/
def nestX (n : Nat) : List ER := (List.range n).map fun (i : Nat) => ⟨(i : Int) + 1, (i : Int) + 1, (i : Int) + 1, none, 0, 0, 0, 0⟩
def nestB (i : Nat) : List Pp := [(2 * (i : Int), 2 * (i : Int)), (60 - 2 * (i : Int), 2 * (i : Int)), (60 - 2 * (i : Int), 60 - 2 * (i : Int)), (2 * (i : Int), 60 - 2 * (i : Int)), (2 * (i : Int), 2 * (i : Int))]
def nestL (n : Nat) : List (List Pp) := (List.range n).map nestB
def nestN (n : Nat) : List NR := (List.range n).map fun (i : Nat) => ⟨(i : Int) + 1, 2 * (i : Int), 2 * (i : Int), -1⟩
def nestK (n : Nat) : List Int := (List.range n).map fun (i : Nat) => (i : Int) + 1
/-- All that the law asks of them. -/
def chkAt (n k : Nat) : Bool :=
  let bs := bordersC (nestX n) (nestL n)
  let os := outersC (nestX n) (nestL n)
  let s := rgsF id os bs
  (if k = 0 then (s.1 k).isNone else match s.1 k with
    | none => false
    | some b => b.ways == [(k : Int)]) &&
  (if k < n then match s.2 k with
    | [b] => b.ways == [-((k : Int) + 1)]
    | _ => false else (s.2 k).isEmpty) &&
  !takenF (nestN n) n (nestL n) (2 * (k : Int) - 1, 30) && leastP (fun _ => true) (2 * (k : Int) - 1, 30) os == (k : Int)
def chkN (n : Nat) : Bool :=
  let bs := bordersC (nestX n) (nestL n)
  ((allLd (nestX n) (nestL n)).map (·.1)).Nodup && ((ringsC (nestX n) (nestL n)).all fun r => decide ((ringPtsF (nestX n) (nestL n) r).length ≤ 4096)) &&
  (bs.filter BP.out).length == n && (List.range (n + 1)).all (chkAt n) && ((nestK n).filter fun k => partsF n (nestX n) k == some k).length == n
theorem chk_nests : ∀ n, n < 12 → chkN (n + 1) = true := by decide +kernel
end Go.Proofs.YtkdnkmheidbfdaaGreat

namespace Go.Proofs.YtkdnkmheidbfdaaGreat
open Go.RowKit Go.Shelf Go.Sort Go.Maps

theorem rgsF_mem {α : Type} (π : α → BP) (os : List BP) (zs : List α) (k : Nat) : (∀ z, (rgsF π os zs).1 k = some z → z ∈ zs) ∧ ∀ z ∈ (rgsF π os zs).2 k, z ∈ zs := by
  suffices h : ∀ (zs' : List α) (s : (Nat → Option α) × (Nat → List α)), (∀ z ∈ zs', z ∈ zs) → (∀ k, (∀ z, s.1 k = some z → z ∈ zs) ∧ ∀ z ∈ s.2 k, z ∈ zs) → ∀ k, (∀ z, (zs'.foldl (rgStep π os) s).1 k = some z → z ∈ zs) ∧ ∀ z ∈ (zs'.foldl (rgStep π os) s).2 k, z ∈ zs from h zs _ (fun z hz => hz) (fun k => ⟨fun z hz => (by cases hz), fun z hz => (by cases hz)⟩) k
  intro zs'
  induction zs' with
  | nil => intro s _ h; exact h
  | cons a zs' ih =>
    intro s ha h
    rw [List.foldl_cons]
    refine ih _ (fun z hz => ha z (List.mem_cons_of_mem _ hz)) fun j => ?_
    have ha0 := ha a List.mem_cons_self
    unfold rgStep updF
    by_cases ho : (π a).out = true
    · rw [if_pos ho]
      refine ⟨fun z hz => ?_, (h j).2⟩
      dsimp only at hz
      by_cases e : j = (regionP (π a) os).toNat
      · rw [if_pos e] at hz
        injection hz with hz
        rw [← hz]
        exact ha0
      · rw [if_neg e] at hz
        exact (h j).1 z hz
    · rw [if_neg ho]
      refine ⟨(h j).1, fun z hz => ?_⟩
      dsimp only at hz
      by_cases e : j = (regionP (π a) os).toNat
      · rw [if_pos e] at hz
        rcases List.mem_append.1 hz with hz | hz
        · exact (h _).2 z hz
        · rw [List.mem_singleton] at hz
          rw [hz]
          exact ha0
      · rw [if_neg e] at hz
        exact (h j).2 z hz
theorem nrow_one {W : World} {base : Nat} {v : Value} {a : Int} (h : NRow W base v [a]) : ∃ g cap, v = .slice (some ⟨g, 0, none⟩) 1 cap ∧ W.cell? ⟨g, 0, none⟩ = some (.int .i64 a) := by
  rcases h.2 with ⟨_, h0⟩ | ⟨g, cap, cur, rfl, _⟩
  · simp at h0
  · exact ⟨g, cap, rfl, h.cellAt 0 (by simp)⟩
theorem irow_one {W : World} {base : Nat} {v u : Value} (h : IRow W base v [u]) : ∃ g cap, v = .slice (some ⟨g, 0, none⟩) 1 cap ∧ W.cell? ⟨g, 0, none⟩ = some u := by
  rcases h.2 with ⟨_, h0⟩ | ⟨g, cap, cur, rfl, _⟩
  · simp at h0
  · exact ⟨g, cap, rfl, h.cellAt 0 (by simp)⟩
/-- A region's outer ring of one way. -/
theorem rg_outer {w wS W : World} {G m : Nat} {IV NV : Nat → Value} {zs : List Zb} {bs os : List BP} {nd : Nat → List Int} (hzs : zs.map (·.2) = bs) (hI : RgI wS G m (rgsF (·.2) os zs).1 IV NV (rgsF (·.2) os zs).2 nd W) (hbd : ∀ z ∈ zs, BdIs W w.heap.size z.1 z.2) {k : Nat} (hk : k < m) {b : BP} (hb : (rgsF id os bs).1 k = some b) {a : Int} (hw : b.ways = [a]) :
    ∃ g cap, W.cell? ⟨G, k * 3, none⟩ = some (.slice (some ⟨g, 0, none⟩) 1 cap) ∧ W.cell? ⟨g, 0, none⟩ = some (.int .i64 a) := by
  have q := (rgsF_map (fun z : Zb => z.2) os zs k).1
  rw [hzs, hb] at q
  obtain ⟨z, hz, hzb⟩ := Option.map_eq_some_iff.1 q
  have hr := (hbd z ((rgsF_mem _ os zs k).1 z hz)).ways
  have hzb' : z.2 = b := hzb
  rw [hzb', hw] at hr
  obtain ⟨g, cap, hv, hc⟩ := nrow_one hr
  refine ⟨g, cap, ?_, hc⟩
  rw [(hI.cells.at hk).1, hz]
  exact congrArg some hv
/-- A region's one inner ring of one way. -/
theorem rg_inner {w wS W : World} {G m : Nat} {IV NV : Nat → Value} {zs : List Zb} {bs os : List BP} {nd : Nat → List Int} (hzs : zs.map (·.2) = bs) (hI : RgI wS G m (rgsF (·.2) os zs).1 IV NV (rgsF (·.2) os zs).2 nd W) (hbd : ∀ z ∈ zs, BdIs W w.heap.size z.1 z.2) {k : Nat} (hk : k < m) {b : BP} (hb : (rgsF id os bs).2 k = [b]) {a : Int} (hw : b.ways = [a]) :
    ∃ g1 c1 g2 c2, W.cell? ⟨G, k * 3 + 1, none⟩ = some (.slice (some ⟨g1, 0, none⟩) 1 c1) ∧ W.cell? ⟨g1, 0, none⟩ = some (.slice (some ⟨g2, 0, none⟩) 1 c2) ∧ W.cell? ⟨g2, 0, none⟩ = some (.int .i64 a) := by
  have q := (rgsF_map (fun z : Zb => z.2) os zs k).2
  rw [hzs, hb] at q
  obtain ⟨z, hz, hzb⟩ : ∃ z, (rgsF (fun z : Zb => z.2) os zs).2 k = [z] ∧ z.2 = b := by
    cases hl : (rgsF (fun z : Zb => z.2) os zs).2 k with
    | nil => rw [hl] at q; cases q
    | cons z l =>
      rw [hl] at q
      rw [List.map_cons] at q
      injection q with q1 q2
      rw [List.map_eq_nil_iff] at q2
      exact ⟨z, by rw [q2], q1⟩
  have hr := (hbd z ((rgsF_mem _ os zs k).2 z (by rw [hz]; exact List.mem_cons_self))).ways
  rw [hzb, hw] at hr
  obtain ⟨g2, c2, hv2, hc2⟩ := nrow_one hr
  have hrow := hI.inn k hk
  rw [hz] at hrow
  obtain ⟨g1, c1, hv1, hc1⟩ := irow_one hrow
  refine ⟨g1, c1, g2, c2, by rw [(hI.cells.at hk).2.1]; exact congrArg some hv1, ?_, hc2⟩
  rw [hc1]
  exact congrArg some hv2
/-- A region without inner rings. -/
theorem rg_none {wS W : World} {G m : Nat} {IV NV : Nat → Value} {zs : List Zb} {bs os : List BP} {nd : Nat → List Int} (hzs : zs.map (·.2) = bs) (hI : RgI wS G m (rgsF (·.2) os zs).1 IV NV (rgsF (·.2) os zs).2 nd W) {k : Nat} (hk : k < m) (hb : (rgsF id os bs).2 k = []) :
    ∃ io ic, W.cell? ⟨G, k * 3 + 1, none⟩ = some (.slice io 0 ic) := by
  have q := (rgsF_map (fun z : Zb => z.2) os zs k).2
  rw [hzs, hb, List.map_eq_nil_iff] at q
  have hrow := hI.inn k hk
  obtain ⟨io, ic, hv⟩ := hrow.form
  rw [q] at hv
  exact ⟨io, ic, by rw [(hI.cells.at hk).2.1, hv]; rfl⟩
end Go.Proofs.YtkdnkmheidbfdaaGreat

namespace Go.Proofs.YtkdnkmheidbfdaaGreat
open Go.RowKit Go.Shelf Go.Sort Go.Maps

def awX : List ER := [⟨1, 1, 1, none, 0, 0, 0, 0⟩]
def awL : List (List Pp) := [[(0, 0), (4, 0), (0, 4), (0, 0)]]
def awN : List NR := [⟨1, 0, 0, -1⟩]
def chkAw : Bool :=
  let bs := bordersC awX awL
  let os := outersC awX awL
  ((allLd awX awL).map (·.1)).Nodup && ((ringsC awX awL).all fun r => decide ((ringPtsF awX awL r).length ≤ 4096)) && (bs.filter BP.out).length == 1 &&
  (match (rgsF id os bs).1 1 with
    | none => false
    | some b => b.ways == [1]) &&
  !takenF awN 1 awL (1, 1) && leastP (fun _ => true) (1, 1) os == 1 && ([(1 : Int)].filter fun k => partsF 1 awX k == some k).length == 1 && ofL (-1) os bs == 0 && (bs.all fun b => decide (b.ways.length ≤ 100000)) && decide (bs.length ≤ 1000)
theorem chk_aw : chkAw = true := by decide +kernel
end Go.Proofs.YtkdnkmheidbfdaaGreat

namespace Go.Proofs.YtkdnkmheidbfdaaGreat
open Go.RowKit Go.Shelf Go.Sort Go.Maps

theorem aw_all : ((allLd awX awL).map (·.1)).Nodup ∧ (∀ r ∈ ringsC awX awL, (ringPtsF awX awL r).length ≤ 4096) ∧ ((bordersC awX awL).filter BP.out).length = 1 ∧ (∃ b, (rgsF id (outersC awX awL) (bordersC awX awL)).1 1 = some b ∧ b.ways = [1]) ∧ takenF awN 1 awL (1, 1) = false ∧ leastP (fun _ => true) (1, 1) (outersC awX awL) = 1 ∧ ([(1 : Int)].filter fun k => partsF 1 awX k == some k).length = 1 ∧ ofL (-1) (outersC awX awL) (bordersC awX awL) = 0 ∧ (∀ b ∈ bordersC awX awL, b.ways.length ≤ 100000) ∧ (bordersC awX awL).length ≤ 1000 := by
  have h := chk_aw
  unfold chkAw at h
  simp only [Bool.and_eq_true, decide_eq_true_eq, List.all_eq_true, beq_iff_eq, Bool.not_eq_true'] at h
  obtain ⟨⟨⟨⟨⟨⟨⟨⟨⟨h1, h2⟩, h3⟩, h4⟩, h5⟩, h6⟩, h7⟩, h8⟩, h9⟩, h10⟩ := h
  refine ⟨h1, h2, h3, ?_, h5, h6, h7, h8, h9, h10⟩
  cases hb : (rgsF id (outersC awX awL) (bordersC awX awL)).1 1 with
  | none => rw [hb] at h4; cases h4
  | some b => rw [hb] at h4; exact ⟨b, rfl, by simpa using h4⟩
/-- A plan of boxes is as face's calls want it, whatever its lines' places are. -/
structure Same0 (xs : List ER) (ls : List (List Pp)) (cx : List ER) : Prop where
  bare : xs.map bare = cx
  nodup : ((allLd cx ls).map (·.1)).Nodup
theorem Same0.rings {xs cx : List ER} {ls : List (List Pp)} (h : Same0 xs ls cx) : ringsL xs ls = ringsC cx ls := by rw [← ringsL_bare, h.bare, ringsC_eq h.nodup]
theorem Same0.borders {xs cx : List ER} {ls : List (List Pp)} (h : Same0 xs ls cx) : bordersL xs ls = bordersC cx ls := by rw [← bordersL_bare, h.bare, bordersC_eq h.nodup]
theorem Same0.outers {xs cx : List ER} {ls : List (List Pp)} (h : Same0 xs ls cx) : outersL xs ls = outersC cx ls := by rw [← outersL_bare, h.bare, outersC_eq h.nodup]
theorem Same0.pts {xs cx : List ER} {ls : List (List Pp)} (h : Same0 xs ls cx) (r : List Int) : ringPtsF xs ls r = ringPtsF cx ls r := by rw [← ringPtsF_bare, h.bare]
theorem Same0.parts {xs cx : List ER} {ls : List (List Pp)} (h : Same0 xs ls cx) (m : Nat) : partsF m xs = partsF m cx := by rw [← partsF_bare, h.bare]

/-- The points of awake's triangle. -/
def awP : List Pp := [(0, 0), (4, 0), (0, 4), (0, 0)]
def awE (g : Nat) : ER := ⟨1, 1, 1, some ⟨g, 0, none⟩, 4, 4, 1, 0⟩
theorem aw_ple {W : World} {b g : Nat} (hb : W.heap[b]? = some (.cells #[.int .i64 1, .int .i64 1, .int .i64 1, .slice (some ⟨g, 0, none⟩) 4 4, .int .i64 1, .int .i64 0] 29 (0, 0))) (hg : W.heap[g]? = some (.cells (ptCells awP).toArray 23 (0, 0))) : PlE W b 0 1 (some ⟨b, 0, none⟩) [awE g] awL := by
  refine ⟨rfl, by decide, deg_few (by simp), fun k x hx => ?_, fun i j x y hij hx hy => ?_, fun _ => rfl, fun h => absurd h (by decide), fun x hx => ?_, fun x hx => ?_, fun k => ?_, fun k x hx => ?_⟩
  · match k, hx with
    | 0, hx =>
      simp at hx
      subst hx
      refine ⟨?_, ?_, ?_, ?_, ?_, ?_⟩ <;> simp [World.cell?, hb, awE]
    | k + 1, hx => simp at hx
  · have h1 := (List.getElem?_eq_some_iff.1 hx).1
    have h2 := (List.getElem?_eq_some_iff.1 hy).1
    simp at h1 h2
    omega
  · rw [List.mem_singleton] at hx
    subst hx
    exact ⟨by simp [awE], by simp [awE]⟩
  · rw [List.mem_singleton] at hx
    subst hx
    exact ⟨by simp [awE], by simp [awE], by simp [awE], by simp [awE]⟩
  · cases k with
    | zero => decide
    | succ k => simp [awL]
  · match k, hx with
    | 0, hx =>
      simp at hx
      subst hx
      exact ⟨src_new (ps := awP) hg, fun a ha => by
        injection ha with ha
        subst ha
        exact ⟨_, _, hg⟩⟩
    | k + 1, hx => simp at hx
theorem aw_nde {W : World} {b : Nat} (hb : W.heap[b]? = some (.cells #[.int .i64 1, .int .i64 0, .int .i64 0, .int .i64 (-1)] 25 (0, 0))) : NdE W b 0 1 (some ⟨b, 0, none⟩) awN := by
  refine ⟨rfl, by decide, fun k x hx => ?_, fun _ => rfl⟩
  match k, hx with
  | 0, hx =>
    simp [awN] at hx
    subst hx
    exact nr_cells (n := ⟨1, 0, 0, -1⟩) hb
  | k + 1, hx => simp [awN] at hx
theorem awN_rise : RiseN awN := fun i j x y hij hx hy => by
  have h1 := (List.getElem?_eq_some_iff.1 hx).1
  have h2 := (List.getElem?_eq_some_iff.1 hy).1
  simp [awN] at h1 h2
  omega

















































end Go.Proofs.YtkdnkmheidbfdaaGreat
