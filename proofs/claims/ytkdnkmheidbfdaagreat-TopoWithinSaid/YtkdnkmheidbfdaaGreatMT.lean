/-
  Layer 15: a look over a plan, plainly: its borders; the outer ones in order.
-/
import Derived.Test.YtkdnkmheidbfdaaGreatM4
import Derived.Test.YtkdnkmheidbfdaaGreatFAt
import Derived.Test.YtkdnkmheidbfdaaGreatMR
namespace Go.Proofs.YtkdnkmheidbfdaaGreat
open Go.RowKit Go.Sort Go.Maps

/-- A border, plainly: its ways, its points, its part, the region that it holds. -/
structure BP where
  ways : List Int
  pts : List Pp
  part : Int
  num : Int
def BP.out (b : BP) : Bool := decide (0 < areaL b.pts)
/-- The node at which a way begins. -/
def fromF (xs : List ER) (way : Int) : Int := if (edgeF way xs).2 then (edgeF way xs).1.st else (edgeF way xs).1.en
def lookStep (m : Nat) (xs : List ER) (ls : List (List Pp)) (s : (Int → Option Int) × List BP) (r : List Int) : (Int → Option Int) × List BP :=
  ((ofS m s.1 (fromF xs (r.headD 0))).2, s.2 ++ [⟨r, ringPtsF xs ls r, (ofS m s.1 (fromF xs (r.headD 0))).1, if 0 < areaL (ringPtsF xs ls r) then ((s.2.filter BP.out).length : Int) + 1 else 0⟩])
def lookF (m : Nat) (xs : List ER) (ls : List (List Pp)) (rs : List (List Int)) : (Int → Option Int) × List BP := rs.foldl (lookStep m xs ls) (partsF m xs, [])
theorem lookF_snoc (m : Nat) (xs : List ER) (ls : List (List Pp)) (rs : List (List Int)) (r : List Int) : lookF m xs ls (rs ++ [r]) = lookStep m xs ls (lookF m xs ls rs) r := by unfold lookF; rw [List.foldl_append]; rfl
/-- All borders of a plan. -/
def bordersL (xs : List ER) (ls : List (List Pp)) : List BP := (lookF xs.length xs ls (ringsL xs ls)).2
def insRP (x : BP) : List BP → List BP
  | [] => [x]
  | y :: l => if areaL x.pts < areaL y.pts then y :: insRP x l else x :: y :: l
def sortP (l : List BP) : List BP := l.foldl (fun S x => (insRP x S.reverse).reverse) []
/-- The outer ones, the least area first. -/
def outersL (xs : List ER) (ls : List (List Pp)) : List BP := sortP ((bordersL xs ls).filter BP.out)

/-- A border as it lies in memory with what it is. -/
abbrev Zb := Bd × BP
def insRZ (x : Zb) : List Zb → List Zb
  | [] => [x]
  | y :: l => if x.1.ar < y.1.ar then y :: insRZ x l else x :: y :: l
def sortZ (l : List Zb) : List Zb := l.foldl (fun S x => (insRZ x S.reverse).reverse) []
theorem insRZ_fst (x : Zb) : ∀ l : List Zb, (insRZ x l).map (·.1) = insR x.1 (l.map (·.1))
  | [] => rfl
  | y :: l => by
    rw [insRZ, List.map_cons, insR]
    by_cases h : x.1.ar < y.1.ar
    · rw [if_pos h, if_pos h, List.map_cons, insRZ_fst x l]
    · rw [if_neg h, if_neg h, List.map_cons, List.map_cons]
theorem insRZ_mem (x : Zb) : ∀ (l : List Zb) (y : Zb), y ∈ insRZ x l ↔ y = x ∨ y ∈ l
  | [], y => by simp [insRZ]
  | z :: l, y => by
    unfold insRZ
    split
    · rw [List.mem_cons, insRZ_mem x l y, List.mem_cons]
      constructor
      · rintro (h | h | h)
        · exact .inr (.inl h)
        · exact .inl h
        · exact .inr (.inr h)
      · rintro (h | h | h)
        · exact .inr (.inl h)
        · exact .inl h
        · exact .inr (.inr h)
    · rw [List.mem_cons]
theorem insRZ_snd (x : Zb) (hx : x.1.ar = areaL x.2.pts) : ∀ l : List Zb, (∀ z ∈ l, z.1.ar = areaL z.2.pts) → (insRZ x l).map (·.2) = insRP x.2 (l.map (·.2))
  | [], _ => rfl
  | y :: l, h => by
    rw [insRZ, List.map_cons, insRP, hx, h y List.mem_cons_self]
    by_cases hlt : areaL x.2.pts < areaL y.2.pts
    · rw [if_pos hlt, if_pos hlt, List.map_cons, insRZ_snd x hx l fun z hz => h z (List.mem_cons_of_mem _ hz)]
    · rw [if_neg hlt, if_neg hlt, List.map_cons, List.map_cons]
theorem sortZ_fst (l : List Zb) : (sortZ l).map (·.1) = sortB (l.map (·.1)) := by
  suffices h : ∀ (l S : List Zb), (l.foldl (fun S x => (insRZ x S.reverse).reverse) S).map (·.1) = (l.map (·.1)).foldl insB (S.map (·.1)) from h l []
  intro l
  induction l with
  | nil => intro S; rfl
  | cons x l ih =>
    intro S
    rw [List.foldl_cons, ih, List.map_cons, List.foldl_cons, List.map_reverse, insRZ_fst, List.map_reverse]
    rfl
theorem sortZ_mem (l : List Zb) (y : Zb) : y ∈ sortZ l ↔ y ∈ l := by
  suffices h : ∀ (l S : List Zb), y ∈ l.foldl (fun S x => (insRZ x S.reverse).reverse) S ↔ y ∈ S ∨ y ∈ l by
    unfold sortZ
    rw [h]
    simp
  intro l
  induction l with
  | nil => intro S; simp
  | cons x l ih =>
    intro S
    rw [List.foldl_cons, ih, List.mem_reverse, insRZ_mem, List.mem_reverse, List.mem_cons]
    constructor
    · rintro ((h | h) | h)
      · exact .inr (.inl h)
      · exact .inl h
      · exact .inr (.inr h)
    · rintro (h | h | h)
      · exact .inl (.inr h)
      · exact .inl (.inl h)
      · exact .inr h
theorem sortZ_snd (l : List Zb) (hl : ∀ z ∈ l, z.1.ar = areaL z.2.pts) : (sortZ l).map (·.2) = sortP (l.map (·.2)) := by
  suffices h : ∀ (l S : List Zb), (∀ z ∈ l, z.1.ar = areaL z.2.pts) → (∀ z ∈ S, z.1.ar = areaL z.2.pts) → (l.foldl (fun S x => (insRZ x S.reverse).reverse) S).map (·.2) = (l.map (·.2)).foldl (fun S x => (insRP x S.reverse).reverse) (S.map (·.2)) from h l [] hl (fun z hz => by cases hz)
  intro l
  induction l with
  | nil => intro S _ _; rfl
  | cons x l ih =>
    intro S h1 h2
    rw [List.foldl_cons, ih _ (fun z hz => h1 z (List.mem_cons_of_mem _ hz)) (fun z hz => by
      rw [List.mem_reverse, insRZ_mem, List.mem_reverse] at hz
      rcases hz with rfl | hz
      · exact h1 _ List.mem_cons_self
      · exact h2 z hz), List.map_cons, List.foldl_cons, List.map_reverse, insRZ_snd x (h1 x List.mem_cons_self) _ (fun z hz => h2 z (List.mem_reverse.1 hz)), List.map_reverse]

/-- A border in memory is that one. -/
structure BdIs (W : World) (base : Nat) (x : Bd) (b : BP) : Prop where
  ways : NRow W base (.slice x.wo x.wl x.wc) b.ways
  pts : PtRow W base (.slice x.po x.pl x.pc) b.pts
  few : b.pts.length ≤ 4096
  lx : x.lx = (boxL b.pts).1
  ly : x.ly = (boxL b.pts).2.1
  hx : x.hx = (boxL b.pts).2.2.1
  hy : x.hy = (boxL b.pts).2.2.2
  ar : x.ar = areaL b.pts
  pt : x.pt = b.part
  nr : x.nr = b.num
theorem BdIs.out {W : World} {base : Nat} {x : Bd} {b : BP} (h : BdIs W base x b) : decide (0 < x.ar) = b.out := by rw [h.ar]; rfl
theorem BdIs.below {W W' : World} {base : Nat} {x : Bd} {b : BP} (h : BdIs W base x b) (hb : Below W.heap.size W W') : BdIs W' base x b :=
  ⟨h.ways.below hb, h.pts.below hb, h.few, h.lx, h.ly, h.hx, h.hy, h.ar, h.pt, h.nr⟩
/-- All rows of numbers and of points are as they were. -/
structure KT (W W' : World) : Prop where
  size : W.heap.size ≤ W'.heap.size
  keep : ∀ (k : Nat) (c : Array Value) (t : TypeId) (q : Nat × Nat), W.heap[k]? = some (.cells c t q) → t ≠ 105 → t ≠ 101 → W'.heap[k]? = W.heap[k]?
theorem KT.refl (W : World) : KT W W := ⟨Nat.le_refl _, fun _ _ _ _ _ _ _ => rfl⟩
theorem KT.trans {A B C : World} (h : KT A B) (k : KT B C) : KT A C := ⟨Nat.le_trans h.size k.size, fun i c t q hi h1 h2 => by
  have e := h.keep i c t q hi h1 h2
  rw [← e]
  rw [← e] at hi
  exact k.keep i c t q hi h1 h2⟩
theorem KT.below {A B : World} (h : Below A.heap.size A B) : KT A B := ⟨h.size, fun k _ _ _ hk _ _ => h.block k (lt_of_heap hk)⟩
theorem KT.map {A B : World} {M : Nat} (h : A.grownBy B (some M)) (hM : ∃ o : Obj, A.heap[M]? = some o ∧ o.isCells = false) : KT A B := ⟨h.size, fun k c t q hk _ _ => h.block k (lt_of_heap hk) (fun e => by
  injection e with e
  subst e
  obtain ⟨o, ho, hc⟩ := hM
  rw [hk] at ho
  injection ho with ho
  subst ho
  cases hc)⟩
theorem BdIs.kt {W W' : World} {base : Nat} {x : Bd} {b : BP} (h : BdIs W base x b) (hk : KT W W') : BdIs W' base x b :=
  ⟨nrow_other h.ways fun k c q hc => hk.keep k c _ q hc (by decide) (by decide), own_keep h.pts fun k c hc => hk.keep k c _ _ hc (by decide) (by decide), h.few, h.lx, h.ly, h.hx, h.hy, h.ar, h.pt, h.nr⟩
theorem rgr_kt {W W' : World} {base : Nat} {v : Value} {rs : List (List Int)} (h : RgR W base v rs) (hk : KT W W') : RgR W' base v rs := by
  obtain ⟨vs, hl, ho, hn⟩ := h
  exact ⟨vs, hl, own_keep ho fun k c hc => hk.keep k c _ _ hc (by decide) (by decide), fun i r u h1 h2 => nrow_other (hn i r u h1 h2) fun k c q hc => hk.keep k c _ q hc (by decide) (by decide)⟩
theorem rgr_at {W : World} {base g n cap : Nat} {rs : List (List Int)} (h : RgR W base (.slice (some ⟨g, 0, none⟩) n cap) rs) {i : Nat} {r : List Int} (hr : rs[i]? = some r) : ∃ u, W.cell? ⟨g, i, none⟩ = some u ∧ NRow W base u r := by
  obtain ⟨vs, hl, ho, hn⟩ := h
  have hi : i < vs.length := by rw [hl]; exact (List.getElem?_eq_some_iff.1 hr).1
  have hnl : n = vs.length := by
    rcases ho.2 with ⟨e, _⟩ | ⟨_, _, _, e, _⟩
    · cases e
    · injection e
  rw [hnl] at ho
  refine ⟨vs[i], ?_, hn i r _ hr (List.getElem?_eq_getElem hi)⟩
  have := ho.cellAt i (by omega)
  rw [this, List.getElem?_eq_getElem hi]

/-- Does a border hold a point? -/
def holdsP (b : BP) (q : Pp) : Bool := (ovl (near (boxL b.pts).1) (near (boxL b.pts).2.2.1) (near q.1) (near q.1) && ovl (near (boxL b.pts).2.1) (near (boxL b.pts).2.2.2) (near q.2) (near q.2)) && inF b.pts q == 1
def leastP (am : BP → Bool) (q : Pp) : List BP → Int
  | [] => 0
  | b :: l => if am b && holdsP b q then b.num else leastP am q l
/-- The region at a border's left. -/
def regionP (b : BP) (os : List BP) : Int :=
  if b.out then b.num else match b.pts with
    | [] => 0
    | p :: _ => leastP (fun o => !(o.part == b.part)) p os
theorem holdsP_eq {W : World} {base : Nat} {x : Bd} {b : BP} (h : BdIs W base x b) (q : Pp) : holdsB x b.pts q = holdsP b q := by
  unfold holdsB holdsP
  rw [h.lx, h.ly, h.hx, h.hy]
theorem leastP_eq {W : World} {base : Nat} {am : Bd → Bool} {am' : BP → Bool} {q : Pp} : ∀ {os : List Zb}, (∀ z ∈ os, BdIs W base z.1 z.2) → (∀ z ∈ os, am z.1 = am' z.2) → leastF am q (os.map fun z => (z.1, z.2.pts)) = leastP am' q (os.map (·.2))
  | [], _, _ => rfl
  | z :: os, h1, h2 => by
    rw [List.map_cons, List.map_cons, leastF, leastP, h2 z List.mem_cons_self, holdsP_eq (h1 z List.mem_cons_self), (h1 z List.mem_cons_self).nr, leastP_eq (fun y hy => h1 y (List.mem_cons_of_mem _ hy)) (fun y hy => h2 y (List.mem_cons_of_mem _ hy))]
/-- What a look leaves: the borders, the outer ones in order. -/
structure SvIs (W : World) (base : Nat) (bo oo : Option Addr) (bl ol gb g : Nat) (zs os : List Zb) : Prop where
  len : zs.length = bl
  bat : 1 ≤ bl → bo = some ⟨gb, 0, none⟩
  bcells : ∀ (k : Nat) (z : Zb), zs[k]? = some z → BAt W gb (k * 9) z.1
  ois : BrE W g 0 ol oo (os.map fun z => (z.1, z.2.pts))
  is : ∀ z ∈ zs, BdIs W base z.1 z.2
  sub : ∀ z ∈ os, z ∈ zs
theorem SvIs.below {W W' : World} {base : Nat} {bo oo : Option Addr} {bl ol gb g : Nat} {zs os : List Zb} (h : SvIs W base bo oo bl ol gb g zs os) (hb : Below W.heap.size W W') : SvIs W' base bo oo bl ol gb g zs os :=
  ⟨h.len, h.bat, fun k z hz => (h.bcells k z hz).below hb (lt_of_cell (h.bcells k z hz).1), h.ois.below hb, fun z hz => (h.is z hz).below hb, h.sub⟩
theorem SvIs.at_ {W : World} {base : Nat} {bo oo : Option Addr} {bl ol gb g : Nat} {zs os : List Zb} (h : SvIs W base bo oo bl ol gb g zs os) (bc oc : Nat) (qx qy : Int) :
    Calls Tryz.prog 61 #[.agg #[.slice bo bl bc, .slice oo ol oc], pv qx qy] W fun e w' => e = .returned (.int .i64 (leastP (fun _ => true) (qx, qy) (os.map (·.2)))) ∧ Below W.heap.size W w' := by
  have q := surveyAt_any (cap := oc) h.ois bo bl bc qx qy
  rw [leastP_eq (am' := fun _ => true) (fun z hz => h.is z (h.sub z hz)) (fun z _ => rfl)] at q
  exact q
theorem SvIs.region {W : World} {base : Nat} {bo oo : Option Addr} {bl ol gb g : Nat} {zs os : List Zb} (h : SvIs W base bo oo bl ol gb g zs os) (bc oc : Nat) {z : Zb} (hz : z ∈ zs) :
    Calls Tryz.prog 63 #[.agg #[.slice bo bl bc, .slice oo ol oc], bdV z.1] W fun e w' => e = .returned (.int .i64 (regionP z.2 (os.map (·.2)))) ∧ Below W.heap.size W w' := by
  have q := region_any (cap := oc) h.ois bo bl bc z.1 (h.is z hz).pts.src
  have e : regionF z.1 z.2.pts (os.map fun z => (z.1, z.2.pts)) = regionP z.2 (os.map (·.2)) := by
    unfold regionF regionP
    have ho := (h.is z hz).out
    rw [(h.is z hz).nr]
    by_cases h0 : 0 < z.1.ar
    · rw [if_pos h0, if_pos (by rw [← ho]; exact decide_eq_true h0)]
    · rw [if_neg h0, if_neg (by rw [← ho, decide_eq_false h0]; exact Bool.false_ne_true)]
      cases z.2.pts with
      | nil => rfl
      | cons p ps =>
        dsimp only
        exact leastP_eq (fun y hy => h.is y (h.sub y hy)) (fun y hy => by rw [(h.is y (h.sub y hy)).pt, (h.is z hz).pt])
  rw [e] at q
  exact q
end Go.Proofs.YtkdnkmheidbfdaaGreat

namespace Go.Proofs.YtkdnkmheidbfdaaGreat
open Go.RowKit Go.Sort Go.Maps

/-- Amid a look: the plan's box, the result, the survey, the parts, the two rows of borders. -/
structure LkI (w : World) (P R S B : Nat) (pv : Array Value) (N : Nat) (f : Int → Option Int) (vv uv : Value) (zs : List Zb) (ys : List Bd) (W : World) : Prop where
  pln : W.heap[P]? = some (.cells pv 32 (0, 0))
  res : W.heap[R]? = some (.cells #[.slice none 0 0, .slice none 0 0] 101 (0, 0))
  srv : W.heap[S]? = some (.cells #[vv, uv] 101 (0, 0))
  map : MapI W B N f
  rowB : BRow W w.heap.size vv (zs.map (·.1))
  rowO : BRow W w.heap.size uv ys
  sep : ∀ g, vv.ownBlock = some g → uv.ownBlock ≠ some g
  is : ∀ z ∈ zs, BdIs W w.heap.size z.1 z.2
  below : Below w.heap.size w W
theorem brow_own {W : World} {base : Nat} {v : Value} {ys : List Bd} (h : BRow W base v ys) {g : Nat} (hg : v.ownBlock = some g) : base ≤ g ∧ ∃ c, W.heap[g]? = some (.cells c 105 (0, 0)) := by
  rcases h.2 with ⟨rfl, _⟩ | ⟨g', cp, cur, rfl, h2, h3, _⟩
  · cases hg
  · cases hg
    exact ⟨h2, _, h3⟩
theorem brow_same {W W' : World} {base : Nat} {v : Value} {ys : List Bd} (h : BRow W base v ys) (hk : ∀ g, v.ownBlock = some g → W'.heap[g]? = W.heap[g]?) : BRow W' base v ys := by
  refine ⟨h.1, ?_⟩
  rcases h.2 with h0 | ⟨g, cap, cur, h1, h2, h3, h4⟩
  · exact .inl h0
  · exact .inr ⟨g, cap, cur, h1, h2, (hk g (by rw [h1]; rfl)).trans h3, h4⟩
theorem mapI_same {W W' : World} {B N : Nat} {f : Int → Option Int} (h : MapI W B N f) (hk : W'.heap[B]? = W.heap[B]?) : MapI W' B N f := by
  obtain ⟨D, ⟨es, ck, hm, hrest⟩, hD2⟩ := h
  exact ⟨D, ⟨es, ck, hk.trans hm, hrest⟩, hD2⟩
theorem mapI_block {W : World} {B N : Nat} {f : Int → Option Int} (h : MapI W B N f) : ∃ o : Obj, W.heap[B]? = some o ∧ o.isCells = false := by
  obtain ⟨D, ⟨es, ck, hm, _⟩, _⟩ := h
  exact ⟨_, hm, rfl⟩
theorem LkI.turn {w W W' : World} {P R S B N : Nat} {pv : Array Value} {f : Int → Option Int} {vv uv : Value} {zs : List Zb} {ys : List Bd} (h : LkI w P R S B pv N f vv uv zs ys W) (hk : KT W W') (hR : W'.heap[R]? = W.heap[R]?) (hS : W'.heap[S]? = W.heap[S]?) {N' : Nat} {f' : Int → Option Int} (hm : MapI W' B N' f') (hr : ∀ g, vv.ownBlock = some g ∨ uv.ownBlock = some g → W'.heap[g]? = W.heap[g]?) (hb : Below w.heap.size w W') : LkI w P R S B pv N' f' vv uv zs ys W' :=
  ⟨(hk.keep _ _ _ _ h.pln (by decide) (by decide)).trans h.pln, hR.trans h.res, hS.trans h.srv, hm, brow_same h.rowB fun g hg => hr g (.inl hg), brow_same h.rowO fun g hg => hr g (.inr hg), h.sep, fun z hz => (h.is z hz).kt hk, hb⟩
theorem LkI.fresh {w W W' : World} {P R S B N : Nat} {pv : Array Value} {f : Int → Option Int} {vv uv : Value} {zs : List Zb} {ys : List Bd} (h : LkI w P R S B pv N f vv uv zs ys W) (hb : Below W.heap.size W W') : LkI w P R S B pv N f vv uv zs ys W' :=
  h.turn (KT.below hb) (hb.block _ (lt_of_heap h.res)) (hb.block _ (lt_of_heap h.srv)) (mapI_same h.map (by obtain ⟨o, ho, _⟩ := mapI_block h.map; exact hb.block _ (lt_of_heap ho))) (fun g hg => by
    rcases hg with hg | hg
    · obtain ⟨_, c, hc⟩ := brow_own h.rowB hg
      exact hb.block _ (lt_of_heap hc)
    · obtain ⟨_, c, hc⟩ := brow_own h.rowO hg
      exact hb.block _ (lt_of_heap hc)) (h.below.trans (hb.mono h.below.size))
/-- The parts have turned. -/
theorem LkI.parts {w W W' : World} {P R S B N N' : Nat} {pv : Array Value} {f f' : Int → Option Int} {vv uv : Value} {zs : List Zb} {ys : List Bd} (h : LkI w P R S B pv N f vv uv zs ys W) (hg : W.grownBy W' (some B)) (hm : MapI W' B N' f') (hB : w.heap.size ≤ B) : LkI w P R S B pv N' f' vv uv zs ys W' := by
  obtain ⟨o, ho, hc⟩ := mapI_block h.map
  have hne : ∀ (k : Nat) (c : Array Value) (t : TypeId) (q : Nat × Nat), W.heap[k]? = some (.cells c t q) → W'.heap[k]? = W.heap[k]? := fun k c t q hk => hg.block k (lt_of_heap hk) (fun e => by
    injection e with e
    subst e
    rw [hk] at ho
    injection ho with ho
    subst ho
    cases hc)
  refine h.turn (KT.map hg ⟨o, ho, hc⟩) (hne _ _ _ _ h.res) (hne _ _ _ _ h.srv) hm (fun g hg' => ?_) (h.below.grown hg h.below.size (fun k e => by injection e with e; omega))
  rcases hg' with hg' | hg'
  · obtain ⟨_, c, hc⟩ := brow_own h.rowB hg'
    exact hne _ _ _ _ hc
  · obtain ⟨_, c, hc⟩ := brow_own h.rowO hg'
    exact hne _ _ _ _ hc
/-- A border of the call's own, behind all else. -/
structure Own1 (w : World) (R S B : Nat) (vv uv : Value) (W : World) (b : Nat) (x : Bd) : Prop where
  at' : W.heap[b]? = some (bdO x)
  base : w.heap.size ≤ b
  nR : R ≠ b
  nS : S ≠ b
  nV : vv.ownBlock ≠ some b
  nU : uv.ownBlock ≠ some b
theorem Own1.keep {w W W' : World} {R S B b : Nat} {vv uv : Value} {x : Bd} (h : Own1 w R S B vv uv W b x) (hk : W'.heap[b]? = W.heap[b]?) : Own1 w R S B vv uv W' b x := ⟨hk.trans h.at', h.base, h.nR, h.nS, h.nV, h.nU⟩
theorem KT.set1 {W : World} {b i : Nat} {x : Bd} (h : W.heap[b]? = some (bdO x)) (v : Value) : KT W (W.setCell ⟨b, i, none⟩ v) := ⟨by rw [World.size_setCell]; exact Nat.le_refl _, fun k c t q hk h1 _ => RowKit.Below.heap_setCell _ _ _ _ (fun e => by
  subst e
  rw [h] at hk
  injection hk with hk
  injection hk with _ e2 _
  exact h1 e2.symm)⟩
theorem LkI.box {w W : World} {P R S B N b i : Nat} {pv : Array Value} {f : Int → Option Int} {vv uv : Value} {zs : List Zb} {ys : List Bd} {x : Bd} (h : LkI w P R S B pv N f vv uv zs ys W) (ho : Own1 w R S B vv uv W b x) (v : Value) : LkI w P R S B pv N f vv uv zs ys (W.setCell ⟨b, i, none⟩ v) := by
  refine h.turn (KT.set1 ho.at' v) (RowKit.Below.heap_setCell _ _ _ _ ho.nR) (RowKit.Below.heap_setCell _ _ _ _ ho.nS) (mapI_same h.map (RowKit.Below.heap_setCell _ _ _ _ (fun e => ?_))) (fun g hg => RowKit.Below.heap_setCell _ _ _ _ (fun e => ?_)) (h.below.setCell (p := ⟨b, i, none⟩) ho.base v)
  · obtain ⟨o, hb, hc⟩ := mapI_block h.map
    rw [show B = b from e, ho.at'] at hb
    injection hb with hb
    subst hb
    cases hc
  · have e' : g = b := e
    subst e'
    rcases hg with hg | hg
    · exact ho.nV hg
    · exact ho.nU hg
theorem bd_part {W : World} {b : Nat} {x : Bd} (h : W.heap[b]? = some (bdO x)) (v : Int) : (W.setCell ⟨b, 7, none⟩ (.int .i64 v)).heap[b]? = some (bdO { x with pt := v }) := by
  have q := set1 (i := 7) h (.int .i64 v)
  simp only [List.setIfInBounds_toArray, List.set_cons_zero, List.set_cons_succ] at q
  exact q
theorem bd_numb {W : World} {b : Nat} {x : Bd} (h : W.heap[b]? = some (bdO x)) (v : Int) : (W.setCell ⟨b, 8, none⟩ (.int .i64 v)).heap[b]? = some (bdO { x with nr := v }) := by
  have q := set1 (i := 8) h (.int .i64 v)
  simp only [List.setIfInBounds_toArray, List.set_cons_zero, List.set_cons_succ] at q
  exact q
/-- A border more in a row of the survey's. -/
theorem srv_app {W : World} {base S : Nat} {cs : Array Value} {uv : Value} {ys : List Bd} (hS : W.heap[S]? = some (.cells cs 101 (0, 0))) (hr : BRow W base uv ys) (hb : base ≤ W.heap.size) (hbS : base ≤ S) (hl : ys.length ≤ 100000) (x : Bd) (i : Nat) :
    ∃ ao cap W1, (Builtin.append_ #[99, 99] 99 #[uv, .slice (some ⟨W.heap.size, 0, none⟩) 1 1]).run Tryz.prog (W.alloc (bdO x)) = .ok (.slice ao (ys.length + 1) cap) W1 ∧ W1.heap[S]? = some (.cells cs 101 (0, 0)) ∧
      BRow (W1.setCell ⟨S, i, none⟩ (.slice ao (ys.length + 1) cap)) base (.slice ao (ys.length + 1) cap) (ys ++ [x]) ∧ (W1.setCell ⟨S, i, none⟩ (.slice ao (ys.length + 1) cap)).heap[S]? = some (.cells (cs.setIfInBounds i (.slice ao (ys.length + 1) cap)) 101 (0, 0)) ∧
      KT W (W1.setCell ⟨S, i, none⟩ (.slice ao (ys.length + 1) cap)) ∧ (∀ k, k < W.heap.size → k ≠ S → uv.ownBlock ≠ some k → (W1.setCell ⟨S, i, none⟩ (.slice ao (ys.length + 1) cap)).heap[k]? = W.heap[k]?) ∧
      ((Value.slice ao (ys.length + 1) cap).ownBlock = uv.ownBlock ∨ (Value.slice ao (ys.length + 1) cap).ownBlock = some (W.heap.size + 1)) ∧ ∀ w : World, Below base w W → Below base w (W1.setCell ⟨S, i, none⟩ (.slice ao (ys.length + 1) cap)) := by
  obtain ⟨ao, cap, W1, hrun, hrow, hgr, hown⟩ := hr.snoc hb hl x
  refine ⟨ao, cap, W1, hrun, ?_⟩
  generalize Value.slice ao (ys.length + 1) cap = V at hrow hown ⊢
  have hA : ∀ k, k < W.heap.size → (W.alloc (bdO x)).heap[k]? = W.heap[k]? := fun k hk => ((Below.refl _ W).alloc (Nat.le_refl _) _).block k hk
  have hSo : uv.ownBlock ≠ some S := fun e => by
    obtain ⟨_, c, hc⟩ := brow_own hr e
    rw [hS] at hc
    injection hc with hc
    injection hc with _ e2 _
    exact absurd e2 (by decide)
  have h1 : ∀ k, k < W.heap.size → uv.ownBlock ≠ some k → W1.heap[k]? = W.heap[k]? := fun k hk hne => (hgr.block k (by simp; omega) (fun e => hne e.symm)).trans (hA k hk)
  have hS1 : W1.heap[S]? = some (.cells cs 101 (0, 0)) := (h1 S (lt_of_heap hS) hSo).trans hS
  have h2 : ∀ k, k < W.heap.size → k ≠ S → uv.ownBlock ≠ some k → (W1.setCell ⟨S, i, none⟩ V).heap[k]? = W.heap[k]? := fun k hk hne ho => (RowKit.Below.heap_setCell _ _ _ _ hne).trans (h1 k hk ho)
  refine ⟨hS1, own_keep hrow fun k c hk => RowKit.Below.heap_setCell _ _ _ _ (fun e => ?_), set1 hS1 V, ⟨?_, fun k c t q hk ht1 ht2 => h2 k (lt_of_heap hk) (fun e => ?_) (fun e => ?_)⟩, h2, hown, fun w hw => ?_⟩
  · have e' : k = S := e
    subst e'
    rw [hS1] at hk
    injection hk with hk
    injection hk with _ e2 _
    exact absurd e2 (by decide)
  · rw [World.size_setCell]
    have := hgr.size
    simp at this
    omega
  · subst e
    rw [hS] at hk
    injection hk with hk
    injection hk with _ e2 _
    exact ht2 e2.symm
  · obtain ⟨_, c', hc⟩ := brow_own hr e
    rw [hk] at hc
    injection hc with hc
    injection hc with _ e2 _
    exact ht1 e2
  · have q1 : Below base w (W.alloc (bdO x)) := hw.alloc hb _
    have q2 := q1.grown hgr (by have := W.size_alloc (bdO x); omega) (fun k e => (brow_own hr e).1)
    exact q2.setCell (p := ⟨S, i, none⟩) hbS V
/-- An outer border more. -/
theorem LkI.addO {w W : World} {P R S B N b : Nat} {pv : Array Value} {f : Int → Option Int} {vv uv : Value} {zs : List Zb} {ys : List Bd} {x : Bd} (h : LkI w P R S B pv N f vv uv zs ys W) (ho : Own1 w R S B vv uv W b x) (hS : w.heap.size ≤ S) (hRS : R ≠ S) (hl : ys.length ≤ 100000) :
    ∃ ao cap W1, (Builtin.append_ #[99, 99] 99 #[uv, .slice (some ⟨W.heap.size, 0, none⟩) 1 1]).run Tryz.prog (W.alloc (bdO x)) = .ok (.slice ao (ys.length + 1) cap) W1 ∧ W1.heap[S]? = some (.cells #[vv, uv] 101 (0, 0)) ∧
      LkI w P R S B pv N f vv (.slice ao (ys.length + 1) cap) zs (ys ++ [x]) (W1.setCell ⟨S, 1, none⟩ (.slice ao (ys.length + 1) cap)) ∧ Own1 w R S B vv (.slice ao (ys.length + 1) cap) (W1.setCell ⟨S, 1, none⟩ (.slice ao (ys.length + 1) cap)) b x ∧ KT W (W1.setCell ⟨S, 1, none⟩ (.slice ao (ys.length + 1) cap)) := by
  obtain ⟨ao, cap, W1, hrun, hS1, hrow, hS2, hkt, hoff, hown, hbel⟩ := srv_app h.srv h.rowO h.below.size hS hl x 1
  refine ⟨ao, cap, W1, hrun, hS1, ?_⟩
  generalize Value.slice ao (ys.length + 1) cap = V at hrow hS2 hkt hoff hown hbel ⊢
  have hVb : ∀ g, vv.ownBlock = some g → g < W.heap.size := fun g hg => by obtain ⟨_, c, hc⟩ := brow_own h.rowB hg; exact lt_of_heap hc
  have hVS : ∀ g, vv.ownBlock = some g → g ≠ S := fun g hg e => by
    subst e
    obtain ⟨_, c, hc⟩ := brow_own h.rowB hg
    rw [h.srv] at hc
    injection hc with hc
    injection hc with _ e2 _
    exact absurd e2 (by decide)
  have hUR : uv.ownBlock ≠ some R := fun e => by
    obtain ⟨_, c, hc⟩ := brow_own h.rowO e
    rw [h.res] at hc
    injection hc with hc
    injection hc with _ e2 _
    exact absurd e2 (by decide)
  obtain ⟨o, hBo, hBc⟩ := mapI_block h.map
  refine ⟨⟨(hkt.keep _ _ _ _ h.pln (by decide) (by decide)).trans h.pln, (hoff R (lt_of_heap h.res) hRS hUR).trans h.res, hS2, mapI_same h.map (hoff B (lt_of_heap hBo) (fun e => ?_) (fun e => ?_)), brow_same h.rowB fun g hg => hoff g (hVb g hg) (hVS g hg) (h.sep g hg), hrow, fun g hg e => ?_, fun z hz => (h.is z hz).kt hkt, hbel w h.below⟩, ⟨(hoff b (lt_of_heap ho.at') (Ne.symm ho.nS) ho.nU).trans ho.at', ho.base, ho.nR, ho.nS, ho.nV, fun e => ?_⟩, hkt⟩
  · rw [e, h.srv] at hBo
    injection hBo with hBo
    subst hBo
    cases hBc
  · obtain ⟨_, c, hc⟩ := brow_own h.rowO e
    rw [hc] at hBo
    injection hBo with hBo
    subst hBo
    cases hBc
  · rcases hown with e' | e'
    · exact h.sep g hg (e'.symm.trans e)
    · rw [e'] at e
      injection e with e
      have := hVb g hg
      omega
  · rcases hown with e' | e'
    · exact ho.nU (e'.symm.trans e)
    · rw [e'] at e
      injection e with e
      have := lt_of_heap ho.at'
      omega
/-- A border more. -/
theorem LkI.addB {w W : World} {P R S B N b : Nat} {pv : Array Value} {f : Int → Option Int} {vv uv : Value} {zs : List Zb} {ys : List Bd} {x : Bd} {bp : BP} (h : LkI w P R S B pv N f vv uv zs ys W) (_ho : Own1 w R S B vv uv W b x) (hx : BdIs W w.heap.size x bp) (hS : w.heap.size ≤ S) (hRS : R ≠ S) (hl : zs.length ≤ 100000) :
    ∃ ao cap W1, (Builtin.append_ #[99, 99] 99 #[vv, .slice (some ⟨W.heap.size, 0, none⟩) 1 1]).run Tryz.prog (W.alloc (bdO x)) = .ok (.slice ao (zs.length + 1) cap) W1 ∧ W1.heap[S]? = some (.cells #[vv, uv] 101 (0, 0)) ∧
      LkI w P R S B pv N f (.slice ao (zs.length + 1) cap) uv (zs ++ [(x, bp)]) ys (W1.setCell ⟨S, 0, none⟩ (.slice ao (zs.length + 1) cap)) ∧ KT W (W1.setCell ⟨S, 0, none⟩ (.slice ao (zs.length + 1) cap)) := by
  obtain ⟨ao, cap, W1, hrun, hS1, hrow, hS2, hkt, hoff, hown, hbel⟩ := srv_app h.srv h.rowB h.below.size hS (by rw [List.length_map]; exact hl) x 0
  rw [List.length_map] at hrun hrow hS2 hkt hoff hown hbel
  refine ⟨ao, cap, W1, hrun, hS1, ?_⟩
  generalize Value.slice ao (zs.length + 1) cap = V at hrow hS2 hkt hoff hown hbel ⊢
  have hUb : ∀ g, uv.ownBlock = some g → g < W.heap.size := fun g hg => by obtain ⟨_, c, hc⟩ := brow_own h.rowO hg; exact lt_of_heap hc
  have hUS : ∀ g, uv.ownBlock = some g → g ≠ S := fun g hg e => by
    subst e
    obtain ⟨_, c, hc⟩ := brow_own h.rowO hg
    rw [h.srv] at hc
    injection hc with hc
    injection hc with _ e2 _
    exact absurd e2 (by decide)
  have hVR : vv.ownBlock ≠ some R := fun e => by
    obtain ⟨_, c, hc⟩ := brow_own h.rowB e
    rw [h.res] at hc
    injection hc with hc
    injection hc with _ e2 _
    exact absurd e2 (by decide)
  obtain ⟨o, hBo, hBc⟩ := mapI_block h.map
  refine ⟨⟨(hkt.keep _ _ _ _ h.pln (by decide) (by decide)).trans h.pln, (hoff R (lt_of_heap h.res) hRS hVR).trans h.res, hS2, mapI_same h.map (hoff B (lt_of_heap hBo) (fun e => ?_) (fun e => ?_)), by rw [List.map_append]; exact hrow, brow_same h.rowO fun g hg => hoff g (hUb g hg) (hUS g hg) (fun e => h.sep g e hg), fun g hg e => ?_, fun z hz => ?_, hbel w h.below⟩, hkt⟩
  · rw [e, h.srv] at hBo
    injection hBo with hBo
    subst hBo
    cases hBc
  · obtain ⟨_, c, hc⟩ := brow_own h.rowB e
    rw [hc] at hBo
    injection hBo with hBo
    subst hBo
    cases hBc
  · rcases hown with e' | e'
    · exact h.sep g (e'.symm.trans hg) e
    · rw [e'] at hg
      injection hg with hg
      have := hUb g e
      omega
  · rcases List.mem_append.1 hz with hz | hz
    · exact (h.is z hz).kt hkt
    · rw [List.mem_singleton] at hz
      subst hz
      exact hx.kt hkt
end Go.Proofs.YtkdnkmheidbfdaaGreat
