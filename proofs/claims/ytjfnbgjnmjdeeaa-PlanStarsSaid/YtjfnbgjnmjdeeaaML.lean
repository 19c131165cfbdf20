/-
  Layer 14, plain: the ways of a star: edges from one node to others, each in a direction of its own.
-/
import Derived.Test.YtjfnbgjnmjdeeaaMK
import Derived.Deep.RegionLaw
namespace Go.Proofs.Ytjfnbgjnmjdeeaa

theorem allLd_nil (ls : List (List Pp)) : allLd [] ls = [] := rfl
theorem ldT_up (x : ER) (xs : List ER) (l : List Pp) (ls : List (List Pp)) (k : Nat) : ldT (x :: xs) (l :: ls) (k + 2) = ldT xs ls k := by
  unfold ldT ldW ldN ldD
  rw [show (k + 2) % 2 = k % 2 by omega, show (k + 2) / 2 = k / 2 + 1 by omega]
  simp [List.getD_eq_getElem?_getD]
theorem allLd_cons (x : ER) (xs : List ER) (l : List Pp) (ls : List (List Pp)) : allLd (x :: xs) (l :: ls) = (x.id, x.st, hdD l) :: (-x.id, x.en, hdD (l.drop (l.length - 2)).reverse) :: allLd xs ls := by
  unfold allLd
  rw [List.length_cons, show 2 * (xs.length + 1) = 2 * xs.length + 1 + 1 by omega, List.range_succ_eq_map, List.range_succ_eq_map]
  simp only [List.map_cons, List.map_map]
  refine List.cons_eq_cons.2 ⟨rfl, List.cons_eq_cons.2 ⟨rfl, ?_⟩⟩
  refine List.map_congr_left fun k _ => ?_
  exact ldT_up x xs l ls k

/-- A spoke: its way from the hub, its direction, its other node. -/
structure Spk where
  way : Int
  dir : Pp
  node : Int
/-- The two leads of a spoke: at the hub, and back. -/
def Spk.out (s : Spk) : LdT := (s.way, 1, s.dir)
def Spk.back (s : Spk) : LdT := (-s.way, s.node, (-s.dir.1, -s.dir.2))
/-- The leads of spokes, each edge's along it ahead of against it. -/
def spkL : List Spk → List LdT
  | [] => []
  | s :: ss => (if 0 < s.way then [s.out, s.back] else [s.back, s.out]) ++ spkL ss
theorem spkL_mem {ss : List Spk} {l : LdT} : l ∈ spkL ss ↔ ∃ s ∈ ss, l = s.out ∨ l = s.back := by
  induction ss with
  | nil => simp [spkL]
  | cons s ss ih =>
    rw [spkL, List.mem_append, ih]
    constructor
    · rintro (h | ⟨t, ht, h⟩)
      · refine ⟨s, List.mem_cons_self .., ?_⟩
        split at h <;> simp at h <;> rcases h with h | h <;> simp [h]
      · exact ⟨t, List.mem_cons_of_mem _ ht, h⟩
    · rintro ⟨t, ht, h⟩
      rcases List.mem_cons.1 ht with rfl | ht
      · left
        split <;> simp <;> rcases h with h | h <;> simp [h]
      · exact .inr ⟨t, ht, h⟩
/-- What is asked of spokes. -/
structure SpkOk (ss : List Spk) : Prop where
  ways : ss.Pairwise fun a b => a.way ≠ b.way ∧ a.way ≠ -b.way
  pos : ∀ s ∈ ss, s.way ≠ 0
  dirs : ss.Pairwise fun a b => cmpD a.dir b.dir < 0
  nodes : ss.Pairwise fun a b => a.node ≠ b.node
  hub : ∀ s ∈ ss, s.node ≠ 1
theorem SpkOk.tail {s : Spk} {ss : List Spk} (h : SpkOk (s :: ss)) : SpkOk ss := ⟨(List.pairwise_cons.1 h.ways).2, fun t ht => h.pos t (List.mem_cons_of_mem _ ht), (List.pairwise_cons.1 h.dirs).2, (List.pairwise_cons.1 h.nodes).2, fun t ht => h.hub t (List.mem_cons_of_mem _ ht)⟩
theorem spk_hub : ∀ {ss : List Spk}, SpkOk ss → grp (spkL ss) 1 = ss.map Spk.out
  | [], _ => rfl
  | s :: ss, h => by
    have ih := spk_hub h.tail
    have hn := h.hub s (List.mem_cons_self ..)
    unfold grp at ih ⊢
    rw [spkL, List.filter_append, ih]
    have e1 : (s.out.2.1 == 1) = true := rfl
    have e2 : (s.back.2.1 == 1) = false := by simpa [Spk.back] using hn
    split <;> simp [e1, e2]
theorem spk_no {ss : List Spk} {k : Int} (hk : k ≠ 1) (h : ∀ s ∈ ss, s.node ≠ k) : grp (spkL ss) k = [] := by
  rw [List.eq_nil_iff_forall_not_mem]
  intro l hl
  obtain ⟨h1, h2⟩ := mem_grp.1 hl
  obtain ⟨s, hs, rfl | rfl⟩ := spkL_mem.1 h1
  · exact hk h2.symm
  · exact h s hs h2
theorem spk_rim : ∀ {ss : List Spk}, SpkOk ss → ∀ s ∈ ss, grp (spkL ss) s.node = [s.back]
  | [], _, s, hs => by cases hs
  | t :: ss, h, s, hs => by
    have hp := List.pairwise_cons.1 h.nodes
    unfold grp
    rw [spkL, List.filter_append]
    have e1 : ∀ u : Spk, (u.out.2.1 == s.node) = false := fun u => by
      have := h.hub s hs
      simp [Spk.out]
      exact fun e => this e.symm
    rcases List.mem_cons.1 hs with rfl | hs'
    · have q := spk_no (ss := ss) (h.hub s hs) (fun u hu e => hp.1 u hu e.symm)
      unfold grp at q
      rw [q, List.append_nil]
      have e2 : (s.back.2.1 == s.node) = true := by simp [Spk.back]
      split <;> simp [e1, e2]
    · have ih := spk_rim h.tail s hs'
      unfold grp at ih
      rw [ih]
      have e2 : (t.back.2.1 == s.node) = false := by
        have := hp.1 s hs'
        simpa [Spk.back] using this
      split <;> simp [e1, e2]
theorem spk_nodup : ∀ {ss : List Spk}, SpkOk ss → ((spkL ss).map (·.1)).Nodup
  | [], _ => List.nodup_nil
  | s :: ss, h => by
    have ih := spk_nodup h.tail
    have hw := (List.pairwise_cons.1 h.ways).1
    have hp := h.pos s (List.mem_cons_self ..)
    rw [spkL, List.map_append, List.nodup_append]
    refine ⟨?_, ih, ?_⟩
    · split <;> simp [Spk.out, Spk.back] <;> omega
    · intro a ha b hb
      obtain ⟨l, hl, rfl⟩ := List.mem_map.1 hb
      obtain ⟨t, ht, e⟩ := spkL_mem.1 hl
      have q := hw t ht
      have ha' : a = s.way ∨ a = -s.way := by
        split at ha <;> simp [Spk.out, Spk.back] at ha <;> omega
      rcases e with rfl | rfl <;> rcases ha' with rfl | rfl <;> simp [Spk.out, Spk.back] <;> omega
theorem spk_ord {ss : List Spk} (h : SpkOk ss) : ordL (grp (spkL ss) 1) = ss.map Spk.out := by
  refine ordL_eq (by rw [spk_hub h]) ?_ (grp_nodup (spk_nodup h) 1)
  rw [List.pairwise_map]
  exact h.dirs.imp fun {a b} hab => .inl hab
theorem ord_one (l : LdT) : ordL [l] = [l] := ordL_eq (List.Perm.refl _) (by simp) (by simp)
theorem find_way {ys : List LdT} (hn : (ys.map (·.1)).Nodup) {l : LdT} (hl : l ∈ ys) {k : Int} (hk : l.1 = -k) : (ys.find? fun x => x.1 == -k) = some l := by
  cases hf : ys.find? fun x => x.1 == -k with
  | none => exact absurd (beq_iff_eq.2 hk) (by simpa using List.find?_eq_none.1 hf l hl)
  | some m =>
    have hm : m ∈ ys := List.mem_of_find?_eq_some hf
    have hmk : m.1 = -k := by simpa using List.find?_some hf
    rw [way_inj hn hm hl (by omega)]
/-- Out along a spoke one comes back along it. -/
theorem spk_out {ss : List Spk} (h : SpkOk ss) {s : Spk} (hs : s ∈ ss) : nxtF (spkL ss) s.way = some (-s.way) := by
  unfold nxtF
  rw [find_way (spk_nodup h) (l := s.back) (spkL_mem.2 ⟨s, hs, .inr rfl⟩) rfl]
  have e : grp (spkL ss) s.back.2.1 = [s.back] := spk_rim h s hs
  rw [Option.map_some, e, ord_one]
  simp [aheadL, Spk.back]
theorem out_inj {ss : List Spk} (h : SpkOk ss) {i : Nat} (hi : i < ss.length) : (ss.map Spk.out).idxOf (ss[i].out) = i := by
  have hn : (ss.map Spk.out).Nodup := by
    rw [List.Nodup, List.pairwise_map]
    exact h.ways.imp fun {a b} hab e => hab.1 (congrArg Prod.fst e)
  have := hn.idxOf_getElem i (by simpa using hi)
  simpa using this
/-- Back at the hub one goes on along the one ahead. -/
theorem spk_back {ss : List Spk} (h : SpkOk ss) {i : Nat} (hi : i < ss.length) : nxtF (spkL ss) (-(ss[i].way)) = some (ss[(i + ss.length - 1) % ss.length]'(Nat.mod_lt _ (by omega))).way := by
  unfold nxtF
  rw [find_way (spk_nodup h) (l := ss[i].out) (spkL_mem.2 ⟨ss[i], List.getElem_mem hi, .inl rfl⟩) (by simp [Spk.out])]
  have e : ordL (grp (spkL ss) ss[i].out.2.1) = ss.map Spk.out := spk_ord h
  rw [Option.map_some, e, out_inj h hi]
  unfold aheadL
  rw [List.length_map, List.getD_eq_getElem?_getD, List.getElem?_map, List.getElem?_eq_getElem (Nat.mod_lt _ (by omega))]
  rfl
end Go.Proofs.Ytjfnbgjnmjdeeaa

namespace Go.Proofs.Ytjfnbgjnmjdeeaa

theorem walk_cycle {f : Int → Option Int} {s : Nat → Int} {p : Nat} (hp0 : 0 < p) (hf : ∀ t, t < p → f (s t) = some (s (t + 1))) (hinj : ∀ a b, a < p → b < p → s a = s b → a = b) (hp : s p = s 0) :
    ∀ (d t m : Nat), t + d = p → d + 1 ≤ m → walkF f m (s t) ((List.range t).map s) = (List.range p).map s
  | 0, t, m, ht, hm => by
    obtain rfl : t = p := by omega
    refine walkF_been _ ?_
    rw [hp]
    exact List.mem_map.2 ⟨0, List.mem_range.2 hp0, rfl⟩
  | d + 1, t, m, ht, hm => by
    obtain ⟨m', rfl⟩ : ∃ m', m = m' + 1 := ⟨m - 1, by omega⟩
    rw [walkF_on (hf t (by omega)) m' fun hx => ?_]
    · have := walk_cycle hp0 hf hinj hp d (t + 1) m' (by omega) (by omega)
      rw [List.range_succ, List.map_append] at this
      exact this
    · obtain ⟨u, hu, e⟩ := List.mem_map.1 hx
      rw [List.mem_range] at hu
      have := hinj u t (by omega) (by omega) e
      omega
/-- The place of a spoke, counted back from the first. -/
def jx (n q : Nat) : Nat := if q = 0 then 0 else n - q
/-- The ring of a star, from the first spoke out. -/
def sA (ss : List Spk) (t : Nat) : Int := if t % 2 = 0 then (ss.map Spk.way).getD (jx ss.length (t / 2)) 0 else -((ss.map Spk.way).getD (jx ss.length (t / 2)) 0)
theorem wayD {ss : List Spk} {j : Nat} (hj : j < ss.length) : (ss.map Spk.way).getD j 0 = ss[j].way := by
  rw [List.getD_eq_getElem?_getD, List.getElem?_map, List.getElem?_eq_getElem hj]
  rfl
theorem jx_lt {n q : Nat} (hn : 0 < n) : jx n q < n := by unfold jx; split <;> omega
theorem way_ne {ss : List Spk} (h : SpkOk ss) {i j : Nat} (hi : i < ss.length) (hj : j < ss.length) : (ss[i].way = ss[j].way → i = j) ∧ ss[i].way ≠ -ss[j].way := by
  have key : ∀ a b (ha : a < ss.length) (hb : b < ss.length), a < b → ss[a].way ≠ ss[b].way ∧ ss[a].way ≠ -ss[b].way := fun a b ha hb hab => List.pairwise_iff_getElem.1 h.ways a b ha hb hab
  rcases (show i < j ∨ i = j ∨ j < i by omega) with g | g | g
  · have := key i j hi hj g
    exact ⟨fun e => absurd e this.1, this.2⟩
  · subst g
    have := h.pos _ (List.getElem_mem hi)
    exact ⟨fun _ => rfl, by omega⟩
  · have := key j i hj hi g
    exact ⟨fun e => absurd e.symm this.1, by omega⟩
theorem sA_step {ss : List Spk} (h : SpkOk ss) (hn : 0 < ss.length) (t : Nat) (ht : t ≤ 2 * ss.length) : nxtF (spkL ss) (sA ss t) = some (sA ss (t + 1)) := by
  have hj := jx_lt (q := t / 2) hn
  unfold sA
  by_cases hp : t % 2 = 0
  · rw [if_pos hp, if_neg (show ¬ (t + 1) % 2 = 0 by omega), show (t + 1) / 2 = t / 2 by omega, wayD hj]
    exact spk_out h (List.getElem_mem hj)
  · rw [if_neg hp, if_pos (show (t + 1) % 2 = 0 by omega), show (t + 1) / 2 = t / 2 + 1 by omega, wayD hj, spk_back h hj, wayD (jx_lt hn)]
    congr 2
    have e : (jx ss.length (t / 2) + ss.length - 1) % ss.length = jx ss.length (t / 2 + 1) := by
      unfold jx
      by_cases hq : t / 2 = 0
      · rw [if_pos hq, hq, if_neg (by omega), Nat.zero_add, Nat.mod_eq_of_lt (by omega)]
      · rw [if_neg hq, if_neg (by omega), show ss.length - t / 2 + ss.length - 1 = (ss.length - (t / 2 + 1)) + ss.length by omega, Nat.add_mod_right, Nat.mod_eq_of_lt (by omega)]
    simp [e]
theorem sA_inj {ss : List Spk} (h : SpkOk ss) (hn : 0 < ss.length) (c : Nat) (hc : c ≤ 1) {a b : Nat} (ha : a < 2 * ss.length) (hb : b < 2 * ss.length) (e : sA ss (a + c) = sA ss (b + c)) : a = b := by
  have ja := jx_lt (q := (a + c) / 2) hn
  have jb := jx_lt (q := (b + c) / 2) hn
  have w1 := way_ne h ja jb
  have w2 := way_ne h jb ja
  unfold sA at e
  rw [wayD ja, wayD jb] at e
  have hjx : jx ss.length ((a + c) / 2) = jx ss.length ((b + c) / 2) ∧ (a + c) % 2 = (b + c) % 2 := by
    by_cases pa : (a + c) % 2 = 0 <;> by_cases pb : (b + c) % 2 = 0
    · rw [if_pos pa, if_pos pb] at e
      exact ⟨w1.1 e, by omega⟩
    · rw [if_pos pa, if_neg pb] at e
      exact absurd e w1.2
    · rw [if_neg pa, if_pos pb] at e
      exact absurd e.symm w2.2
    · rw [if_neg pa, if_neg pb] at e
      exact ⟨w1.1 (by omega), by omega⟩
  obtain ⟨e1, e2⟩ := hjx
  unfold jx at e1
  split at e1 <;> split at e1 <;> omega
theorem sA_mem {ss : List Spk} (hn : 0 < ss.length) (c : Nat) (hc : c ≤ 1) {l : LdT} (hl : l ∈ spkL ss) : l.1 ∈ (List.range (2 * ss.length)).map fun t => sA ss (t + c) := by
  obtain ⟨s, hs, e⟩ := spkL_mem.1 hl
  obtain ⟨j, hj, rfl⟩ := List.getElem_of_mem hs
  have hex : ∀ q, jx ss.length q = j → ∀ r, r < 2 → sA ss (2 * q + r) = if r = 0 then ss[j].way else -ss[j].way := fun q hq r hr => by
    unfold sA
    rw [show (2 * q + r) / 2 = q by omega, hq, wayD hj, show (2 * q + r) % 2 = r by omega]
  have hq0 : jx ss.length (if j = 0 then 0 else ss.length - j) = j := by unfold jx; split <;> split at * <;> omega
  have hqn : jx ss.length (ss.length - j) = j := by unfold jx; split <;> omega
  rw [List.mem_map]
  rcases e with rfl | rfl
  · rcases (show c = 0 ∨ c = 1 by omega) with rfl | rfl
    · refine ⟨2 * (if j = 0 then 0 else ss.length - j), List.mem_range.2 (by split <;> omega), ?_⟩
      have := hex _ hq0 0 (by omega)
      rw [if_pos rfl] at this
      exact this
    · refine ⟨2 * (ss.length - j) - 1, List.mem_range.2 (by omega), ?_⟩
      have := hex _ hqn 0 (by omega)
      rw [if_pos rfl] at this
      rw [show 2 * (ss.length - j) - 1 + 1 = 2 * (ss.length - j) + 0 by omega]
      exact this
  · rcases (show c = 0 ∨ c = 1 by omega) with rfl | rfl
    · refine ⟨2 * (if j = 0 then 0 else ss.length - j) + 1, List.mem_range.2 (by split <;> omega), ?_⟩
      have := hex _ hq0 1 (by omega)
      rw [if_neg Nat.one_ne_zero] at this
      exact this
    · refine ⟨2 * (if j = 0 then 0 else ss.length - j), List.mem_range.2 (by split <;> omega), ?_⟩
      have := hex _ hq0 1 (by omega)
      rw [if_neg Nat.one_ne_zero] at this
      exact this
theorem rings_same (m : Nat) : ∀ (ks : List Int) (s : List (List Int) × (Int → Option Int)), (∀ k ∈ ks, s.2 k = none) → ks.foldl (fun s k => if walkF s.2 m k [] = [] then s else (s.1 ++ [walkF s.2 m k []], delF s.2 (walkF s.2 m k []))) s = s
  | [], s, _ => rfl
  | k :: ks, s, h => by
    rw [List.foldl_cons, if_pos (walkF_none (h k (List.mem_cons_self ..)) _ _)]
    exact rings_same m ks s fun j hj => h j (List.mem_cons_of_mem _ hj)
theorem star_rings {ss : List Spk} (h : SpkOk ss) (m : Nat) (hm : 2 * ss.length + 1 ≤ m) :
    (ss = [] → (ringsS m (nxtF (spkL ss)) ((spkL ss).map (·.1))).1 = []) ∧ (ss ≠ [] → ∃ R, (ringsS m (nxtF (spkL ss)) ((spkL ss).map (·.1))).1 = [R] ∧ R.length = 2 * ss.length) := by
  refine ⟨fun e => by subst e; rfl, fun hne => ?_⟩
  have hn : 0 < ss.length := List.length_pos_iff.2 hne
  obtain ⟨s0, ss', rfl⟩ : ∃ s0 ss', ss = s0 :: ss' := by
    cases ss with
    | nil => exact absurd rfl hne
    | cons a b => exact ⟨a, b, rfl⟩
  have key : ∀ c, c ≤ 1 → ∀ rest, (spkL (s0 :: ss')).map (·.1) = sA (s0 :: ss') c :: rest → ∃ R, (ringsS m (nxtF (spkL (s0 :: ss'))) ((spkL (s0 :: ss')).map (·.1))).1 = [R] ∧ R.length = 2 * (s0 :: ss').length := fun c hc rest hr => by
    have hw := walk_cycle (f := nxtF (spkL (s0 :: ss'))) (s := fun t => sA (s0 :: ss') (t + c)) (p := 2 * (s0 :: ss').length) (by omega) (fun t ht => by
      have := sA_step h hn (t + c) (by omega)
      rw [show t + c + 1 = t + 1 + c by omega] at this
      exact this) (fun a b ha hb e => sA_inj h hn c hc ha hb e) (by
      unfold sA
      rw [show (2 * (s0 :: ss').length + c) % 2 = (0 + c) % 2 by omega, show (2 * (s0 :: ss').length + c) / 2 = (s0 :: ss').length by omega, show (0 + c) / 2 = 0 by omega]
      have : jx (s0 :: ss').length (s0 :: ss').length = jx (s0 :: ss').length 0 := by unfold jx; split <;> simp
      rw [this]) (2 * (s0 :: ss').length) 0 m (by omega) (by omega)
    rw [Nat.zero_add, List.range_zero, List.map_nil] at hw
    refine ⟨(List.range (2 * (s0 :: ss').length)).map fun t => sA (s0 :: ss') (t + c), ?_, by simp⟩
    have hmem := fun l hl => sA_mem (ss := s0 :: ss') hn c hc (l := l) hl
    have hall : ∀ k ∈ rest, k ∈ (List.range (2 * (s0 :: ss').length)).map fun t => sA (s0 :: ss') (t + c) := fun k hk => by
      have : k ∈ (spkL (s0 :: ss')).map (·.1) := by rw [hr]; exact List.mem_cons_of_mem _ hk
      obtain ⟨l, hl, rfl⟩ := List.mem_map.1 this
      exact hmem l hl
    unfold ringsS
    rw [hr, List.foldl_cons]
    dsimp only
    rw [hw, if_neg (fun e => by have := congrArg List.length e; simp at this), rings_same]
    · rfl
    · intro k hk
      dsimp only
      unfold delF
      rw [if_pos (hall k hk)]
  have e0 : sA (s0 :: ss') 0 = s0.way := rfl
  have e1 : sA (s0 :: ss') 1 = -s0.way := rfl
  by_cases hw : 0 < s0.way
  · refine key 0 (by omega) ((s0.back :: spkL ss').map (·.1)) ?_
    rw [e0, spkL, if_pos hw]
    rfl
  · refine key 1 (by omega) ((s0.out :: spkL ss').map (·.1)) ?_
    rw [e1, spkL, if_neg hw]
    rfl
end Go.Proofs.Ytjfnbgjnmjdeeaa

namespace Go.Proofs.Ytjfnbgjnmjdeeaa

def dirs16 : List Pp := [(2, 0), (4, 2), (2, 2), (2, 4), (0, 2), (-2, 4), (-2, 2), (-4, 2), (-2, 0), (-4, -2), (-2, -2), (-2, -4), (0, -2), (2, -4), (2, -2), (4, -2)]
def dirAt (j : Nat) : Pp := dirs16.getD j (0, 0)
theorem dirAt_lt : ∀ a, a < 16 → ∀ b, b < 16 → a < b → cmpD (dirAt a) (dirAt b) < 0 := by decide
theorem dirAt_out : ∀ j, j < 16 → hdD [(0, 0), dirAt j] = dirAt j ∧ hdD [dirAt j, (0, 0)] = (-(dirAt j).1, -(dirAt j).2) := by decide
/-- The spoke of a number; against it, if told so. -/
def spkOf (r : Nat → Bool) (j : Nat) : Spk := { way := if r j then -((j : Int) + 1) else (j : Int) + 1, dir := dirAt j, node := (j : Int) + 2 }
/-- The spokes of the numbers below one that are there. -/
def starS (q r : Nat → Bool) (i : Nat) : List Spk := ((List.range i).filter q).map (spkOf r)
theorem starS_no {q r : Nat → Bool} {i : Nat} (h : q i = false) : starS q r (i + 1) = starS q r i := by
  unfold starS
  rw [List.range_succ, List.filter_append]
  simp [h]
theorem starS_yes {q r : Nat → Bool} {i : Nat} (h : q i = true) : starS q r (i + 1) = starS q r i ++ [spkOf r i] := by
  unfold starS
  rw [List.range_succ, List.filter_append]
  simp [h]
theorem starS_len (q r : Nat → Bool) (i : Nat) : (starS q r i).length ≤ i := by
  unfold starS
  rw [List.length_map]
  have := List.length_filter_le q (List.range i)
  rw [List.length_range] at this
  exact this
theorem starS_pair {q r : Nat → Bool} {i : Nat} (R : Spk → Spk → Prop) (h : ∀ a b, a < b → b < i → R (spkOf r a) (spkOf r b)) : (starS q r i).Pairwise R := by
  unfold starS
  rw [List.pairwise_map]
  have h1 : ((List.range i).filter q).Pairwise (· < ·) := List.Pairwise.filter _ List.pairwise_lt_range
  refine (h1.and (List.pairwise_of_forall_mem_list (r := fun _ b => b < i) fun a _ b hb => List.mem_range.1 (List.mem_filter.1 hb).1)).imp fun {a b} hab => h a b hab.1 hab.2
theorem starS_all {q r : Nat → Bool} {i : Nat} (R : Spk → Prop) (h : ∀ a, a < i → R (spkOf r a)) : ∀ s ∈ starS q r i, R s := fun s hs => by
  unfold starS at hs
  obtain ⟨a, ha, rfl⟩ := List.mem_map.1 hs
  exact h a (List.mem_range.1 (List.mem_filter.1 ha).1)
theorem starS_ok (q r : Nat → Bool) {i : Nat} (hi : i ≤ 16) : SpkOk (starS q r i) where
  ways := starS_pair _ fun a b hab _ => by
    unfold spkOf
    dsimp only
    split <;> split <;> omega
  pos := starS_all _ fun a _ => by
    unfold spkOf
    dsimp only
    split <;> omega
  dirs := starS_pair _ fun a b hab hb => dirAt_lt a (by omega) b (by omega) hab
  nodes := starS_pair _ fun a b hab _ => by
    unfold spkOf
    dsimp only
    omega
  hub := starS_all _ fun a _ => by
    unfold spkOf
    dsimp only
    omega

/-- An edge that makes a spoke. -/
def ErOk (x : ER) (s : Spk) (l : List Pp) : Prop :=
  x.id = s.node - 1 ∧ ((s.way = s.node - 1 ∧ x.st = 1 ∧ x.en = s.node ∧ l = [(0, 0), s.dir]) ∨ (s.way = -(s.node - 1) ∧ x.st = s.node ∧ x.en = 1 ∧ l = [s.dir, (0, 0)]))
/-- Edges that make a star. -/
structure StOk (ss : List Spk) (xs : List ER) (ls : List (List Pp)) : Prop where
  len : xs.length = ss.length
  len' : ls.length = ss.length
  each : ∀ (k : Nat) (x : ER) (s : Spk), xs[k]? = some x → ss[k]? = some s → ErOk x s (ls.getD k [])
theorem StOk.snoc {ss : List Spk} {xs : List ER} {ls : List (List Pp)} (h : StOk ss xs ls) {s : Spk} {x : ER} {l : List Pp} (he : ErOk x s l) : StOk (ss ++ [s]) (xs ++ [x]) (ls ++ [l]) := by
  refine ⟨by simp [h.len], by simp [h.len'], fun k y t hy ht => ?_⟩
  by_cases hk : k < ss.length
  · rw [List.getElem?_append_left (by rw [h.len]; exact hk)] at hy
    rw [List.getElem?_append_left hk] at ht
    have e : (ls ++ [l]).getD k [] = ls.getD k [] := by rw [List.getD_eq_getElem?_getD, List.getD_eq_getElem?_getD, List.getElem?_append_left (by rw [h.len']; exact hk)]
    rw [e]
    exact h.each k y t hy ht
  · have hkl : k = ss.length := by
      have := (List.getElem?_eq_some_iff.1 ht).1
      simp at this
      omega
    subst hkl
    rw [List.getElem?_append_right (by rw [h.len]; exact Nat.le_refl _), h.len] at hy
    rw [List.getElem?_append_right (Nat.le_refl _)] at ht
    simp at hy ht
    subst hy ht
    have e : (ls ++ [l]).getD ss.length [] = l := by rw [List.getD_eq_getElem?_getD, ← h.len', List.getElem?_append_right (Nat.le_refl _)]; simp
    rw [e]
    exact he
theorem StOk.leads : ∀ {ss : List Spk} {xs : List ER} {ls : List (List Pp)}, StOk ss xs ls → (∀ s ∈ ss, 2 ≤ s.node ∧ hdD [(0, 0), s.dir] = s.dir ∧ hdD [s.dir, (0, 0)] = (-s.dir.1, -s.dir.2)) → allLd xs ls = spkL ss
  | [], [], _, _, _ => rfl
  | [], x :: xs, _, h, _ => by cases h.len
  | s :: ss, [], _, h, _ => by cases h.len
  | s :: ss, x :: xs, [], h, _ => by cases h.len'
  | s :: ss, x :: xs, l :: ls, h, hs => by
    have ht : StOk ss xs ls := ⟨by have := h.len; simp at this; exact this, by have := h.len'; simp at this; exact this, fun k y t hy ht => h.each (k + 1) y t (by rw [List.getElem?_cons_succ]; exact hy) (by rw [List.getElem?_cons_succ]; exact ht)⟩
    have ih := StOk.leads ht fun t ht' => hs t (List.mem_cons_of_mem _ ht')
    obtain ⟨n2, d1, d2⟩ := hs s (List.mem_cons_self ..)
    rw [allLd_cons, ih, spkL]
    obtain ⟨e0, e⟩ := h.each 0 x s rfl rfl
    rcases e with ⟨e1, e2, e3, e4⟩ | ⟨e1, e2, e3, e4⟩
    · have e4' : l = [(0, 0), s.dir] := e4
      rw [if_pos (by omega), e4', e2, e3, e0]
      simp [Spk.out, Spk.back, d1, d2, e1]
    · have e4' : l = [s.dir, (0, 0)] := e4
      rw [if_neg (by omega), e4', e2, e3, e0]
      simp [Spk.out, Spk.back, d1, d2, e1]
theorem starS_dirs (q r : Nat → Bool) {i : Nat} (hi : i ≤ 16) : ∀ s ∈ starS q r i, 2 ≤ s.node ∧ hdD [(0, 0), s.dir] = s.dir ∧ hdD [s.dir, (0, 0)] = (-s.dir.1, -s.dir.2) :=
  starS_all _ fun a ha => ⟨by unfold spkOf; dsimp only; omega, dirAt_out a (by omega)⟩
theorem StOk.rise {q r : Nat → Bool} {i : Nat} {xs : List ER} {ls : List (List Pp)} (h : StOk (starS q r i) xs ls) : Rise xs := fun a b x y hab hx hy => by
  have hp : (starS q r i).Pairwise fun s t => s.node < t.node := starS_pair _ fun a b hab _ => by unfold spkOf; dsimp only; omega
  have ha := (List.getElem?_eq_some_iff.1 hx).1
  have hb := (List.getElem?_eq_some_iff.1 hy).1
  rw [h.len] at ha hb
  have q1 := (h.each a x _ hx (List.getElem?_eq_getElem ha)).1
  have q2 := (h.each b y _ hy (List.getElem?_eq_getElem hb)).1
  have := List.pairwise_iff_getElem.1 hp a b ha hb hab
  omega
theorem StOk.bounds {q r : Nat → Bool} {i : Nat} (hi : i ≤ 16) {xs : List ER} {ls : List (List Pp)} (h : StOk (starS q r i) xs ls) : ∀ x ∈ xs, (1 ≤ x.id ∧ x.id ≤ 1000000) ∧ -1000000 ≤ x.st ∧ x.st ≤ 1000000 ∧ -1000000 ≤ x.en ∧ x.en ≤ 1000000 := fun x hx => by
  obtain ⟨k, hk, rfl⟩ := List.getElem_of_mem hx
  have hk' : k < (starS q r i).length := by rw [← h.len]; exact hk
  obtain ⟨e0, e⟩ := h.each k _ _ (List.getElem?_eq_getElem hk) (List.getElem?_eq_getElem hk')
  have hb : 2 ≤ (starS q r i)[k].node ∧ (starS q r i)[k].node ≤ 18 := starS_all (fun s => 2 ≤ s.node ∧ s.node ≤ 18) (fun a ha => by unfold spkOf; dsimp only; omega) _ (List.getElem_mem hk')
  rcases e with ⟨_, e2, e3, _⟩ | ⟨_, e2, e3, _⟩ <;> omega
theorem StOk.short {ss : List Spk} {xs : List ER} {ls : List (List Pp)} (h : StOk ss xs ls) (k : Nat) : (ls.getD k []).length ≤ 1000 := by
  by_cases hk : k < ss.length
  · have hx : k < xs.length := by rw [h.len]; exact hk
    obtain ⟨_, e⟩ := h.each k _ _ (List.getElem?_eq_getElem hx) (List.getElem?_eq_getElem hk)
    rcases e with ⟨_, _, _, e⟩ | ⟨_, _, _, e⟩ <;> rw [e] <;> simp
  · rw [List.getD_eq_getElem?_getD, List.getElem?_eq_none (by rw [h.len']; omega)]
    simp
end Go.Proofs.Ytjfnbgjnmjdeeaa

namespace Go.Proofs.Ytjfnbgjnmjdeeaa
open Go.RowKit Go.Shelf Go.Sort

theorem ecs_app : ∀ a b : List ER, ecs (a ++ b) = ecs a ++ ecs b
  | [], _ => rfl
  | x :: a, b => by rw [List.cons_append, ecs, ecs, ecs_app a b, List.append_assoc]
theorem infoNd : (Try.prog.info? 26).map (fun i => (i.zero, i.size, i.bytes)) = some (some (.agg #[.int .i64 0, .int .i64 0, .int .i64 0, .int .i64 0]), 4, 32) := by kernel_rfl
/-- Where a row owned by the call lies, if anywhere. -/
theorem own_block {w : World} {base : Nat} {e : TypeId} {s : Nat} {v : Value} {n : Nat} {xs : List Value} (h : w.ownsRow base e s v n xs) : ∀ g, v.ownBlock = some g → base ≤ g ∧ ∃ c, w.heap[g]? = some (.cells c e (0, 0)) := fun g hg => by
  rcases h.2 with ⟨rfl, _⟩ | ⟨g', cp, cur, rfl, h2, h3, _⟩
  · cases hg
  · cases hg
    exact ⟨h2, _, h3⟩
theorem own_form {w : World} {base : Nat} {e : TypeId} {s : Nat} {v : Value} {n : Nat} {xs : List Value} (h : w.ownsRow base e s v n xs) : ∃ ao cap, v = .slice ao n cap := by
  rcases h.2 with ⟨rfl, h0⟩ | ⟨g, cap, cur, rfl, _⟩
  · exact ⟨none, 0, by rw [h0]⟩
  · exact ⟨_, cap, rfl⟩
theorem own_keep {w w' : World} {base : Nat} {e : TypeId} {s : Nat} {v : Value} {n : Nat} {xs : List Value} (h : w.ownsRow base e s v n xs) (hk : ∀ (k : Nat) (c : Array Value), w.heap[k]? = some (.cells c e (0, 0)) → w'.heap[k]? = w.heap[k]?) : w'.ownsRow base e s v n xs := by
  refine ⟨h.1, ?_⟩
  rcases h.2 with h0 | ⟨g, cap, cur, h1, h2, h3, h4⟩
  · exact .inl h0
  · exact .inr ⟨g, cap, cur, h1, h2, (hk _ _ h3).trans h3, h4⟩
theorem node_snoc {w : World} {base : Nat} {v : Value} {n : Nat} {cs : List Value} (h : w.ownsRow base 26 4 v n cs) (hb : base ≤ w.heap.size) (hl : n ≤ 1000000) (a b c d : Int) :
    ∃ ao cap w', (Builtin.append_ #[27, 27] 27 #[v, .slice (some ⟨w.heap.size, 0, none⟩) 1 1]).run Try.prog (w.alloc (.cells #[.int .i64 a, .int .i64 b, .int .i64 c, .int .i64 d] 26)) = .ok (.slice ao (n + 1) cap) w' ∧
      w'.ownsRow base 26 4 (.slice ao (n + 1) cap) (n + 1) (cs ++ [.int .i64 a, .int .i64 b, .int .i64 c, .int .i64 d]) ∧ (w.alloc (.cells #[.int .i64 a, .int .i64 b, .int .i64 c, .int .i64 d] 26)).grownBy w' v.ownBlock := by
  obtain ⟨i0, hi, hz0, hz1, hz2⟩ := info_parts infoNd
  obtain ⟨wA, hwA⟩ : ∃ wA, wA = w.alloc (.cells #[.int .i64 a, .int .i64 b, .int .i64 c, .int .i64 d] 26) := ⟨_, rfl⟩
  have hbA : Below w.heap.size w wA := by rw [hwA]; exact (Below.refl _ _).alloc (Nat.le_refl _) _
  have hP : wA.heap[w.heap.size]? = some (.cells #[.int .i64 a, .int .i64 b, .int .i64 c, .int .i64 d] 26) := by rw [hwA]; unfold World.alloc; simp
  have h2 : wA.ownsRow base 26 4 v n cs := own_keep h fun k _ hk => hbA.block k (lt_of_heap hk)
  obtain ⟨v', w', hrun, r1, r2, _, r4⟩ := run_append_own_at (P := Try.prog) wA base 27 27 26 i0 _ 4 32 Try.underlying27 hi hz0 hz1 hz2 rfl (by decide) v n _ h2 ⟨w.heap.size, 0, none⟩ 1 1 [.int .i64 a, .int .i64 b, .int .i64 c, .int .i64 d] rfl
    (fun j u hj => by
      match j, hj with
      | 0, hj => simp at hj; subst hj; rw [addr_add]; simp [World.cell?, hP]
      | 1, hj => simp at hj; subst hj; rw [addr_add]; simp [World.cell?, hP]
      | 2, hj => simp at hj; subst hj; rw [addr_add]; simp [World.cell?, hP]
      | 3, hj => simp at hj; subst hj; rw [addr_add]; simp [World.cell?, hP]
      | j + 4, hj => simp at hj) (by intro u hu'; simp at hu'; rcases hu' with rfl | rfl | rfl | rfl <;> rfl) (by unfold maxLen; omega) (by omega) (by rw [hwA]; simp; omega)
  obtain ⟨ao, cap, rfl⟩ := own_form r1
  rw [← hwA]
  exact ⟨ao, cap, w', hrun, r1, r2⟩
theorem edge_snoc {w : World} {base : Nat} {v : Value} {xs : List ER} (h : w.ownsRow base 33 6 v xs.length (ecs xs)) (hb : base ≤ w.heap.size) (hl : xs.length ≤ 1000000) (x : ER) :
    ∃ ao cap w', (Builtin.append_ #[28, 28] 28 #[v, .slice (some ⟨w.heap.size, 0, none⟩) 1 1]).run Try.prog (w.alloc (.cells #[.int .i64 x.id, .int .i64 x.st, .int .i64 x.en, .slice x.lo x.ll x.lc, .int .i64 x.lf, .int .i64 x.rt] 33)) = .ok (.slice ao (xs.length + 1) cap) w' ∧
      w'.ownsRow base 33 6 (.slice ao (xs.length + 1) cap) (xs ++ [x]).length (ecs (xs ++ [x])) ∧ (w.alloc (.cells #[.int .i64 x.id, .int .i64 x.st, .int .i64 x.en, .slice x.lo x.ll x.lc, .int .i64 x.lf, .int .i64 x.rt] 33)).grownBy w' v.ownBlock := by
  obtain ⟨i0, hi, hz0, hz1, hz2⟩ := info_parts infoEd
  obtain ⟨wA, hwA⟩ : ∃ wA, wA = w.alloc (.cells #[.int .i64 x.id, .int .i64 x.st, .int .i64 x.en, .slice x.lo x.ll x.lc, .int .i64 x.lf, .int .i64 x.rt] 33) := ⟨_, rfl⟩
  have hbA : Below w.heap.size w wA := by rw [hwA]; exact (Below.refl _ _).alloc (Nat.le_refl _) _
  have hE : EAt wA w.heap.size 0 x := by rw [hwA]; exact ebox w x _
  obtain ⟨e0, e1, e2, e3, e4, e5⟩ := hE
  have h2 : wA.ownsRow base 33 6 v xs.length (ecs xs) := own_keep h fun k _ hk => hbA.block k (lt_of_heap hk)
  obtain ⟨v', w', hrun, r1, r2, _, r4⟩ := run_append_own_at (P := Try.prog) wA base 28 28 33 i0 _ 6 64 Try.underlying28 hi hz0 hz1 hz2 rfl (by decide) v xs.length _ h2 ⟨w.heap.size, 0, none⟩ 1 1 x.cs rfl
    (fun j u hj => by
      match j, hj with
      | 0, hj => simp [ER.cs] at hj; subst hj; rw [addr_add]; exact e0
      | 1, hj => simp [ER.cs] at hj; subst hj; rw [addr_add]; exact e1
      | 2, hj => simp [ER.cs] at hj; subst hj; rw [addr_add]; exact e2
      | 3, hj => simp [ER.cs] at hj; subst hj; rw [addr_add]; exact e3
      | 4, hj => simp [ER.cs] at hj; subst hj; rw [addr_add]; exact e4
      | 5, hj => simp [ER.cs] at hj; subst hj; rw [addr_add]; exact e5
      | j + 6, hj => simp [ER.cs] at hj) (by intro u hu'; simp [ER.cs] at hu'; rcases hu' with rfl | rfl | rfl | rfl | rfl | rfl <;> rfl) (by unfold maxLen; omega) (by omega) (by rw [hwA]; simp; omega)
  obtain ⟨ao, cap, rfl⟩ := own_form r1
  rw [← hwA]
  refine ⟨ao, cap, w', hrun, ?_, r2⟩
  rw [List.length_append, ecs_app]
  show w'.ownsRow base _ 6 _ (xs.length + 1) (ecs xs ++ (x.cs ++ []))
  rw [List.append_nil]
  exact r1

/-- A plan under way: its box, its nodes, its edges, each one's line in a block of its own. -/
structure PlB (w : World) (Bp : Nat) (nv ev : Value) (nn : Nat) (xs : List ER) (ls : List (List Pp)) (W : World) : Prop where
  box : W.heap[Bp]? = some (.cells #[nv, ev] 30 (0, 0))
  nodes : ∃ cs, W.ownsRow w.heap.size 26 4 nv nn cs
  edges : W.ownsRow w.heap.size 33 6 ev xs.length (ecs xs)
  lines : ∀ (k : Nat) (x : ER), xs[k]? = some x → ∃ g, x.lo = some ⟨g, 0, none⟩ ∧ x.ll = (ls.getD k []).length ∧ x.lc = x.ll ∧ W.heap[g]? = some (.cells (ptCells (ls.getD k [])).toArray 23 (0, 0))
  len : ls.length = xs.length
  enil : xs = [] → ev = .slice none 0 0
  below : Below w.heap.size w W
theorem PlB.fresh {w W W' : World} {Bp : Nat} {nv ev : Value} {nn : Nat} {xs : List ER} {ls : List (List Pp)} (h : PlB w Bp nv ev nn xs ls W) (hb : Below W.heap.size W W') : PlB w Bp nv ev nn xs ls W' := by
  obtain ⟨cs, hc⟩ := h.nodes
  refine ⟨(hb.block _ (lt_of_heap h.box)).trans h.box, ⟨cs, own_keep hc fun k _ hk => hb.block k (lt_of_heap hk)⟩, own_keep h.edges fun k _ hk => hb.block k (lt_of_heap hk), fun k x hx => ?_, h.len, h.enil, h.below.trans (hb.mono h.below.size)⟩
  obtain ⟨g, l1, l2, l3, l4⟩ := h.lines k x hx
  exact ⟨g, l1, l2, l3, (hb.block _ (lt_of_heap l4)).trans l4⟩
/-- A box of two slices whose first is set. -/
theorem box2_set0 {W : World} {b : Nat} {u v x : Value} {t : TypeId} (h : W.heap[b]? = some (.cells #[u, v] t (0, 0))) : (W.setCell ⟨b, 0, none⟩ x).heap[b]? = some (.cells #[x, v] t (0, 0)) := by
  rw [heap_setCell_same W b 0 _ _ _ h]
  rfl
theorem box2_set1 {W : World} {b : Nat} {u v x : Value} {t : TypeId} (h : W.heap[b]? = some (.cells #[u, v] t (0, 0))) : (W.setCell ⟨b, 1, none⟩ x).heap[b]? = some (.cells #[u, x] t (0, 0)) := by
  rw [heap_setCell_same W b 1 _ _ _ h]
  rfl
theorem grownBy_setCell1 (w : World) (b i : Nat) (v : Value) : w.grownBy (w.setCell ⟨b, i, none⟩ v) (some b) := by
  refine ⟨rfl, rfl, rfl, by simp, fun k _ hne => ?_⟩
  exact RowKit.Below.heap_setCell _ _ _ _ (fun e => hne (congrArg some e))

set_option maxRecDepth 100000 in
/-- A node more. -/
theorem PlB.addNode {w W : World} {Bp : Nat} {nv ev : Value} {nn : Nat} {xs : List ER} {ls : List (List Pp)} (h : PlB w Bp nv ev nn xs ls W) (hw : w.heap.size ≤ Bp) (hl : nn ≤ 1000000) (a b c d : Int) :
    ∃ ao cap W1, (Builtin.append_ #[27, 27] 27 #[nv, .slice (some ⟨W.heap.size, 0, none⟩) 1 1]).run Try.prog (W.alloc (.cells #[.int .i64 a, .int .i64 b, .int .i64 c, .int .i64 d] 26)) = .ok (.slice ao (nn + 1) cap) W1 ∧ W1.heap[Bp]? = W.heap[Bp]? ∧
      PlB w Bp (.slice ao (nn + 1) cap) ev (nn + 1) xs ls (W1.setCell ⟨Bp, 0, none⟩ (.slice ao (nn + 1) cap)) ∧ (∀ (k : Nat) (c : Array Value) (t : TypeId), W.heap[k]? = some (.cells c t (0, 0)) → t ≠ 26 → t ≠ 30 → (W1.setCell ⟨Bp, 0, none⟩ (.slice ao (nn + 1) cap)).heap[k]? = some (.cells c t (0, 0))) := by
  obtain ⟨cs, hn⟩ := h.nodes
  obtain ⟨ao, cap, W1, hrun, hrow, hgr⟩ := node_snoc hn h.below.size hl a b c d
  have hown := own_block hn
  refine ⟨ao, cap, W1, hrun, ?_⟩
  generalize hV : Value.slice ao (nn + 1) cap = V at hrun hrow ⊢
  have hA : ∀ k, k < W.heap.size → (W.alloc (.cells #[.int .i64 a, .int .i64 b, .int .i64 c, .int .i64 d] 26)).heap[k]? = W.heap[k]? := fun k hk => ((Below.refl _ W).alloc (Nat.le_refl _) _).block k hk
  have h1 : ∀ (k : Nat) (c : Array Value) (t : TypeId), W.heap[k]? = some (.cells c t (0, 0)) → t ≠ 26 → W1.heap[k]? = some (.cells c t (0, 0)) := fun k c t ho ht => by
    refine (hgr.block k (by have := lt_of_heap ho; simp; omega) (fun e => ?_)).trans ((hA k (lt_of_heap ho)).trans ho)
    obtain ⟨_, c', hc'⟩ := hown k e.symm
    rw [ho] at hc'
    injection hc' with hc'
    injection hc' with _ e2 _
    exact ht e2
  have hb1 := h1 _ _ _ h.box (by decide)
  have h2 : ∀ (k : Nat) (c : Array Value) (t : TypeId), W1.heap[k]? = some (.cells c t (0, 0)) → t ≠ 30 → (W1.setCell ⟨Bp, 0, none⟩ V).heap[k]? = some (.cells c t (0, 0)) := fun k c t ho ht => by
    refine ((grownBy_setCell1 W1 Bp 0 V).block k (lt_of_heap ho) (fun e => ?_)).trans ho
    injection e with e
    subst e
    rw [hb1] at ho
    injection ho with ho
    injection ho with _ e2 _
    exact ht e2.symm
  have hbel : Below w.heap.size w (W1.setCell ⟨Bp, 0, none⟩ V) := by
    have q1 : Below w.heap.size w (W.alloc (.cells #[.int .i64 a, .int .i64 b, .int .i64 c, .int .i64 d] 26)) := h.below.trans (((Below.refl _ W).alloc (Nat.le_refl _) _).mono h.below.size)
    have q2 := q1.grown hgr q1.size (fun k e => (hown k e).1)
    exact q2.grown (grownBy_setCell1 W1 Bp 0 V) q2.size (fun k e => by injection e with e; omega)
  refine ⟨hb1.trans h.box.symm, ⟨box2_set0 hb1, ⟨_, own_keep hrow fun k c hk => (h2 k c _ hk (by decide)).trans hk.symm⟩, own_keep h.edges fun k c hk => (h2 k c _ (h1 k c _ hk (by decide)) (by decide)).trans hk.symm, fun k x hx => ?_, h.len, h.enil, hbel⟩, fun k c t hk t1 t2 => h2 k c t (h1 k c t hk t1) t2⟩
  obtain ⟨g, l1, l2, l3, l4⟩ := h.lines k x hx
  exact ⟨g, l1, l2, l3, h2 _ _ _ (h1 _ _ _ l4 (by decide)) (by decide)⟩

set_option maxRecDepth 100000 in
/-- An edge more, its line in a block that is there. -/
theorem PlB.addEdge {w W : World} {Bp : Nat} {nv ev : Value} {nn : Nat} {xs : List ER} {ls : List (List Pp)} (h : PlB w Bp nv ev nn xs ls W) (hw : w.heap.size ≤ Bp) (hl : xs.length ≤ 1000000) (x : ER) (l : List Pp) {g : Nat} (x1 : x.lo = some ⟨g, 0, none⟩) (x2 : x.ll = l.length) (x3 : x.lc = x.ll) (x4 : W.heap[g]? = some (.cells (ptCells l).toArray 23 (0, 0))) :
    ∃ ao cap W1, (Builtin.append_ #[28, 28] 28 #[ev, .slice (some ⟨W.heap.size, 0, none⟩) 1 1]).run Try.prog (W.alloc (.cells #[.int .i64 x.id, .int .i64 x.st, .int .i64 x.en, .slice x.lo x.ll x.lc, .int .i64 x.lf, .int .i64 x.rt] 33)) = .ok (.slice ao (xs.length + 1) cap) W1 ∧ W1.heap[Bp]? = W.heap[Bp]? ∧
      PlB w Bp nv (.slice ao (xs.length + 1) cap) nn (xs ++ [x]) (ls ++ [l]) (W1.setCell ⟨Bp, 1, none⟩ (.slice ao (xs.length + 1) cap)) ∧ (∀ (k : Nat) (c : Array Value) (t : TypeId), W.heap[k]? = some (.cells c t (0, 0)) → t ≠ 33 → t ≠ 30 → (W1.setCell ⟨Bp, 1, none⟩ (.slice ao (xs.length + 1) cap)).heap[k]? = some (.cells c t (0, 0))) := by
  obtain ⟨cs, hn⟩ := h.nodes
  obtain ⟨ao, cap, W1, hrun, hrow, hgr⟩ := edge_snoc h.edges h.below.size hl x
  have hown := own_block h.edges
  refine ⟨ao, cap, W1, hrun, ?_⟩
  generalize hV : Value.slice ao (xs.length + 1) cap = V at hrun hrow ⊢
  have hA : ∀ k, k < W.heap.size → (W.alloc (.cells #[.int .i64 x.id, .int .i64 x.st, .int .i64 x.en, .slice x.lo x.ll x.lc, .int .i64 x.lf, .int .i64 x.rt] 33)).heap[k]? = W.heap[k]? := fun k hk => ((Below.refl _ W).alloc (Nat.le_refl _) _).block k hk
  have h1 : ∀ (k : Nat) (c : Array Value) (t : TypeId), W.heap[k]? = some (.cells c t (0, 0)) → t ≠ 33 → W1.heap[k]? = some (.cells c t (0, 0)) := fun k c t ho ht => by
    refine (hgr.block k (by have := lt_of_heap ho; simp; omega) (fun e => ?_)).trans ((hA k (lt_of_heap ho)).trans ho)
    obtain ⟨_, c', hc'⟩ := hown k e.symm
    rw [ho] at hc'
    injection hc' with hc'
    injection hc' with _ e2 _
    exact ht e2
  have hb1 := h1 _ _ _ h.box (by decide)
  have h2 : ∀ (k : Nat) (c : Array Value) (t : TypeId), W1.heap[k]? = some (.cells c t (0, 0)) → t ≠ 30 → (W1.setCell ⟨Bp, 1, none⟩ V).heap[k]? = some (.cells c t (0, 0)) := fun k c t ho ht => by
    refine ((grownBy_setCell1 W1 Bp 1 V).block k (lt_of_heap ho) (fun e => ?_)).trans ho
    injection e with e
    subst e
    rw [hb1] at ho
    injection ho with ho
    injection ho with _ e2 _
    exact ht e2.symm
  have hbel : Below w.heap.size w (W1.setCell ⟨Bp, 1, none⟩ V) := by
    have q1 : Below w.heap.size w (W.alloc (.cells #[.int .i64 x.id, .int .i64 x.st, .int .i64 x.en, .slice x.lo x.ll x.lc, .int .i64 x.lf, .int .i64 x.rt] 33)) := h.below.trans (((Below.refl _ W).alloc (Nat.le_refl _) _).mono h.below.size)
    have q2 := q1.grown hgr q1.size (fun k e => (hown k e).1)
    exact q2.grown (grownBy_setCell1 W1 Bp 1 V) q2.size (fun k e => by injection e with e; omega)
  refine ⟨hb1.trans h.box.symm, ⟨box2_set1 hb1, ⟨cs, own_keep hn fun k c hk => (h2 k c _ (h1 k c _ hk (by decide)) (by decide)).trans hk.symm⟩, own_keep hrow fun k c hk => (h2 k c _ hk (by decide)).trans hk.symm, fun k y hy => ?_, by rw [List.length_append, List.length_append, h.len]; rfl, fun e => (by simp at e), hbel⟩, fun k c t hk t1 t2 => h2 k c t (h1 k c t hk t1) t2⟩
  by_cases hk : k < xs.length
  · rw [List.getElem?_append_left hk] at hy
    obtain ⟨g', l1, l2, l3, l4⟩ := h.lines k y hy
    have e : (ls ++ [l]).getD k [] = ls.getD k [] := by rw [List.getD_eq_getElem?_getD, List.getD_eq_getElem?_getD, List.getElem?_append_left (by rw [h.len]; exact hk)]
    rw [e]
    exact ⟨g', l1, l2, l3, h2 _ _ _ (h1 _ _ _ l4 (by decide)) (by decide)⟩
  · have hkl : k = xs.length := by
      have := (List.getElem?_eq_some_iff.1 hy).1
      simp at this
      omega
    subst hkl
    rw [List.getElem?_append_right (Nat.le_refl _)] at hy
    simp at hy
    subst hy
    have e : (ls ++ [l]).getD xs.length [] = l := by rw [List.getD_eq_getElem?_getD, ← h.len, List.getElem?_append_right (Nat.le_refl _)]; simp
    rw [e]
    exact ⟨g, x1, x2, x3, h2 _ _ _ (h1 _ _ _ x4 (by decide)) (by decide)⟩
/-- A plan that is made is one that plan's calls take. -/
theorem PlB.toPlE {w W : World} {Bp : Nat} {nv ev : Value} {nn : Nat} {xs : List ER} {ls : List (List Pp)} (h : PlB w Bp nv ev nn xs ls W) (hfew : xs.length ≤ 19) (hr : Rise xs) (hi : ∀ x ∈ xs, 1 ≤ x.id ∧ x.id ≤ 1000000) (hn : ∀ x ∈ xs, -1000000 ≤ x.st ∧ x.st ≤ 1000000 ∧ -1000000 ≤ x.en ∧ x.en ≤ 1000000) (hs : ∀ k, (ls.getD k []).length ≤ 1000) :
    ∃ b ao cap no nl nc, ev = .slice ao xs.length cap ∧ nv = .slice no nl nc ∧ PlE W b 0 xs.length ao xs ls := by
  obtain ⟨cs, hnd⟩ := h.nodes
  obtain ⟨no, nc, hno⟩ := own_form hnd
  have hlines : ∀ (k : Nat) (x : ER), xs[k]? = some x → Src W (.slice x.lo x.ll x.lc) (ls.getD k []) ∧ ∀ a, x.lo = some a → ∃ c f, W.heap[a.block]? = some (.cells c 23 f) := fun k x hx => by
    obtain ⟨g, l1, l2, l3, l4⟩ := h.lines k x hx
    refine ⟨.inr ⟨g, 0, x.lc, by rw [l1, l2], by omega, fun j p hp => ?_⟩, fun a ha => ?_⟩
    · obtain ⟨c0, c1⟩ := ptCells_at _ j p hp
      rw [Nat.zero_add]
      simp only [World.cell?, l4, Option.isSome_none, Bool.false_eq_true, if_false, List.getElem?_toArray]
      exact ⟨c0, c1⟩
    · rw [l1] at ha
      injection ha with ha
      subst ha
      exact ⟨_, _, l4⟩
  by_cases hz : xs.length = 0
  · have hx0 : xs = [] := List.eq_nil_of_length_eq_zero hz
    exact ⟨0, none, 0, no, nn, nc, by rw [h.enil hx0, hz], hno, ⟨rfl, hfew, fun k x hx => absurd (List.getElem?_eq_some_iff.1 hx).1 (by omega), hr, fun hx => absurd hx (by omega), fun _ => rfl, hi, hn, hs, hlines⟩⟩
  · rcases h.edges.2 with ⟨_, hl0⟩ | ⟨g, cap, cur, e0, hg1, hg2, hg3⟩
    · exact absurd hl0 hz
    · subst e0
      exact ⟨g, _, cap, no, nn, nc, rfl, hno, ⟨rfl, hfew, EAts.of_own h.edges rfl, hr, fun _ => rfl, fun hx => absurd hx hz, hi, hn, hs, hlines⟩⟩
end Go.Proofs.Ytjfnbgjnmjdeeaa

namespace Go.Proofs.Ytjfnbgjnmjdeeaa
open Go.RowKit Go.Shelf Go.Sort

set_option maxRecDepth 100000 in
set_option maxHeartbeats 3200000 in
theorem refSameInts_any {w : World} {u v : Value} {a b : List Int} (hu : Nums w u a) (hv : Nums w v b) (ha : a.length ≤ 100000) (hb : b.length ≤ 100000) :
    Calls Try.prog 4 #[u, v] w fun e w' => e = .returned (.bool (decide (a = b))) ∧ Below w.heap.size w w' := by
  obtain ⟨ua, uc, rfl, hu⟩ := hu
  obtain ⟨va, vc, rfl, hv⟩ := hv
  obtain ⟨n, hn⟩ : ∃ n, a.length = n := ⟨_, rfl⟩
  obtain ⟨m, hm⟩ : ∃ m, b.length = m := ⟨_, rfl⟩
  rw [hn] at hu ha ⊢
  rw [hm] at hv hb ⊢
  have HU := hid hu
  have HV := hid hv
  have HN := hid (And.intro hn hm)
  clear hu hv hn hm
  by_cases hnm : n = m
  · subst hnm
    go_enter Try.func4, Try.ntmps4
    go_wp2
    go_loopw [5] (fun iv wr => ∃ i : Nat, i ≤ n ∧ iv = .int .i64 (i : Int) ∧ (∀ j, j < i → a[j]? = b[j]?) ∧ Below w.heap.size w wr) (fun iv _ => n - (intOf iv).toNat)
    case atStart => exact ⟨0, Nat.zero_le _, rfl, fun j hj => by omega, Below.refl _ _⟩
    case round =>
      obtain ⟨i, hi, rfl, hsame, hbr⟩ := hrel
      by_cases hlt : i < n
      · have hltI : (i : Int) < (n : Int) := by omega
        obtain ⟨x, hx⟩ : ∃ x, a[i]? = some x := ⟨_, List.getElem?_eq_getElem (by have := HN.out.1; omega)⟩
        obtain ⟨y, hy⟩ : ∃ y, b[i]? = some y := ⟨_, List.getElem?_eq_getElem (by have := HN.out.2; omega)⟩
        obtain ⟨g, o, hga, hgc⟩ := HU.out (by omega)
        obtain ⟨g', o', hga', hgc'⟩ := HV.out (by omega)
        subst hga hga'
        have x0 := cell_below (hgc i x hx) hbr (lt_of_cell (hgc i x hx))
        have y0 := cell_below (hgc' i y hy) hbr (lt_of_cell (hgc' i y hy))
        have kx := cell_regrown x0
        have ky := cell_regrown y0
        have HS := hid hsame
        have HXY := hid (And.intro hx hy)
        have HB := hid hbr
        clear hsame hx hy hbr hgc hgc' x0 y0 HU HV
        cases hxy : (x == y) with
        | true =>
          have exy : x = y := by simpa using hxy
          subst exy
          go_wp2
          refine wp_region_quiet_below (by kernel_rfl) (by kernel_rfl) ?_
          go_big_quiet_step (fail)
          go_big_quiet_step (fail)
          go_big_quiet_step (fail)
          go_big_quiet_step (fail)
          go_big_quiet_step (fail)
          go_big_quiet_step (fail)
          go_big_quiet_step (fail)
          go_big_quiet_step (fail)
          go_big_quiet_step (fail)
          refine wpQuiet_nil ?_
          intro W hW'
          obtain ⟨⟨dq, osq⟩, hW⟩ := hW'
          have HBW := hid (HB.out.trans ((show Below wr.heap.size wr W by rw [hW]; exact below_regrown _ _ _).mono HB.out.size))
          clear hW kx ky
          go_wp2
          go_roundw
          case rel =>
            refine ⟨i + 1, by omega, by go_num, fun j hj => ?_, HBW.out⟩
            by_cases h : j < i
            · exact HS.out j h
            · obtain rfl : j = i := by omega
              rw [HXY.out.1, HXY.out.2]
          case measure => simp [intOf]; omega
        | false =>
          go_wp2
          refine wp_region_quiet_below (by kernel_rfl) (by kernel_rfl) ?_
          go_big_quiet_step (fail)
          go_big_quiet_step (fail)
          go_big_quiet_step (fail)
          go_big_quiet_step (fail)
          go_big_quiet_step (fail)
          go_big_quiet_step (fail)
          go_big_quiet_step (fail)
          go_big_quiet_step (fail)
          go_big_quiet_step (fail)
          refine wpQuiet_nil ?_
          intro W hW'
          obtain ⟨⟨dq, osq⟩, hW⟩ := hW'
          have HBW := hid (HB.out.trans ((show Below wr.heap.size wr W by rw [hW]; exact below_regrown _ _ _).mono HB.out.size))
          clear hW kx ky
          go_wp2
          go_ret
          have hne : a ≠ b := fun e => by
            have q := HXY.out
            rw [e, q.2] at q
            have q1 := q.1
            injection q1 with q1
            rw [q1] at hxy
            simp at hxy
          exact ⟨by rw [decide_eq_false hne]; rfl, HBW.out⟩
      · have hltI : ¬ (i : Int) < (n : Int) := by omega
        have hab : a = b := List.ext_getElem? fun j => by
          by_cases h : j < n
          · exact hsame j (by omega)
          · rw [List.getElem?_eq_none (by have := HN.out.1; omega), List.getElem?_eq_none (by have := HN.out.2; omega)]
        have HAB := hid hab
        have HB := hid hbr
        clear hsame hab hbr HU HV
        go_wp2
        go_ret
        exact ⟨by rw [decide_eq_true HAB.out]; rfl, HB.out⟩
  · have hne : a ≠ b := fun e => hnm (by rw [← HN.out.1, ← HN.out.2, e])
    have hnI : ¬ (n : Int) = (m : Int) := by omega
    have hnB : ((n : Int) == (m : Int)) = false := by simpa using hnI
    have HNE := hid hne
    clear hne HU HV
    go_enter Try.func4, Try.ntmps4
    go_wp2
    go_ret
    exact ⟨by rw [decide_eq_false HNE.out]; rfl, Below.refl _ _⟩
end Go.Proofs.Ytjfnbgjnmjdeeaa

namespace Go.Proofs.Ytjfnbgjnmjdeeaa
open Go.RowKit Go.Shelf Go.Sort

/-- The cells of the sixteen directions. -/
def cells16 : List Value := ptCells dirs16

/-- An append whose run is known, at a step of a region that draws its order. -/
theorem stepAppend {P : Program} {ops : Array Oper} {o : Oper} {a : Act} {ts : Array Value} {w w' : World} {K : Act → World → Prop} {Q : Exit → Act → World → Prop} {E : Prop} (hg : o.guard = none) (s x : Operand) (t : TypeId) (hop : o.op = Op.call { callee := Callee.builtin Builtin.append, args := #[s, x], argTypes := #[t, t] }) {v u v' : Value} (hs : a.eval s = v) (hx : a.eval x = u)
    (hrun : (Builtin.append_ #[t, t] o.type #[v, u]).run P w = .ok v' w') (hK : K (a.put o.dst v') w') : if Region.wanted o (yielded ops ts) = true then Oper.wp P o a w K Q else E := by
  have hw : Region.wanted o (yielded ops ts) = true := by simp [Region.wanted, hg]
  rw [if_pos hw]
  unfold Oper.wp
  rw [show (execOp a.eval o).run P w = .ok (.value v') w' by simp [execOp, hop, resolve, invoke, builtin, hs, hx, hrun, Result.andThen]]
  exact hK
/-- All ways through a piece of code end alike. -/
theorem wp_one {P : Program} {c : Code} {Q : Exit → Act → World → Prop} {a : Act} {w : World} (V : World) (A : Act) (h1 : c.wp P (fun e a' V' => e = .normal ∧ a' = A ∧ V' = V) a w) (h2 : Q .normal A V) : c.wp P Q a w :=
  Code.wp_mono (fun e a' V' ⟨he, ha, hV⟩ => by rw [he, ha, hV]; exact h2) h1
theorem cells16_at {W : World} {B : Nat} (h : W.heap[B]? = some (.cells cells16.toArray 23 (0, 0))) {i : Nat} (hi : i < 16) : W.cell? ⟨B, i * 2, none⟩ = some (.int .i64 (dirAt i).1) ∧ W.cell? ⟨B, i * 2 + 1, none⟩ = some (.int .i64 (dirAt i).2) := by
  have hd : dirs16[i]? = some (dirAt i) := by
    unfold dirAt
    rw [List.getD_eq_getElem?_getD, List.getElem?_eq_getElem (show i < dirs16.length from hi)]
    rfl
  obtain ⟨c0, c1⟩ := ptCells_at _ i _ hd
  simp only [World.cell?, h, Option.isSome_none, Bool.false_eq_true, if_false, List.getElem?_toArray]
  exact ⟨c0, c1⟩

set_option maxRecDepth 100000 in
theorem PlB.keep {w W W' : World} {Bp : Nat} {nv ev : Value} {nn : Nat} {xs : List ER} {ls : List (List Pp)} (h : PlB w Bp nv ev nn xs ls W) (hk : ∀ (k : Nat) (c : Array Value) (t : TypeId), W.heap[k]? = some (.cells c t (0, 0)) → t ≠ 3 → W'.heap[k]? = some (.cells c t (0, 0))) (hb : Below w.heap.size w W') : PlB w Bp nv ev nn xs ls W' := by
  obtain ⟨cs, hc⟩ := h.nodes
  refine ⟨hk _ _ _ h.box (by decide), ⟨cs, own_keep hc fun k c hk' => (hk k c _ hk' (by decide)).trans hk'.symm⟩, own_keep h.edges fun k c hk' => (hk k c _ hk' (by decide)).trans hk'.symm, fun k x hx => ?_, h.len, h.enil, hb⟩
  obtain ⟨g, l1, l2, l3, l4⟩ := h.lines k x hx
  exact ⟨g, l1, l2, l3, hk _ _ _ l4 (by decide)⟩
set_option maxRecDepth 100000 in
/-- An edge more, then a number more in the row of ways. -/
theorem PlB.edgeAndId {w W : World} {Bp : Nat} {nv ev : Value} {nn : Nat} {xs : List ER} {ls : List (List Pp)} (h : PlB w Bp nv ev nn xs ls W) (hw : w.heap.size ≤ Bp) (hl : xs.length ≤ 1000) (x : ER) (l : List Pp) {g : Nat} (x1 : x.lo = some ⟨g, 0, none⟩) (x2 : x.ll = l.length) (x3 : x.lc = x.ll) (x4 : W.heap[g]? = some (.cells (ptCells l).toArray 23 (0, 0)))
    {idv : Value} {zs : List Int} (hz : NRow W w.heap.size idv zs) (hzl : zs.length ≤ 1000) (z : Int) {Ba : Nat} (hall : W.heap[Ba]? = some (.cells cells16.toArray 23 (0, 0))) :
    ∃ eo ec ao cap W4 ia ic W6, ev = .slice eo xs.length ec ∧ (Builtin.append_ #[28, 28] 28 #[ev, .slice (some ⟨W.heap.size, 0, none⟩) 1 1]).run Try.prog (W.alloc (.cells #[.int .i64 x.id, .int .i64 x.st, .int .i64 x.en, .slice x.lo x.ll x.lc, .int .i64 x.lf, .int .i64 x.rt] 33)) = .ok (.slice ao (xs.length + 1) cap) W4 ∧
      W.cell? ⟨Bp, 1, none⟩ = some ev ∧ W4.cell? ⟨Bp, 1, none⟩ = some ev ∧ W4.frozen? ⟨Bp, 1, none⟩ = false ∧
      (Builtin.append_ #[31, 31] 31 #[idv, .slice (some ⟨(W4.setCell ⟨Bp, 1, none⟩ (.slice ao (xs.length + 1) cap)).heap.size, 0, none⟩) 1 1]).run Try.prog ((W4.setCell ⟨Bp, 1, none⟩ (.slice ao (xs.length + 1) cap)).alloc (.cells #[.int .i64 z] 3)) = .ok (.slice ia (zs.length + 1) ic) W6 ∧
      NRow W6 w.heap.size (.slice ia (zs.length + 1) ic) (zs ++ [z]) ∧ PlB w Bp nv (.slice ao (xs.length + 1) cap) nn (xs ++ [x]) (ls ++ [l]) W6 ∧ W6.heap[Ba]? = some (.cells cells16.toArray 23 (0, 0)) := by
  obtain ⟨eo, ec, hev⟩ := own_form h.edges
  obtain ⟨ao, cap, W4, hrun, hbx, hP, hk⟩ := h.addEdge hw (by omega) x l x1 x2 x3 x4
  have hz5 : NRow (W4.setCell ⟨Bp, 1, none⟩ (.slice ao (xs.length + 1) cap)) w.heap.size idv zs := own_keep hz fun k c hk' => (hk k c _ hk' (by decide) (by decide)).trans hk'.symm
  obtain ⟨ia, ic, W6, hrun2, hrow6, hb6, hgr6⟩ := NRow.snoc hz5 hP.below.size (by omega) z
  have hown : ∀ g, idv.ownBlock = some g → ∃ c, (W4.setCell ⟨Bp, 1, none⟩ (.slice ao (xs.length + 1) cap)).heap[g]? = some (.cells c 3 (0, 0)) := fun g hg => (own_block hz5 g hg).2
  have hk6 : ∀ (k : Nat) (c : Array Value) (t : TypeId), (W4.setCell ⟨Bp, 1, none⟩ (.slice ao (xs.length + 1) cap)).heap[k]? = some (.cells c t (0, 0)) → t ≠ 3 → W6.heap[k]? = some (.cells c t (0, 0)) := fun k c t hk' ht => by
    refine (hgr6.keep k (lt_of_heap hk') (fun e => ?_)).trans hk'
    obtain ⟨c', hc'⟩ := hown k e
    rw [hk'] at hc'
    injection hc' with hc'
    injection hc' with _ e2 _
    exact ht e2
  have hb4 := hbx.trans h.box
  refine ⟨eo, ec, ao, cap, W4, ia, ic, W6, hev, hrun, ?_, ?_, ?_, hrun2, hrow6, hP.keep hk6 (hP.below.trans hb6), hk6 _ _ _ (hk _ _ _ hall (by decide) (by decide)) (by decide)⟩
  · have := h.box
    simp [World.cell?, this]
  · simp [World.cell?, hb4]
  · simp [World.frozen?, hb4]

/-- The world in which PlanStars' loop begins. -/
theorem star_start (w : World) (C : Array Value) : PlB w (w.heap.size + 2) (.slice (some ⟨w.heap.size + 1, 0, none⟩) 1 1) (.slice none 0 0) 1 [] [] (((w.alloc (.cells C 23)).alloc (.cells #[.int .i64 1, .int .i64 0, .int .i64 0, .int .i64 (-1)] 26)).alloc (.cells #[.slice (some ⟨w.heap.size + 1, 0, none⟩) 1 1, .slice none 0 0] 30)) ∧
    (((w.alloc (.cells C 23)).alloc (.cells #[.int .i64 1, .int .i64 0, .int .i64 0, .int .i64 (-1)] 26)).alloc (.cells #[.slice (some ⟨w.heap.size + 1, 0, none⟩) 1 1, .slice none 0 0] 30)).heap[w.heap.size]? = some (.cells C 23 (0, 0)) := by
  obtain ⟨wA, hwA⟩ : ∃ wA, w.alloc (.cells C 23) = wA := ⟨_, rfl⟩
  obtain ⟨wB, hwB⟩ : ∃ wB, wA.alloc (.cells #[.int .i64 1, .int .i64 0, .int .i64 0, .int .i64 (-1)] 26) = wB := ⟨_, rfl⟩
  obtain ⟨wC, hwC⟩ : ∃ wC, wB.alloc (.cells #[.slice (some ⟨w.heap.size + 1, 0, none⟩) 1 1, .slice none 0 0] 30) = wC := ⟨_, rfl⟩
  have sA : wA.heap.size = w.heap.size + 1 := by rw [← hwA]; simp
  have sB : wB.heap.size = w.heap.size + 2 := by rw [← hwB]; simp [sA]
  have hbA : Below w.heap.size w wA := by rw [← hwA]; exact (Below.refl _ w).alloc (Nat.le_refl _) _
  have hbB : Below wA.heap.size wA wB := by rw [← hwB]; exact (Below.refl _ wA).alloc (Nat.le_refl _) _
  have hbC : Below wB.heap.size wB wC := by rw [← hwC]; exact (Below.refl _ wB).alloc (Nat.le_refl _) _
  have h1 : wA.heap[w.heap.size]? = some (.cells C 23 (0, 0)) := by rw [← hwA]; exact World.alloc_heap_new w _
  have h2 : wB.heap[w.heap.size + 1]? = some (.cells #[.int .i64 1, .int .i64 0, .int .i64 0, .int .i64 (-1)] 26 (0, 0)) := by rw [← hwB, ← sA]; exact World.alloc_heap_new wA _
  have h3 : wC.heap[w.heap.size + 2]? = some (.cells #[.slice (some ⟨w.heap.size + 1, 0, none⟩) 1 1, .slice none 0 0] 30 (0, 0)) := by rw [← hwC, ← sB]; exact World.alloc_heap_new wB _
  rw [hwA, hwB, hwC]
  refine ⟨⟨h3, ⟨[.int .i64 1, .int .i64 0, .int .i64 0, .int .i64 (-1)], rfl, .inr ⟨w.heap.size + 1, 1, _, rfl, by omega, (hbC.block _ (by omega)).trans h2, Nat.le_refl _, by unfold maxLen; omega, rfl, rfl⟩⟩, World.ownsRow_nil wC w.heap.size 33 6, fun k x hx => (by cases hx), rfl, fun _ => rfl, (hbA.trans (hbB.mono (by omega))).trans (hbC.mono (by omega))⟩, (hbC.block _ (by omega)).trans ((hbB.block _ (by omega)).trans h1)⟩
end Go.Proofs.Ytjfnbgjnmjdeeaa

namespace Go.Proofs.Ytjfnbgjnmjdeeaa
open Go.RowKit Go.Shelf Go.Sort

/-- The square's edges: number, start, end; their lines; their points. -/
def sqC : List (Int × Int × Int) := [(1, 1, 2), (2, 2, 3), (3, 3, 4), (4, 4, 1)]
def sqL : List (List Pp) := [[(0, 0), (4, 0)], [(4, 0), (4, 4)], [(4, 4), (0, 4)], [(0, 4), (0, 0)]]
def sqP : List Pp := [(0, 0), (4, 0), (4, 4), (0, 4)]
def erK (x : ER) : Int × Int × Int := (x.id, x.st, x.en)
/-- Amid the loop that makes it. -/
structure SqI (w : World) (Bp Bc i : Nat) (nv ev : Value) (xs : List ER) (W : World) : Prop where
  plan : PlB w Bp nv ev i xs (sqL.take i) W
  keys : xs.map erK = sqC.take i
  pts : W.heap[Bc]? = some (.cells (ptCells sqP).toArray 23 (0, 0))
theorem SqI.len {w : World} {Bp Bc i : Nat} {nv ev : Value} {xs : List ER} {W : World} (h : SqI w Bp Bc i nv ev xs W) (hi : i ≤ 4) : xs.length = i := by
  have := congrArg List.length h.keys
  rw [List.length_map, List.length_take] at this
  simp [sqC] at this
  omega
theorem sq_four {xs : List ER} (h : xs.map erK = sqC) : ∃ a b c d : ER, xs = [a, b, c, d] ∧ erK a = (1, 1, 2) ∧ erK b = (2, 2, 3) ∧ erK c = (3, 3, 4) ∧ erK d = (4, 4, 1) := by
  match xs, h with
  | [a, b, c, d], h =>
    simp only [List.map_cons, List.map_nil, sqC, List.cons.injEq, and_true] at h
    exact ⟨a, b, c, d, rfl, h.1, h.2.1, h.2.2.1, h.2.2.2⟩
  | [], h => simp [sqC] at h
  | [_], h => simp [sqC] at h
  | [_, _], h => simp [sqC] at h
  | [_, _, _], h => simp [sqC] at h
  | _ :: _ :: _ :: _ :: _ :: _, h => simp [sqC] at h
/-- How its ways begin. -/
def sqD : List LdT := [(1, 1, (4, 0)), (-1, 2, (-4, 0)), (2, 2, (0, 4)), (-2, 3, (0, -4)), (3, 3, (-4, 0)), (-3, 4, (4, 0)), (4, 4, (0, -4)), (-4, 1, (0, 4))]
theorem sq_heads : hdD [(0, 0), (4, 0)] = (4, 0) ∧ hdD [(4, 0), (0, 0)] = (-4, 0) ∧ hdD [(4, 0), (4, 4)] = (0, 4) ∧ hdD [(4, 4), (4, 0)] = (0, -4) ∧ hdD [(4, 4), (0, 4)] = (-4, 0) ∧ hdD [(0, 4), (4, 4)] = (4, 0) ∧ hdD [(0, 4), (0, 0)] = (0, -4) ∧ hdD [(0, 0), (0, 4)] = (0, 4) := by decide
theorem sq_leads {xs : List ER} (h : xs.map erK = sqC) : allLd xs sqL = sqD := by
  obtain ⟨a, b, c, d, rfl, ha, hb, hc, hd⟩ := sq_four h
  simp only [erK, Prod.mk.injEq] at ha hb hc hd
  obtain ⟨h1, h2, h3, h4, h5, h6, h7, h8⟩ := sq_heads
  unfold sqL sqD
  rw [allLd_cons, allLd_cons, allLd_cons, allLd_cons, allLd_nil]
  simp [ha, hb, hc, hd, h1, h2, h3, h4, h5, h6, h7, h8]
theorem nxt_of {ys : List LdT} {l : LdT} {G : List LdT} {k a : Int} (hf : (ys.find? fun l => l.1 == -k) = some l) (hG : ordL (grp ys l.2.1) = G) (ha : aheadL G (G.idxOf l) = a) : nxtF ys k = some a := by
  unfold nxtF
  rw [hf, Option.map_some, hG, ha]
theorem sq_ord : ordL (grp sqD 1) = [(1, 1, (4, 0)), (-4, 1, (0, 4))] ∧ ordL (grp sqD 2) = [(2, 2, (0, 4)), (-1, 2, (-4, 0))] ∧ ordL (grp sqD 3) = [(3, 3, (-4, 0)), (-2, 3, (0, -4))] ∧ ordL (grp sqD 4) = [(-3, 4, (4, 0)), (4, 4, (0, -4))] := by
  refine ⟨ordL_eq ?_ ?_ ?_, ordL_eq ?_ ?_ ?_, ordL_eq ?_ ?_ ?_, ordL_eq ?_ ?_ ?_⟩
  all_goals first
    | (show List.Perm _ (List.filter _ _); decide)
    | (simp only [List.pairwise_cons, List.mem_cons, List.not_mem_nil, or_false, forall_eq, befL, List.Pairwise.nil, and_true, false_implies, implies_true]; decide)
    | decide
theorem sq_nxt : nxtF sqD 1 = some 2 ∧ nxtF sqD 2 = some 3 ∧ nxtF sqD 3 = some 4 ∧ nxtF sqD 4 = some 1 ∧ nxtF sqD (-1) = some (-4) ∧ nxtF sqD (-4) = some (-3) ∧ nxtF sqD (-3) = some (-2) ∧ nxtF sqD (-2) = some (-1) := by
  obtain ⟨o1, o2, o3, o4⟩ := sq_ord
  refine ⟨nxt_of rfl o2 ?_, nxt_of rfl o3 ?_, nxt_of rfl o4 ?_, nxt_of rfl o1 ?_, nxt_of rfl o1 ?_, nxt_of rfl o4 ?_, nxt_of rfl o3 ?_, nxt_of rfl o2 ?_⟩ <;> decide
theorem rs_new {m : Nat} {f : Int → Option Int} {R : List (List Int)} {k : Int} {r : List Int} (h : walkF f m k [] = r) (hr : r ≠ []) (ks : List Int) : (k :: ks).foldl (fun s k => if walkF s.2 m k [] = [] then s else (s.1 ++ [walkF s.2 m k []], delF s.2 (walkF s.2 m k []))) (R, f) = ks.foldl (fun s k => if walkF s.2 m k [] = [] then s else (s.1 ++ [walkF s.2 m k []], delF s.2 (walkF s.2 m k []))) (R ++ [r], delF f r) := by
  rw [List.foldl_cons, h, if_neg hr]
theorem rs_old {m : Nat} {f : Int → Option Int} {R : List (List Int)} {k : Int} (h : f k = none) (ks : List Int) : (k :: ks).foldl (fun s k => if walkF s.2 m k [] = [] then s else (s.1 ++ [walkF s.2 m k []], delF s.2 (walkF s.2 m k []))) (R, f) = ks.foldl (fun s k => if walkF s.2 m k [] = [] then s else (s.1 ++ [walkF s.2 m k []], delF s.2 (walkF s.2 m k []))) (R, f) := by
  rw [List.foldl_cons, if_pos (walkF_none h _ _)]
theorem sq_rings {xs : List ER} (h : xs.map erK = sqC) : ringsL xs sqL = [[1, 2, 3, 4], [-1, -4, -3, -2]] := by
  obtain ⟨n1, n2, n3, n4, m1, m4, m3, m2⟩ := sq_nxt
  have hl : xs.length = 4 := by have := congrArg List.length h; simpa [sqC] using this
  unfold ringsL waysL
  rw [hl, sq_leads h]
  generalize nxtF sqD = f at n1 n2 n3 n4 m1 m2 m3 m4 ⊢
  have w1 : walkF f 9 1 [] = [1, 2, 3, 4] := by simp [walkF, n1, n2, n3, n4]
  have w2 : walkF (delF f [1, 2, 3, 4]) 9 (-1) [] = [-1, -4, -3, -2] := by simp [walkF, delF, m1, m2, m3, m4]
  have hz : ∀ k, k ∈ [1, 2, 3, 4] ∨ k ∈ [-1, -4, -3, -2] → (delF (delF f [1, 2, 3, 4]) [-1, -4, -3, -2]) k = none := fun k hk => by
    unfold delF
    by_cases h2 : k ∈ [-1, -4, -3, -2]
    · rw [if_pos h2]
    · rw [if_neg h2, if_pos (hk.resolve_right h2)]
  unfold ringsS
  rw [show sqD.map (·.1) = [1, -1, 2, -2, 3, -3, 4, -4] from rfl, show 2 * 4 + 1 = 9 from rfl, rs_new w1 (by simp), rs_new w2 (by simp), rs_old (hz 2 (by decide)), rs_old (hz (-2) (by decide)), rs_old (hz 3 (by decide)), rs_old (hz (-3) (by decide)), rs_old (hz 4 (by decide)), rs_old (hz (-4) (by decide))]
  rfl
theorem sq_deg {xs : List ER} (h : xs.map erK = sqC) : (grp (allLd xs sqL) 1).length = 2 := by
  rw [sq_leads h]
  rfl
end Go.Proofs.Ytjfnbgjnmjdeeaa
