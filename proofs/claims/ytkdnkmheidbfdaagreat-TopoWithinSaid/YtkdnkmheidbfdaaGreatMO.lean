/-
  Sums over the first n numbers: round about, the other way round, in parts.
-/
import Derived.Test.YtkdnkmheidbfdaaGreatM9
import Derived.Test.YtkdnkmheidbfdaaGreatMB
import Derived.Test.YtkdnkmheidbfdaaGreatMC
namespace Go.Proofs.YtkdnkmheidbfdaaGreat

def sN : Nat → (Nat → Int) → Int
  | 0, _ => 0
  | n + 1, g => sN n g + g n
end Go.Proofs.YtkdnkmheidbfdaaGreat

namespace Go.Proofs.YtkdnkmheidbfdaaGreat

def crossI (a b : Pp) : Int := a.1 * b.2 - b.1 * a.2
/-- Twice the area of the first n of the points q, the last joined to the first. -/
def areaR (n : Nat) (q : Nat → Pp) : Int := sN n fun i => crossI (q i) (q ((i + 1) % n))
end Go.Proofs.YtkdnkmheidbfdaaGreat

namespace Go.Proofs.YtkdnkmheidbfdaaGreat
open Go.RowKit Go.Sort

/-- Two frames agree where S says. -/
structure Agree (S : Tmp → Prop) (a b : Act) : Prop where
  defers : a.defers = b.defers
  size : a.tmps.size = b.tmps.size
  at_ : ∀ t, S t → a.tmps[t]? = b.tmps[t]?

theorem put_size (a : Act) (d : Option Tmp) (v : Value) : (a.put d v).tmps.size = a.tmps.size := by cases d <;> simp [Act.put]
theorem put_defers' (a : Act) (d : Option Tmp) (v : Value) : (a.put d v).defers = a.defers := by cases d <;> rfl
theorem put_ne (a : Act) {d : Option Tmp} {t : Tmp} (v : Value) (h : d ≠ some t) : (a.put d v).tmps[t]? = a.tmps[t]? := by
  cases d with
  | none => rfl
  | some e =>
    have hne : e ≠ t := fun he => h (he ▸ rfl)
    simp [Act.put, Array.getElem?_setIfInBounds_ne hne]
theorem put_same (a : Act) {t : Tmp} (v : Value) (h : t < a.tmps.size) : (a.put (some t) v).tmps[t]? = some v := by
  simp [Act.put, h]

theorem lt_of_heap' {w : World} {b : Nat} {o : Obj} (h : w.heap[b]? = some o) : b < w.heap.size := (Array.getElem?_eq_some_iff.1 h).1

section
variable {P : Program} {ops : Array Oper} {C : World → Prop}

theorem agree_same {S : Tmp → Prop} {a b : Act} (o : Oper) (hs : ∀ cs b, o.op ≠ .select cs b) (hl : ∀ t ∈ o.looksAt ops, S t) (h : Agree S a b) :
    execOp a.eval o = execOp b.eval o ∧ Region.wanted o (yielded ops a.tmps) = Region.wanted o (yielded ops b.tmps) := by
  constructor
  · refine execOp_congr o hs fun x hx => ?_
    cases x with
    | tmp t =>
      have ht : t ∈ o.looksAt ops := List.mem_append_left _ (List.mem_filterMap.2 ⟨.tmp t, by simpa using hx, rfl⟩)
      have := h.at_ t (hl t ht)
      simp only [Act.eval, Array.getD_eq_getD_getElem?, this]
    | _ => rfl
  · unfold Region.wanted
    cases hg : o.guard with
    | none => rfl
    | some gw =>
      obtain ⟨g, want⟩ := gw
      have hy : yielded ops a.tmps g = yielded ops b.tmps g := by
        unfold yielded
        cases ht : (ops[g]?).bind (·.dst) with
        | none => rfl
        | some t =>
          have := h.at_ t (hl t (by simp [Oper.looksAt, hg, ht]))
          simp only [Option.bind_some, this]
      simp only [hy]

/-- In the text's order: an operation looks at nothing that it or a later one writes; no two write the same. -/
def tidyB (ops : Array Oper) : List Oper → Bool
  | [] => true
  | o :: l => (o :: l).all (fun p => match p.dst with | some d => !(o.looksAt ops).contains d | none => true) && l.all (fun p => match o.dst with | some d => p.dst != some d | none => true) && tidyB ops l

theorem tidy_cons {o : Oper} {l : List Oper} (h : tidyB ops (o :: l) = true) : (∀ p ∈ o :: l, ∀ d, p.dst = some d → d ∉ o.looksAt ops) ∧ (∀ p ∈ l, ∀ d, o.dst = some d → p.dst ≠ some d) ∧ tidyB ops l = true := by
  simp only [tidyB, Bool.and_eq_true] at h
  refine ⟨fun p hp d hd hx => ?_, fun p hp d hd hx => ?_, h.2⟩
  · have h1 := List.all_eq_true.1 h.1.1 p hp
    simp [hd] at h1
    exact h1 hx
  · have h1 := List.all_eq_true.1 h.1.2 p hp
    simp [hd] at h1
    exact h1 hx

theorem quiet_final {aq : Act} : ∀ (l : List Oper) (a : Act), (∀ o ∈ l, ∀ cs b, o.op ≠ .select cs b) → tidyB ops l = true → wpQuiet P ops C (· = aq) l a →
    (∀ o ∈ l, ∃ v, YieldsIn P ops C o v aq ∧ ∀ d, o.dst = some d → d < aq.tmps.size → aq.tmps[d]? = some v) ∧ Agree (fun t => ∀ o ∈ l, o.dst ≠ some t) a aq
  | [], a, _, _, h => ⟨fun o ho => (by cases ho), (by have : a = aq := h; subst this; exact ⟨rfl, rfl, fun _ _ => rfl⟩)⟩
  | o :: l, a, hs, ht, h => by
    obtain ⟨t1, t2, t3⟩ := tidy_cons ht
    obtain ⟨v, hy, hk⟩ : ∃ v, YieldsIn P ops C o v a ∧ wpQuiet P ops C (· = aq) l (a.put o.dst v) := by
      by_cases hw : Region.wanted o (yielded ops a.tmps) = true
      · simp only [wpQuiet, hw, if_true] at h
        obtain ⟨v, h1, h2⟩ := h
        exact ⟨v, .inl ⟨hw, h1⟩, h2⟩
      · simp only [wpQuiet, hw] at h
        exact ⟨undef, .inr ⟨by simpa using hw, rfl⟩, h⟩
    obtain ⟨i1, i2⟩ := quiet_final l (a.put o.dst v) (fun p hp => hs p (List.mem_cons_of_mem _ hp)) t3 hk
    have hag : Agree (fun t => ∀ p ∈ o :: l, p.dst ≠ some t) a aq := by
      refine ⟨(put_defers' a o.dst v).symm.trans i2.defers, (put_size a o.dst v).symm.trans i2.size, fun t h' => ?_⟩
      rw [← i2.at_ t (fun p hp => h' p (List.mem_cons_of_mem _ hp)), put_ne a v (h' o (List.mem_cons_self ..))]
    refine ⟨fun p hp => ?_, hag⟩
    rcases List.mem_cons.1 hp with rfl | hp
    · refine ⟨v, ?_, fun d hd hlt => ?_⟩
      · obtain ⟨e1, e2⟩ := agree_same (ops := ops) p (hs p (List.mem_cons_self ..)) (S := fun t => ∀ p' ∈ p :: l, p'.dst ≠ some t) (fun t ht' p' hp' hd => t1 p' hp' t hd ht') hag
        exact hy.of_same e1.symm e2.symm
      · rw [← i2.at_ d (fun p' hp' => t2 p' hp' d hd), hd]
        exact put_same a v (by rw [hag.size]; exact hlt)
    · exact i1 p hp
end

/-- New blocks, one behind the other, in their slots. -/
def puts : List Oper → List Nat → Act → Act
  | o :: l, b :: bs, a => puts l bs (a.put o.dst (.pointer (some ⟨b, 0, none⟩)))
  | _, _, a => a

theorem puts_size : ∀ (l : List Oper) (bs : List Nat) (a : Act), (puts l bs a).tmps.size = a.tmps.size
  | [], _, _ => rfl
  | _ :: _, [], _ => rfl
  | o :: l, b :: bs, a => by rw [puts, puts_size l bs, put_size]
theorem puts_defers : ∀ (l : List Oper) (bs : List Nat) (a : Act), (puts l bs a).defers = a.defers
  | [], _, _ => rfl
  | _ :: _, [], _ => rfl
  | o :: l, b :: bs, a => by rw [puts, puts_defers l bs, put_defers']
theorem puts_ne {t : Tmp} : ∀ (l : List Oper) (bs : List Nat) (a : Act), (∀ o ∈ l, o.dst ≠ some t) → (puts l bs a).tmps[t]? = a.tmps[t]?
  | [], _, _, _ => rfl
  | _ :: _, [], _, _ => rfl
  | o :: l, b :: bs, a, h => by rw [puts, puts_ne l bs _ (fun p hp => h p (List.mem_cons_of_mem _ hp)), put_ne a _ (h o (List.mem_cons_self ..))]
theorem puts_at {t : Tmp} : ∀ (l : List Oper) (bs : List Nat) (a : Act) (k : Nat) (o : Oper) (b : Nat), (∀ (i j : Nat) (oi oj : Oper), i ≠ j → l[i]? = some oi → l[j]? = some oj → oi.dst = some t → oj.dst ≠ some t) → l[k]? = some o → bs[k]? = some b → o.dst = some t → t < a.tmps.size →
    (puts l bs a).tmps[t]? = some (.pointer (some ⟨b, 0, none⟩))
  | [], _, _, _, _, _, _, h, _, _, _ => by simp at h
  | _ :: _, [], _, _, _, _, _, _, h, _, _ => by simp at h
  | p :: l, c :: bs, a, 0, o, b, hd, h1, h2, h3, h4 => by
    simp at h1 h2
    subst h1 h2
    have hne : ∀ q ∈ l, q.dst ≠ some t := fun q hq => by
      obtain ⟨j, hj⟩ := List.getElem?_of_mem hq
      exact hd 0 (j + 1) p q (by omega) rfl (by simpa using hj) h3
    rw [puts, puts_ne l bs _ hne, h3, put_same a _ h4]
  | p :: l, c :: bs, a, k + 1, o, b, hd, h1, h2, h3, h4 => by
    rw [puts]
    exact puts_at l bs _ k o b (fun i j oi oj hij hi hj => hd (i + 1) (j + 1) oi oj (by omega) (by simpa using hi) (by simpa using hj)) (by simpa using h1) (by simpa using h2) h3 (by rw [put_size]; exact h4)

/-- All that is asked of the head: q quiet operations, then blocks up to n. -/
def freeB (L : List Oper) (q n : Nat) : Bool :=
  decide (q ≤ n) && decide (n ≤ L.length) && headB .any L n && tidyB (L.take n).toArray (L.take q) && Region.noSelect (L.take n).toArray &&
  (List.range n).all fun i => (List.range n).all fun k => match L[i]?, L[k]? with
    | some oi, some ok => (decide (i = k) || (match ok.dst with | some d => oi.dst != some d && (decide (q ≤ i) || !(oi.looksAt (L.take n).toArray).contains d || (decide (k < q) && oi.after.any (fun e => Region.binds .any e && decide (e.on = k)))) | none => true))
    | _, _ => false

theorem free_pair {L : List Oper} {q n i k : Nat} {oi ok : Oper} (h : freeB L q n = true) (hi : i < n) (hk : k < n) (hoi : L[i]? = some oi) (hok : L[k]? = some ok) (hne : i ≠ k) {d : Tmp} (hd : ok.dst = some d) :
    oi.dst ≠ some d ∧ (i < q → d ∈ oi.looksAt (L.take n).toArray → k < q ∧ ∃ e ∈ oi.after, Region.binds .any e = true ∧ e.on = k) := by
  simp only [freeB, Bool.and_eq_true] at h
  have h1 := List.all_eq_true.1 (List.all_eq_true.1 h.2 i (List.mem_range.2 hi)) k (List.mem_range.2 hk)
  simp only [hoi, hok, hd, decide_eq_false hne, Bool.false_or, Bool.and_eq_true, Bool.or_eq_true] at h1
  refine ⟨by simpa using h1.1, fun hq hm => ?_⟩
  rcases h1.2 with (h2 | h2) | h2
  · exact absurd (of_decide_eq_true h2) (by omega)
  · simp [hm] at h2
  · refine ⟨of_decide_eq_true h2.1, ?_⟩
    obtain ⟨e, he, h3⟩ := Array.any_eq_true'.1 h2.2
    simp only [Bool.and_eq_true, decide_eq_true_eq] at h3
    exact ⟨e, he, h3⟩

/-- Where the run stands: what has come up, the blocks that were laid. -/
structure FreeInv (L : List Oper) (q n : Nat) (aq : Act) (w0 : World) (Z : Obj) (listed : Array Bool) (β : Nat → Nat) (a : Act) (w : World) : Prop where
  size : listed.size = n
  defers : a.defers = aq.defers
  sz : a.tmps.size = aq.tmps.size
  quiet : ∀ t, (∀ (k : Nat) (o : Oper), k < q → L[k]? = some o → listed.getD k true = false → o.dst ≠ some t) → (∀ (k : Nat) (o : Oper), q ≤ k → k < n → L[k]? = some o → o.dst ≠ some t) → a.tmps[t]? = aq.tmps[t]?
  new : ∀ (k : Nat) (o : Oper) (d : Tmp), q ≤ k → k < n → L[k]? = some o → listed.getD k false = true → o.dst = some d → d < aq.tmps.size → a.tmps[d]? = some (.pointer (some ⟨β k, 0, none⟩))
  below : Below w0.heap.size w0 w
  held : ∀ k, q ≤ k → k < n → listed.getD k false = true → w0.heap.size ≤ β k ∧ w.heap[β k]? = some Z
  dist : ∀ k j, q ≤ k → k < n → q ≤ j → j < n → k ≠ j → listed.getD k false = true → listed.getD j false = true → β k ≠ β j

section
variable {P : Program} {L : List Oper} {q n : Nat} {aq a0 : Act} {w0 : World} {Z : Obj} {Q' : Exit → Act → World → Prop}

theorem count_true {listed : Array Bool} (h : listed.toList.count false = 0) (i : Nat) (d : Bool) (hi : i < listed.size) : listed.getD i d = true := by
  have h1 : listed[i] = true := by
    cases hx : listed[i] with
    | true => rfl
    | false => exact absurd (by rw [← hx, ← Array.getElem_toList hi]; exact List.getElem_mem _) (List.count_eq_zero.1 h)
  simp [hi, h1]
theorem count_set {listed : Array Bool} {i f : Nat} (hi : i < listed.size) (h0 : listed.getD i true = false) (h : listed.toList.count false = f + 1) : (listed.setIfInBounds i true).toList.count false = f := by
  have h1 : listed[i] = false := by simpa [hi] using h0
  rw [Array.toList_setIfInBounds, List.count_set (by simpa using hi), Array.getElem_toList hi, h1, h]
  simp
theorem count_open {listed : Array Bool} {f : Nat} (h : listed.toList.count false = f + 1) : ¬ ∀ i, i < listed.size → listed.getD i true = true := by
  intro hx
  have h2 : false ∈ listed.toList := List.count_pos_iff.1 (by omega)
  obtain ⟨i, hi, h3⟩ := List.getElem_of_mem h2
  have := hx i (by simpa using hi)
  simp at h3 hi
  simp [hi, h3] at this

theorem free_end (hB : freeB L q n = true) {listed : Array Bool} {β : Nat → Nat} {a : Act} {w : World} (inv : FreeInv L q n aq w0 Z listed β a w) (hall : ∀ (i : Nat) (d : Bool), i < n → listed.getD i d = true)
    (hT : ∀ bs w', bs.length = n - q → Below w0.heap.size w0 w' → (∀ b ∈ bs, w0.heap.size ≤ b ∧ w'.heap[b]? = some Z) → bs.Nodup → Q' .normal (puts ((L.take n).drop q) bs aq) w') : Q' .normal a w := by
  have hB' := hB
  simp only [freeB, Bool.and_eq_true, decide_eq_true_eq] at hB'
  obtain ⟨⟨⟨⟨⟨hqn, hnl⟩, _⟩, _⟩, _⟩, _⟩ := hB'
  have hat : ∀ (k : Nat) (o : Oper), ((L.take n).drop q)[k]? = some o → q + k < n ∧ L[q + k]? = some o := fun k o hk => by
    rw [List.getElem?_drop, List.getElem?_take] at hk
    split at hk
    · exact ⟨‹_›, hk⟩
    · cases hk
  have e : a = puts ((L.take n).drop q) ((List.range (n - q)).map fun k => β (q + k)) aq := by
    have hd : a.defers = (puts ((L.take n).drop q) ((List.range (n - q)).map fun k => β (q + k)) aq).defers := by rw [puts_defers]; exact inv.defers
    have ht : a.tmps = (puts ((L.take n).drop q) ((List.range (n - q)).map fun k => β (q + k)) aq).tmps := by
      refine Array.ext_getElem? fun t => ?_
      by_cases hx : ∃ (k : Nat) (o : Oper), ((L.take n).drop q)[k]? = some o ∧ o.dst = some t
      · obtain ⟨k, o, hk, hd⟩ := hx
        obtain ⟨h1, h2⟩ := hat k o hk
        by_cases hlt : t < aq.tmps.size
        · rw [inv.new (q + k) o t (by omega) h1 h2 (hall _ _ h1) hd hlt]
          refine (puts_at _ _ aq k o (β (q + k)) (fun i j oi oj hij hi hj h3 h4 => ?_) hk ?_ hd hlt).symm
          · obtain ⟨g1, g2⟩ := hat i oi hi
            obtain ⟨g3, g4⟩ := hat j oj hj
            exact (free_pair hB g1 g3 g2 g4 (by omega) h4).1 h3
          · rw [List.getElem?_map, List.getElem?_range (by omega)]
            rfl
        · rw [Array.getElem?_eq_none (by rw [inv.sz]; omega), Array.getElem?_eq_none (by rw [puts_size]; omega)]
      · have hx' : ∀ o ∈ (L.take n).drop q, o.dst ≠ some t := fun o ho hd => by
          obtain ⟨k, hk⟩ := List.getElem?_of_mem ho
          exact hx ⟨k, o, hk, hd⟩
        rw [puts_ne _ _ _ hx']
        refine inv.quiet t (fun k o hk ho hf => ?_) (fun k o hk hk' ho hd => ?_)
        · rw [hall k true (by omega)] at hf; cases hf
        · refine hx ⟨k - q, o, ?_, hd⟩
          rw [List.getElem?_drop, List.getElem?_take, show q + (k - q) = k by omega, if_pos hk']
          exact ho
    cases a
    cases hp : puts ((L.take n).drop q) ((List.range (n - q)).map fun k => β (q + k)) aq
    rw [hp] at hd ht
    dsimp only at hd ht
    rw [hd, ht]
  rw [e]
  refine hT _ _ (by simp) inv.below (fun b hb => ?_) ?_
  · obtain ⟨k, hk, rfl⟩ := List.mem_map.1 hb
    have := List.mem_range.1 hk
    exact inv.held (q + k) (by omega) (by omega) (hall _ _ (by omega))
  · refine List.pairwise_map.2 (List.Pairwise.imp_of_mem (fun {x y} hx hy hxy => ?_) (List.nodup_range (n := n - q)))
    have h1 := List.mem_range.1 hx
    have h2 := List.mem_range.1 hy
    exact inv.dist (q + x) (q + y) (by omega) (by omega) (by omega) (by omega) (fun h => hxy (by omega)) (hall _ _ (by omega)) (hall _ _ (by omega))

theorem free_any (hB : freeB L q n = true) (hA : ∀ o ∈ (L.take n).drop q, o.guard = none ∧ ∀ ρ w, (execOp ρ o).run P w = .ok (.value (.pointer (some ⟨w.heap.size, 0, none⟩))) (w.alloc Z))
    (hQ : ∀ w1, Below w0.heap.size w0 w1 → wpQuiet P (L.take n).toArray (fun w' => ∃ p : Regrown, w' = grow (redrawn w1 p.d) p.os) (· = aq) (L.take q) a0)
    (hT : ∀ bs w', bs.length = n - q → Below w0.heap.size w0 w' → (∀ b ∈ bs, w0.heap.size ≤ b ∧ w'.heap[b]? = some Z) → bs.Nodup → Q' .normal (puts ((L.take n).drop q) bs aq) w') :
    ∀ (f : Nat) (listed : Array Bool) (β : Nat → Nat) (a : Act) (w : World), listed.toList.count false = f → FreeInv L q n aq w0 Z listed β a w → wpAny P .any (L.take n).toArray Q' f listed a w := by
  have hB' := hB
  simp only [freeB, Bool.and_eq_true, decide_eq_true_eq] at hB'
  obtain ⟨⟨⟨⟨⟨hqn, hnl⟩, hh⟩, htidy⟩, hsel⟩, _⟩ := hB'
  have hat : ∀ i, i < n → (L.take n).toArray[i]? = L[i]? := fun i hi => by simp [hi]
  intro f
  induction f with
  | zero =>
    intro listed β a w hc inv
    have hall : ∀ (i : Nat) (d : Bool), i < n → listed.getD i d = true := fun i d hi => count_true hc i d (by rw [inv.size]; exact hi)
    refine ⟨?_, free_end hB inv hall hT⟩
    refine List.eq_nil_iff_forall_not_mem.2 fun i hi => ?_
    obtain ⟨h0, o, ho, _⟩ := mem_ready.1 hi
    have hin : i < n := by
      have := (Array.getElem?_eq_some_iff.1 ho).1
      simp at this; omega
    rw [hall i true hin] at h0
    cases h0
  | succ f ih =>
    intro listed β a w hc inv
    refine ⟨fun hr => ?_, fun i hi => ?_⟩
    · have hx := count_open hc
      rw [inv.size] at hx
      obtain ⟨i, hi, h1, h2⟩ := least_open hx
      obtain ⟨o, ho, ha, _⟩ := headB_at hh hi
      have : i ∈ Region.ready .any (L.take n).toArray listed := by
        refine mem_ready.2 ⟨h1, o, by rw [hat i hi]; exact ho, fun e he hb => ?_⟩
        have hlt := ha e he hb
        rw [← getD_some (by rw [inv.size]; omega)]
        exact h2 _ hlt
      rw [hr] at this
      cases this
    · obtain ⟨h0, o, ho, hedge⟩ := mem_ready.1 hi
      have hin : i < n := by
        have := (Array.getElem?_eq_some_iff.1 ho).1
        simp at this; omega
      have hoL : L[i]? = some o := by rw [← hat i hin]; exact ho
      have hils : i < listed.size := by rw [inv.size]; exact hin
      have hc' := count_set hils h0 hc
      have hself : (listed.setIfInBounds i true).getD i false = true := by simp [hils]
      by_cases hq : i < q
      · have hmem : o ∈ L.take q := List.mem_of_getElem? (i := i) (by rw [List.getElem?_take, if_pos hq]; exact hoL)
        obtain ⟨hy, _⟩ := quiet_final (P := P) (L.take q) a0 (fun p hp cs b => by
          obtain ⟨k, hk⟩ := List.getElem?_of_mem hp
          rw [List.getElem?_take] at hk
          split at hk
          · exact Region.noSelect_spec hsel k p cs b (by rw [hat k (by omega)]; exact hk)
          · cases hk) htidy (hQ w inv.below)
        obtain ⟨v, hv, hval⟩ := hy o hmem
        have hag : Agree (fun t => t ∈ o.looksAt (L.take n).toArray) a aq := by
          refine ⟨inv.defers, inv.sz, fun t ht => inv.quiet t (fun k ok hk hok hun hd => ?_) (fun k ok hk hk' hok hd => ?_)⟩
          · by_cases hik : i = k
            · subst hik
              have : ok = o := by rw [hoL] at hok; exact (Option.some.inj hok).symm
              subst this
              have hh2 : ∀ (l : List Oper), tidyB (L.take n).toArray l = true → ok ∈ l → ∀ d, ok.dst = some d → d ∉ ok.looksAt (L.take n).toArray := by
                intro l
                induction l with
                | nil => intro _ hm; cases hm
                | cons p l ihl =>
                  intro h1 h2 d h3
                  obtain ⟨t1, _, t3⟩ := tidy_cons h1
                  rcases List.mem_cons.1 h2 with rfl | h2
                  · exact t1 ok (List.mem_cons_self ..) d h3
                  · exact ihl t3 h2 d h3
              exact hh2 _ htidy hmem t hd ht
            · obtain ⟨_, e, he, hb, hon⟩ := (free_pair hB hin (by omega) hoL hok hik hd).2 hq ht
              have h1 := hedge e he hb
              rw [hon] at h1
              rw [getD_some (by rw [inv.size]; omega), h1] at hun
              cases hun
          · have := ((free_pair hB hin hk' hoL hok (by omega) hd).2 hq ht).1
            omega
        obtain ⟨e1, e2⟩ := agree_same (ops := (L.take n).toArray) o (fun cs b => Region.noSelect_spec hsel i o cs b ho) (fun t ht => ht) hag
        have hv' := hv.of_same e1 e2
        refine wpOp_of_qOp (K := fun a1 => a1 = a.put o.dst v) (C := fun w' => ∃ p : Regrown, w' = grow (redrawn w p.d) p.os) ⟨⟨w.drawn, #[]⟩, by rw [grow_empty]; rfl⟩ (fun a1 w1 hC hK => ?_) (hv'.qOp ho rfl)
        subst hK
        obtain ⟨⟨dq, osq⟩, hw1⟩ := hC
        have hb : Below w.heap.size w w1 := by rw [hw1]; exact below_regrown _ _ _
        refine ih _ β _ _ hc' ⟨by simpa using inv.size, by rw [put_defers']; exact inv.defers, by rw [put_size]; exact inv.sz, fun t h1 h2 => ?_, fun k ok d hk hk' hok hl hd hlt => ?_, inv.below.trans (hb.mono inv.below.size), fun k hk hk' hl => ?_, fun k j hk hk' hj hj' hne hl hl' => ?_⟩
        · by_cases hd : o.dst = some t
          · by_cases hlt : t < aq.tmps.size
            · rw [hval t hd hlt, hd, put_same a v (by rw [inv.sz]; exact hlt)]
            · have hge : aq.tmps.size ≤ t := Nat.le_of_not_lt hlt
              rw [Array.getElem?_eq_none (by rw [put_size, inv.sz]; exact hge), Array.getElem?_eq_none hge]
          · rw [put_ne a v hd]
            refine inv.quiet t (fun k ok hk hok hun => ?_) h2
            by_cases hik : i = k
            · subst hik
              have : ok = o := by rw [hoL] at hok; exact (Option.some.inj hok).symm
              subst this
              exact hd
            · exact h1 k ok hk hok (by rw [getD_set_ne true hik]; exact hun)
        · have hik : i ≠ k := by omega
          rw [getD_set_ne false hik] at hl
          rw [put_ne a v (free_pair hB hin hk' hoL hok hik hd).1]
          exact inv.new k ok d hk hk' hok hl hd hlt
        · rw [getD_set_ne false (show i ≠ k by omega)] at hl
          obtain ⟨g1, g2⟩ := inv.held k hk hk' hl
          exact ⟨g1, (hb.block _ (lt_of_heap' g2)).trans g2⟩
        · rw [getD_set_ne false (show i ≠ k by omega)] at hl
          rw [getD_set_ne false (show i ≠ j by omega)] at hl'
          exact inv.dist k j hk hk' hj hj' hne hl hl'
      · have hmem : o ∈ (L.take n).drop q := List.mem_of_getElem? (i := i - q) (by rw [List.getElem?_drop, List.getElem?_take, show q + (i - q) = i by omega, if_pos hin]; exact hoL)
        obtain ⟨hg, hx⟩ := hA o hmem
        unfold wpOp
        simp only [ho]
        have hwant : Region.wanted o (yielded (L.take n).toArray a.tmps) = true := by unfold Region.wanted; rw [hg]
        rw [if_pos hwant]
        refine .inl ?_
        unfold Oper.wp
        rw [hx]
        show wpAny P .any (L.take n).toArray Q' f (listed.setIfInBounds i true) (a.put o.dst (.pointer (some ⟨w.heap.size, 0, none⟩))) (w.alloc Z)
        refine ih _ (fun k => if k = i then w.heap.size else β k) _ _ hc' ⟨by simpa using inv.size, by rw [put_defers']; exact inv.defers, by rw [put_size]; exact inv.sz, fun t h1 h2 => ?_, fun k ok d hk hk' hok hl hd hlt => ?_, inv.below.alloc inv.below.size _, fun k hk hk' hl => ?_, fun k j hk hk' hj hj' hne hl hl' => ?_⟩
        · rw [put_ne a _ (h2 i o (by omega) hin hoL)]
          refine inv.quiet t (fun k ok hk hok hun => h1 k ok hk hok (by rw [getD_set_ne true (by omega)]; exact hun)) h2
        · by_cases hki : k = i
          · subst hki
            have : ok = o := by rw [hoL] at hok; exact (Option.some.inj hok).symm
            subst this
            rw [if_pos rfl, hd, put_same a _ (by rw [inv.sz]; exact hlt)]
          · rw [if_neg hki]
            rw [getD_set_ne false (fun h => hki h.symm)] at hl
            rw [put_ne a _ (free_pair hB hin hk' hoL hok (fun h => hki h.symm) hd).1]
            exact inv.new k ok d hk hk' hok hl hd hlt
        · by_cases hki : k = i
          · rw [if_pos hki]
            exact ⟨inv.below.size, by unfold World.alloc; simp⟩
          · rw [if_neg hki]
            rw [getD_set_ne false (fun h => hki h.symm)] at hl
            obtain ⟨g1, g2⟩ := inv.held k hk hk' hl
            exact ⟨g1, (Below.heap_alloc _ _ _ (lt_of_heap' g2)).trans g2⟩
        · have hlt : ∀ k, q ≤ k → k < n → k ≠ i → (listed.setIfInBounds i true).getD k false = true → β k < w.heap.size := fun k hk hk' hki hl => by
            rw [getD_set_ne false (fun h => hki h.symm)] at hl
            exact lt_of_heap' (inv.held k hk hk' hl).2
          by_cases hki : k = i
          · have hji : j ≠ i := fun h => hne (hki.trans h.symm)
            rw [if_pos hki, if_neg hji]
            have := hlt j hj hj' hji hl'
            omega
          · by_cases hji : j = i
            · rw [if_neg hki, if_pos hji]
              have := hlt k hk hk' hki hl
              omega
            · rw [if_neg hki, if_neg hji]
              rw [getD_set_ne false (fun h => hki h.symm)] at hl
              rw [getD_set_ne false (fun h => hji h.symm)] at hl'
              exact inv.dist k j hk hk' hj hj' hne hl hl'
end

/-- All that is asked of the region's shape: reckoned by the kernel. -/
def freeTailB (L : List Oper) (q n : Nat) : Bool :=
  freeB L q n && Region.sinkB .any L.toArray n && Region.chainB .any L.toArray n && decide (n < L.length) && Region.seqB .any L.toArray (L.drop n).length n (doneL n (L.length - n))

theorem wp_region_free {P : Program} {id : Nat} {Q : Exit → Act → World → Prop} {a : Act} {w : World} {L : List Oper} {Z : Obj} (q n : Nat) (hm : P.follows .mixedOrders = true) (hB : freeTailB L q n = true)
    (hA : ∀ o ∈ (L.take n).drop q, o.guard = none ∧ ∀ ρ w, (execOp ρ o).run P w = .ok (.value (.pointer (some ⟨w.heap.size, 0, none⟩))) (w.alloc Z))
    (h : ∃ aq, (∀ w1, Below w.heap.size w w1 → wpQuiet P (L.take n).toArray (fun w' => ∃ p : Regrown, w' = grow (redrawn w1 p.d) p.os) (· = aq) (L.take q) a) ∧
      ∀ bs w', bs.length = n - q → Below w.heap.size w w' → (∀ b ∈ bs, w.heap.size ≤ b ∧ w'.heap[b]? = some Z) → bs.Nodup → wpList P L.toArray Q (L.drop n) (puts ((L.take n).drop q) bs aq) w') : (Code.region id L.toArray true).wp P Q a w := by
  obtain ⟨aq, hQ, hT⟩ := h
  simp only [freeTailB, Bool.and_eq_true, decide_eq_true_eq] at hB
  obtain ⟨⟨⟨⟨h1, h2⟩, h3⟩, h4⟩, h6⟩ := hB
  have hB' := h1
  simp only [freeB, Bool.and_eq_true, decide_eq_true_eq] at hB'
  obtain ⟨⟨⟨⟨⟨hqn, hnl⟩, hh⟩, htidy⟩, hsel⟩, _⟩ := hB'
  have hl : (L.take n).length = n := by simp; omega
  refine wp_region_any hm ?_
  have hsz : L.toArray.size = n + (L.drop n).length := by simp; omega
  rw [hsz]
  refine wpAny_hd (g := (L.drop n).length) (T := fun a' w' => wpList P L.toArray Q (L.drop n) a' w') hh h2 h3 h4 (fun a' w' ht => wpAny_of_seq (L.drop n) n _ a' w' (fun j => by simp [List.getElem?_drop]) h6 ht) n _ (Array.replicate n false) a _ ?_ (by simp) (fun i d hi => ?_) ?_
  · refine ⟨by simp; omega, fun j oj hj hl' => ?_, fun t _ ht => ?_⟩
    · rw [getD_replicate_false] at hl'; cases hl'
    · have : t < n + (L.drop n).length := by rw [← hsz]; exact ht
      simp only [Array.getD_eq_getD_getElem?, Array.getElem?_replicate, this, if_true, Option.getD_some]
  · have h7 : i < n + (L.drop n).length := by omega
    simp only [Array.getD_eq_getD_getElem?, Array.getElem?_replicate, h7, hi, if_true, Option.getD_some]
  · have hqf := quiet_final (P := P) (L.take q) a (fun p hp cs b => by
      obtain ⟨k, hk⟩ := List.getElem?_of_mem hp
      rw [List.getElem?_take] at hk
      split at hk
      · exact Region.noSelect_spec hsel k p cs b (by simp; rw [List.getElem?_take, if_pos (by omega)]; exact hk)
      · cases hk) htidy (hQ w (Below.refl _ w))
    have hag := hqf.2
    refine free_any (Q' := Hd (fun a' w' => wpList P L.toArray Q (L.drop n) a' w') Q) (Z := Z) (a0 := a) (aq := aq) (w0 := w) h1 hA hQ hT n _ (fun _ => 0) a _ (by simp) ⟨by simp, hag.defers, hag.size, fun t g1 g2 => hag.at_ t (fun o ho hd => ?_), fun k o d hk hk' hok hl' => ?_, (Below.refl _ w).drew, fun k hk hk' hl' => ?_, fun k j hk hk' hj hj' hne hl' => ?_⟩
    · obtain ⟨k, hk⟩ := List.getElem?_of_mem ho
      rw [List.getElem?_take] at hk
      split at hk
      · exact g1 k o ‹_› hk (by simp only [Array.getD_eq_getD_getElem?, Array.getElem?_replicate, show k < n by omega, if_true, Option.getD_some]) hd
      · cases hk
    · rw [getD_replicate_false] at hl'; cases hl'
    · rw [getD_replicate_false] at hl'; cases hl'
    · rw [getD_replicate_false] at hl'; cases hl'
end Go.Proofs.YtkdnkmheidbfdaaGreat

namespace Go.Proofs.YtkdnkmheidbfdaaGreat
open Go.RowKit Go.Sort

theorem exec_newP {o : Oper} (ho : o.op = .alloc 23) (ρ : Operand → Value) (w : World) :
    (execOp ρ o).run Tryz.prog w = .ok (.value (.pointer (some ⟨w.heap.size, 0, none⟩))) (w.alloc (.cells #[.int .i64 0, .int .i64 0] 23)) := by
  unfold execOp
  rw [ho]
  simp [go_sem, Instr.alloc]
end Go.Proofs.YtkdnkmheidbfdaaGreat

namespace Go.Proofs.YtkdnkmheidbfdaaGreat
open Go.RowKit Go.Sort



end Go.Proofs.YtkdnkmheidbfdaaGreat

namespace Go.Proofs.YtkdnkmheidbfdaaGreat
open Go.RowKit Go.Sort

/-- A ring of points, each as a call takes it. -/
def ringQ (ps : List Pp) (i : Nat) : Pp := clP (lpt ps i)
def areaL (ps : List Pp) : Int := areaR ps.length (ringQ ps)
/-- What the first k segments sum up to. -/
def areaK (ps : List Pp) (k : Nat) : Int := sN k fun i => crossI (ringQ ps i) (ringQ ps ((i + 1) % ps.length))
theorem areaK_all (ps : List Pp) : areaK ps ps.length = areaL ps := rfl
theorem areaK_succ (ps : List Pp) (k : Nat) : areaK ps (k + 1) = areaK ps k + crossI (ringQ ps k) (ringQ ps ((k + 1) % ps.length)) := rfl
theorem ringQ_in (ps : List Pp) (i : Nat) : -1048576 ≤ (ringQ ps i).1 ∧ (ringQ ps i).1 ≤ 1048576 ∧ -1048576 ≤ (ringQ ps i).2 ∧ (ringQ ps i).2 ≤ 1048576 := ⟨near_lo _, near_hi _, near_lo _, near_hi _⟩
theorem crossI_bound {a b : Pp} (ha : -1048576 ≤ a.1 ∧ a.1 ≤ 1048576 ∧ -1048576 ≤ a.2 ∧ a.2 ≤ 1048576) (hb : -1048576 ≤ b.1 ∧ b.1 ≤ 1048576 ∧ -1048576 ≤ b.2 ∧ b.2 ≤ 1048576) : -8796093022208 ≤ crossI a b ∧ crossI a b ≤ 8796093022208 := by
  have m1 := mul_bound (u := a.1) (v := b.2) (by omega) (by omega) (by omega) (by omega)
  have m2 := mul_bound (u := b.1) (v := a.2) (by omega) (by omega) (by omega) (by omega)
  unfold crossI
  omega
theorem tmod_next {k n : Nat} (_hn : 0 < n) : Int.tmod ((k : Int) + 1) (n : Int) = (((k + 1) % n : Nat) : Int) := by
  rw [show ((k : Int) + 1) = ((k + 1 : Nat) : Int) by omega, Int.ofNat_tmod]



end Go.Proofs.YtkdnkmheidbfdaaGreat

namespace Go.Proofs.YtkdnkmheidbfdaaGreat
open Go.RowKit Go.Sort





end Go.Proofs.YtkdnkmheidbfdaaGreat
