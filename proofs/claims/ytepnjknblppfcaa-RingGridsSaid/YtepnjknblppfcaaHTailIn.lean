/-
  HTail's law within a fence: a region that draws its order, whose first operations only read, whose last ones (a call of yield among them) wait for all others and for one another.
-/
import Derived.Test.YtepnjknblppfcaaHTail
import Derived.Sort.BigQuietIn
namespace Go.Proofs.Ytepnjknblppfcaa
open Go.RowKit

section
variable {F : Fence} {m : Nat} {P : Program} {md : Region.Mode} {L : List Oper} {n g : Nat} {T : Act → World → Prop} {Q : Exit → Act → World → Prop}

theorem letsOut_hd (h : LetsOut (Hd T Q)) : LetsOut Q := by
  obtain ⟨a, w, h⟩ := h
  exact ⟨a, w, h⟩
theorem uponIn_hd {o : Oper} {a : Act} {K : Act → World → Prop} : ∀ {r : Result Next}, Oper.uponIn F m P o a K (Hd T Q) r → Oper.uponIn F m P o a K Q r
  | .ok x w', h => by
    cases x <;> first
      | exact h
      | exact ⟨h.1, CallsIn.mono h.2 fun e w'' he => by cases e <;> first | exact he | exact letsOut_hd he⟩
      | exact ⟨h.1, RoundIn.mono h.2 fun e w'' he => by cases e <;> first | exact he | exact letsOut_hd he⟩
  | .halt x w', h => by cases x <;> exact h

theorem wpOpIn_hd (hh : headB md L n = true) {i : Nat} (hi : i < n) {K K' : Act → World → Prop} (hK : ∀ a w, K a w → K' a w) {a : Act} {w : World} (h : wpOpIn F m P (L.take n).toArray (Hd T Q) i K a w) : wpOpIn F m P L.toArray Q i K' a w := by
  obtain ⟨o, ho, _, hg⟩ := headB_at hh hi
  have ho' : L.toArray[i]? = some o := by simpa using ho
  unfold wpOpIn at h ⊢
  rw [take_at hi, ho'] at h
  rw [ho']
  have hw : Region.wanted o (yielded (L.take n).toArray a.tmps) = Region.wanted o (yielded L.toArray a.tmps) := by
    unfold Region.wanted
    cases hgd : o.guard with
    | none => rfl
    | some p =>
      obtain ⟨k, b⟩ := p
      have : yielded (L.take n).toArray a.tmps k = yielded L.toArray a.tmps k := by
        unfold yielded
        rw [take_at (hg k b hgd)]
      simp only [this]
  simp only [hw] at h ⊢
  split
  · rename_i h1
    rw [if_pos h1] at h
    exact Oper.wpIn_mono hK ⟨h.1, uponIn_hd h.2⟩
  · rename_i h1
    rw [if_neg h1] at h
    exact ⟨h.1, hK _ _ h.2⟩

theorem wpAnyIn_more {ops : Array Oper} : ∀ (f : Nat) (listed : Array Bool) (a : Act) (w : World), wpAnyIn F m P md ops Q f listed a w → wpAnyIn F m P md ops Q (f + 1) listed a w
  | 0, _, _, _, h => ⟨fun _ => h.2, fun i hi => by rw [h.1] at hi; cases hi⟩
  | f + 1, _, _, _, h => ⟨h.1, fun i hi => wpOpIn_mono (fun a' w' h' => wpAnyIn_more f _ a' w' h') (h.2 i hi)⟩
theorem wpAnyIn_fuel {ops : Array Oper} {g : Nat} {listed : Array Bool} {a : Act} {w : World} (h : wpAnyIn F m P md ops Q g listed a w) : ∀ f, wpAnyIn F m P md ops Q (f + g) listed a w
  | 0 => by rw [Nat.zero_add]; exact h
  | f + 1 => by rw [show f + 1 + g = (f + g) + 1 by omega]; exact wpAnyIn_more _ _ _ _ (wpAnyIn_fuel h f)

theorem wpAnyIn_hd (hh : headB md L n = true) (hs : Region.sinkB md L.toArray n = true) (hc : Region.chainB md L.toArray n = true) (hn : n < L.length)
    (hT : ∀ a w, T a w → wpAnyIn F m P md L.toArray Q g (doneL n (L.length - n)) a w) :
    ∀ (f : Nat) (listed lH : Array Bool) (a : Act) (w : World), HeadInv md L.toArray n listed → lH.size = n → (∀ i d, i < n → lH.getD i d = listed.getD i d) →
      wpAnyIn F m P md (L.take n).toArray (Hd T Q) f lH a w → wpAnyIn F m P md L.toArray Q (f + g) listed a w := by
  intro f
  induction f with
  | zero =>
    intro listed lH a w inv hsz hag h
    have hall : ∀ i, i < n → listed.getD i true = true := by
      refine Classical.byContradiction fun hx => ?_
      obtain ⟨i, hi, h1, h2⟩ := least_open hx
      obtain ⟨o, ho, ha, _⟩ := headB_at hh hi
      have : i ∈ Region.ready md (L.take n).toArray lH := by
        refine mem_ready.2 ⟨by rw [hag i true hi]; exact h1, o, by rw [take_at hi]; simpa using ho, fun e he hb => ?_⟩
        have hlt := ha e he hb
        rw [hag e.on false (by omega), ← getD_some (by rw [inv.size]; simp; omega)]
        exact h2 _ hlt
      rw [h.1] at this
      cases this
    have hd := done_is hn inv hall
    subst hd
    rw [Nat.zero_add]
    exact hT _ _ h.2
  | succ f ih =>
    intro listed lH a w inv hsz hag h
    by_cases hall : ∀ i, i < n → listed.getD i true = true
    · have hr : Region.ready md (L.take n).toArray lH = [] := by
        refine List.eq_nil_iff_forall_not_mem.2 fun i hi => ?_
        obtain ⟨h0, o, ho, _⟩ := mem_ready.1 hi
        have hin : i < n := by
          have := (Array.getElem?_eq_some_iff.1 ho).1
          simp at this; omega
        rw [hag i true hin, hall i hin] at h0
        cases h0
      have hd := done_is hn inv hall
      subst hd
      exact wpAnyIn_fuel (hT _ _ (h.1 hr)) (f + 1)
    · obtain ⟨i, hi, h1, h2⟩ := least_open hall
      obtain ⟨o, ho, ha, _⟩ := headB_at hh hi
      have hri : i ∈ Region.ready md L.toArray listed := by
        refine mem_ready.2 ⟨h1, o, by simpa using ho, fun e he hb => ?_⟩
        have hlt := ha e he hb
        rw [← getD_some (by rw [inv.size]; simp; omega)]
        exact h2 _ hlt
      rw [show f + 1 + g = (f + g) + 1 by omega]
      refine ⟨fun hr => absurd hri (by rw [hr]; simp), fun j hj => ?_⟩
      have hjn : j < n := by
        rcases Nat.lt_or_ge j n with hx | hx
        · exact hx
        · exact absurd hj (tail_waits hs hc (by simpa using hn) inv _ i rfl hi h1 j hx)
      obtain ⟨h0, oj, hoj, hej⟩ := mem_ready.1 hj
      obtain ⟨oj', hoj', haj, _⟩ := headB_at hh hjn
      have heo : oj' = oj := by
        rw [show L.toArray[j]? = L[j]? by simp, hoj'] at hoj
        exact Option.some.inj hoj
      subst heo
      have hjH : j ∈ Region.ready md (L.take n).toArray lH := by
        refine mem_ready.2 ⟨by rw [hag j true hjn]; exact h0, oj', by rw [take_at hjn]; exact hoj, fun e he hb => ?_⟩
        have hlt := haj e he hb
        rw [hag e.on false (by omega)]
        exact hej e he hb
      refine wpOpIn_hd hh hjn (fun a' w' h' => ih _ _ a' w' (inv.set hj hjn) (by simp [hsz]) (fun k d hk => ?_) h') (h.2 j hjH)
      by_cases hjk : j = k
      · subst hjk
        have e1 : j < listed.size := by rw [inv.size]; simp; omega
        simp [hsz, hjn, e1]
      · rw [getD_set_ne d hjk, getD_set_ne d hjk]
        exact hag k d hk

theorem wpAnyIn_of_seq {ops : Array Oper} : ∀ (l : List Oper) (k : Nat) (listed : Array Bool) (a : Act) (w : World), (∀ j, l[j]? = ops[k + j]?) →
    Region.seqB md ops l.length k listed = true → wpListIn F m P ops Q l a w → wpAnyIn F m P md ops Q l.length listed a w
  | [], _, _, _, _, _, hB, h => ⟨by simpa [Region.seqB] using hB, h⟩
  | o :: l, k, listed, a, w, hl, hB, h => by
    have h0 : ops[k]? = some o := by simpa using (hl 0).symm
    simp only [List.length_cons, Region.seqB, Bool.and_eq_true, decide_eq_true_eq] at hB
    refine ⟨fun h1 => (by rw [hB.1] at h1; cases h1), fun i hi => ?_⟩
    rw [hB.1] at hi
    have hik : i = k := by simpa using hi
    subst hik
    have hw : wpOpIn F m P ops Q i (wpListIn F m P ops Q l) a w := by unfold wpOpIn; simp only [h0]; exact h
    exact wpOpIn_mono (fun a' w' h' => wpAnyIn_of_seq l (i + 1) _ a' w' (fun j => by have := hl (j + 1); simpa [Nat.add_assoc, Nat.add_comm 1 j] using this) hB.2 h') hw
end

theorem wpIn_region_tail {F : Fence} {m : Nat} {P : Program} {id : Nat} {Q : Exit → Act → World → Prop} {a : Act} {w : World} {L : List Oper} (n : Nat) (hro : F.round = none) (hm : P.follows .mixedOrders = true) (hB : tailB L n = true)
    (h : wpQuietIn F m P (L.take n).toArray (fun w' => ∃ q, w' = w.drewN q) (fun a' => ∀ w', (∃ q, w' = w.drewN q) → wpListIn F m P L.toArray Q (L.drop n) a' w') (L.take n) a) : (Code.region id L.toArray true).wpIn F m P Q a w := by
  simp only [tailB, Bool.and_eq_true, decide_eq_true_eq] at hB
  obtain ⟨⟨⟨⟨⟨h1, h2⟩, h3⟩, h4⟩, h5⟩, h6⟩ := hB
  simp only [Region.lexB, Bool.and_eq_true] at h5
  have hq := wpAnyQIn_lex (F := F) (n := m) (C := fun w' => ∃ q, w' = w.drewN q) (P := P) (md := .any) h5.1 (L.take n) 0 (Array.replicate (L.take n).toArray.size false) a (by simp) (by simpa using h5.2) h
  have hl : (L.take n).length = n := by simp; omega
  refine wpIn_region_any hm ?_
  have hsz : L.toArray.size = n + (L.drop n).length := by simp; omega
  rw [hsz]
  refine wpAnyIn_hd (g := (L.drop n).length) (T := fun a' w' => wpListIn F m P L.toArray Q (L.drop n) a' w') h1 h2 h3 h4 (fun a' w' ht => wpAnyIn_of_seq (L.drop n) n _ a' w' (fun j => by simp [List.getElem?_drop]) h6 ht) n _ (Array.replicate (L.take n).toArray.size false) a _ ?_ (by simp; omega) (fun i d hi => ?_) ?_
  · refine ⟨by simp; omega, fun j oj hj hl' => ?_, fun t _ ht => ?_⟩
    · rw [getD_replicate_false] at hl'; cases hl'
    · have : t < n + (L.drop n).length := by rw [← hsz]; exact ht
      simp only [Array.getD_eq_getD_getElem?, Array.getElem?_replicate, this, if_true, Option.getD_some]
  · have h7 : i < n + (L.drop n).length := by omega
    have h8 : i < (L.take n).toArray.size := by simp; omega
    simp only [Array.getD_eq_getD_getElem?, Array.getElem?_replicate, h7, h8, if_true, Option.getD_some]
  · have := wpAnyIn_of_quiet (F := F) (n := m) (P := P) (md := .any) (C := fun w' => ∃ q, w' = w.drewN q) (Q := fun a' => ∀ w', (∃ q, w' = w.drewN q) → wpListIn F m P L.toArray Q (L.drop n) a' w') (Q' := Hd (fun a' w' => wpListIn F m P L.toArray Q (L.drop n) a' w') Q) hro (fun a' w' hw' ht => ht w' hw') (L.take n).length _ a w.drew ⟨1, rfl⟩ hq
    rw [hl] at this
    exact this
end Go.Proofs.Ytepnjknblppfcaa
