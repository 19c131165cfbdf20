/-
  There is one order of the places: what is in order is the document's.
-/
import Derived.Test.YtccbjohiaboipaaTStab
namespace Go.Proofs.Ytccbjohiaboipaa

/-- As many places as numbers, none twice: each number is there. -/
theorem hits : ∀ (n : Nat) (F : Nat → Nat), (∀ i, i < n → F i < n) → (∀ i j, i < n → j < n → F i = F j → i = j) → ∀ y, y < n → ∃ i, i < n ∧ F i = y
  | 0, _, _, _, y, hy => by omega
  | n + 1, F, hv, hinj, y, hy => by
    by_cases hz : F n = y
    · exact ⟨n, by omega, hz⟩
    · have key : ∀ i, i < n → F i ≠ F n := fun i hi e => by
        have := hinj i n (by omega) (by omega) e
        omega
      obtain ⟨G, hG⟩ : ∃ G : Nat → Nat, G = fun i => if F i = n then F n else F i := ⟨_, rfl⟩
      have hn := hv n (by omega)
      have ih := hits n G (fun i hi => by
        have h1 := hv i (by omega)
        have h2 := key i hi
        rw [hG]
        dsimp only
        split <;> omega) (fun i j hi hj e => by
        have h1 := key i hi
        have h2 := key j hj
        have h3 := hinj i j (by omega) (by omega)
        rw [hG] at e
        dsimp only at e
        split at e <;> split at e <;> first | (exact h3 (by omega)) | omega)
      by_cases hyn : y = n
      · subst hyn
        obtain ⟨i, hi, e⟩ := ih (F y) (by omega)
        have h1 := key i hi
        refine ⟨i, by omega, ?_⟩
        rw [hG] at e
        dsimp only at e
        split at e
        · assumption
        · exact absurd e h1
      · obtain ⟨i, hi, e⟩ := ih y (by omega)
        refine ⟨i, by omega, ?_⟩
        rw [hG] at e
        dsimp only at e
        split at e
        · exact absurd e hz
        · exact e
theorem Blk.inj {c : Nat → Nat → Int} (hc : OrdC c) {F : Nat → Nat} {n : Nat} (h : Blk c F 0 n) : ∀ i j, i < n → j < n → F i = F j → i = j := fun i j hi hj e => by
  rcases (show i < j ∨ i = j ∨ j < i by omega) with g | g | g
  · have := h.srt i j (by omega) g hj
    rw [e] at this
    exact (Ahd.irr hc this).elim
  · exact g
  · have := h.srt j i (by omega) g hi
    rw [e] at this
    exact (Ahd.irr hc this).elim
theorem blk_half {c : Nat → Nat → Int} (hc : OrdC c) {F G : Nat → Nat} {n k : Nat} (hF : Blk c F 0 n) (hG : Blk c G 0 n) (hk : k < n) (h : ∀ j, j < k → F j = G j) : ¬ Ahd c (F k) (G k) := fun ha => by
  obtain ⟨j, hj, e⟩ := hits n G (fun i hi => (hG.val i (by omega) hi).2) (hG.inj hc) (F k) (hF.val k (by omega) hk).2
  rcases (show j < k ∨ j = k ∨ k < j by omega) with g | g | g
  · have := hF.inj hc j k (by omega) hk (by rw [h j g, e])
    omega
  · subst g
    rw [e] at ha
    exact Ahd.irr hc ha
  · have h2 := hG.srt k j (by omega) g hj
    rw [e] at h2
    exact Ahd.irr hc (Ahd.trans hc ha h2)
theorem blk_one {c : Nat → Nat → Int} (hc : OrdC c) {F G : Nat → Nat} {n : Nat} (hF : Blk c F 0 n) (hG : Blk c G 0 n) : ∀ k, k < n → F k = G k := by
  intro k
  induction k using Nat.strongRecOn with
  | _ k ih =>
    intro hk
    have h1 := blk_half hc hF hG hk (fun j hj => ih j hj (by omega))
    have h2 := blk_half hc hG hF hk (fun j hj => (ih j hj (by omega)).symm)
    unfold Ahd at h1 h2
    have a1 := hc.anti (F k) (G k)
    omega

/-- The places compared by what lies there. -/
def cmpAt (ps : List Pp) (i k : Nat) : Int := cmpD (ps.getD i (0, 0)) (ps.getD k (0, 0))
theorem cmpAt_ord (ps : List Pp) : OrdC (cmpAt ps) := ⟨fun _i _k => cmpD_anti _ _, fun _i _j _k => cmpD_trans _ _ _⟩
theorem insP_is (l : List Pp) (out : List Nat) (i : Nat) : ∀ k, (∀ t, insP l out i k ≤ t → t < k → 0 < cmpAt l (out.getD t 0) i) ∧ (0 < insP l out i k → ¬ 0 < cmpAt l (out.getD (insP l out i k - 1) 0) i)
  | 0 => ⟨fun t _ h => absurd h (Nat.not_lt_zero _), fun h => absurd h (Nat.lt_irrefl 0)⟩
  | k + 1 => by
    have ih := insP_is l out i k
    by_cases h : 0 < cmpAt l (out.getD k 0) i
    · have e : insP l out i (k + 1) = insP l out i k := by
        show (if 0 < cmpAt l (out.getD k 0) i then insP l out i k else k + 1) = _
        rw [if_pos h]
      rw [e]
      refine ⟨fun t h1 h2 => ?_, ih.2⟩
      by_cases ht : t = k
      · rw [ht]; exact h
      · exact ih.1 t h1 (by omega)
    · have e : insP l out i (k + 1) = k + 1 := by
        show (if 0 < cmpAt l (out.getD k 0) i then insP l out i k else k + 1) = _
        rw [if_neg h]
      rw [e]
      exact ⟨fun t h1 h2 => by omega, fun _ => by rw [Nat.add_sub_cancel]; exact h⟩
theorem insD_at (l : List Pp) (out : List Nat) (i t : Nat) (_ht : t < out.length + 1) : (insD l out i).getD t 0 = if t < insP l out i out.length then out.getD t 0 else if t = insP l out i out.length then i else out.getD (t - 1) 0 := by
  have hp := insP_le l out i out.length
  unfold insD
  generalize insP l out i out.length = p at *
  have hl : (out.take p).length = p := by rw [List.length_take]; omega
  rw [List.getD_eq_getElem?_getD]
  by_cases h1 : t < p
  · rw [List.getElem?_append_left (by omega), List.getElem?_take, if_pos h1, if_pos h1, ← List.getD_eq_getElem?_getD]
  · rw [List.getElem?_append_right (by omega), hl, if_neg h1]
    by_cases h2 : t = p
    · rw [if_pos h2, h2, Nat.sub_self]
      rfl
    · rw [if_neg h2, show t - p = (t - p - 1) + 1 by omega, List.getElem?_cons_succ, List.getElem?_drop, show p + (t - p - 1) = t - 1 by omega, ← List.getD_eq_getElem?_getD]
/-- The document's order, as a map. -/
def srtF (l : List Pp) (k t : Nat) : Nat := if t < k then (sortN l k).getD t 0 else t
theorem srtF_lt (l : List Pp) (k t : Nat) (h : t < k) : srtF l k t < k := by
  unfold srtF
  rw [if_pos h]
  have hl := sortN_len l k
  rw [List.getD_eq_getElem?_getD, List.getElem?_eq_getElem (by omega)]
  exact sortN_lt l k _ (List.getElem_mem _)
theorem srtF_blk (l : List Pp) : ∀ k, Srt (cmpAt l) (srtF l k) 0 k
  | 0 => fun i j _ h1 h2 => by omega
  | k + 1 => by
    have ih := srtF_blk l k
    have hl := sortN_len l k
    have hle := insP_le l (sortN l k) k k
    obtain ⟨g1, g2⟩ := insP_is l (sortN l k) k k
    have hk : srtF l k k = k := by unfold srtF; rw [if_neg (by omega)]
    have hat : ∀ t, t < k → (sortN l k).getD t 0 = srtF l k t := fun t ht => by unfold srtF; rw [if_pos ht]
    have hm := mrg_down (cmpAt_ord l) (f := srtF l k) (a := 0) (m := k) (i := insP l (sortN l k) k k) ih (Nat.zero_le _) hle (fun h => by
      have h2 := g2 h
      rw [hat _ (by omega)] at h2
      rw [hk]
      have h3 := srtF_lt l k (insP l (sortN l k) k k - 1) (by omega)
      have h4 := (cmpAt_ord l).anti (srtF l k (insP l (sortN l k) k k - 1)) k
      exact ahd_of (cmpAt_ord l) h3 (by omega)) (fun h => by
      have h2 := g1 _ (Nat.le_refl _) h
      rw [hat _ h] at h2
      rw [hk]
      have h4 := (cmpAt_ord l).anti (srtF l k (insP l (sortN l k) k k)) k
      exact ahd_lt (by omega))
    have e : ∀ t, t < k + 1 → srtF l (k + 1) t = rot (srtF l k) (insP l (sortN l k) k k) k (k + 1) t := fun t ht => by
      have h1 := insD_at l (sortN l k) k t (by omega)
      rw [hl] at h1
      have e0 : srtF l (k + 1) t = (sortN l (k + 1)).getD t 0 := by unfold srtF; rw [if_pos ht]
      rw [e0, sortN_succ, h1]
      clear e0 h1 hm
      generalize insP l (sortN l k) k k = p at *
      unfold rot
      by_cases t1 : t < p
      · rw [if_pos t1, if_neg (by omega), if_neg (by omega)]
        exact hat t (by omega)
      · rw [if_neg t1]
        by_cases t2 : t = p
        · rw [if_pos t2, if_pos (by omega), show t + (k - p) = k by omega, hk]
        · rw [if_neg t2, if_neg (by omega), if_pos (by omega), show t - (k + 1 - k) = t - 1 by omega]
          exact hat _ (by omega)
    intro i j h1 h2 h3
    rw [e i (by omega), e j h3]
    exact hm.srt i j h1 h2 h3
theorem sort_one {ps : List Pp} {F : Nat → Nat} (h : Blk (cmpAt ps) F 0 ps.length) : rowF F ps.length = natsI (sortD ps) := by
  have hG : Blk (cmpAt ps) (srtF ps ps.length) 0 ps.length := ⟨fun k _ h2 => ⟨Nat.zero_le _, srtF_lt ps _ k h2⟩, srtF_blk ps ps.length⟩
  have hu := blk_one (cmpAt_ord ps) h hG
  have hl := sortN_len ps ps.length
  have hs : sortD ps = sortN ps ps.length := rfl
  rw [hs]
  refine List.ext_getElem? fun k => ?_
  by_cases hk : k < ps.length
  · rw [rowF_at _ hk, hu k hk]
    have : (sortN ps ps.length)[k]? = some ((sortN ps ps.length).getD k 0) := by rw [List.getD_eq_getElem?_getD, List.getElem?_eq_getElem (by omega)]; rfl
    rw [natsI_at this]
    unfold srtF
    rw [if_pos hk]
  · rw [List.getElem?_eq_none (by rw [rowF_len]; omega), List.getElem?_eq_none (by rw [natsI_length]; omega)]
end Go.Proofs.Ytccbjohiaboipaa
