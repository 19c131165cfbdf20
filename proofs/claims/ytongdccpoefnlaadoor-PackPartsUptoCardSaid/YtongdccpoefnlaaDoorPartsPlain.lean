/-
  PackParts: the plain facts: parts joined and parted again.
-/
import Derived.Test.YtongdccpoefnlaaDoorSumsWalk
namespace Go.Proofs.YtongdccpoefnlaaDoor
open Go.RowKit Go.PlainAid

/-- The first part of a text, what is left behind it, the error. -/
def cutE (zs : List Int) : Int := if (dec 0 0 zs).2.2 ≠ 0 then (dec 0 0 zs).2.2 else if (zs.length : Int) - (dec 0 0 zs).2.1 < (dec 0 0 zs).1 then 4 else 0
def cutP (zs : List Int) : List Int := if cutE zs = 0 then (zs.drop (dec 0 0 zs).2.1.toNat).take (dec 0 0 zs).1.toNat else []
def cutR (zs : List Int) : List Int := if cutE zs = 0 then (zs.drop (dec 0 0 zs).2.1.toNat).drop (dec 0 0 zs).1.toNat else []

theorem dec_count : ∀ (l : List Int) (X : Int) (k : Nat), (dec X k l).2.2 = 0 → ∃ m : Nat, (dec X k l).2.1 = (k : Int) + m ∧ 1 ≤ m ∧ m ≤ l.length
  | [], X, k, h => by simp [dec] at h
  | c :: l, X, k, h => by
    unfold dec at h ⊢
    by_cases a : k = 9 ∧ 1 < c
    · rw [if_pos a] at h; simp at h
    · rw [if_neg a] at h ⊢
      by_cases b : 128 ≤ c
      · rw [if_pos b] at h ⊢
        obtain ⟨m, h1, h2, h3⟩ := dec_count l _ _ h
        exact ⟨m + 1, by rw [h1]; omega, by omega, by simp; omega⟩
      · rw [if_neg b] at h ⊢
        by_cases d : c = 0 ∧ 0 < k
        · rw [if_pos d] at h; simp at h
        · rw [if_neg d]
          exact ⟨1, by simp, by omega, by simp⟩
theorem cut_ok {zs : List Int} (hb : ∀ b ∈ zs, 0 ≤ b ∧ b ≤ 255) (h : cutE zs = 0) : ∃ n x : Nat, dec 0 0 zs = ((x : Int), (n : Int), 0) ∧ 1 ≤ n ∧ n + x ≤ zs.length ∧ cutP zs = (zs.drop n).take x ∧ cutR zs = (zs.drop n).drop x := by
  have h0 : (dec 0 0 zs).2.2 = 0 := by
    unfold cutE at h
    by_cases a : (dec 0 0 zs).2.2 = 0
    · exact a
    · rw [if_pos a] at h; exact absurd h a
  obtain ⟨m, h1, h2, h3⟩ := dec_count zs 0 0 h0
  have hd := dec_bounds zs 0 0 (by omega) (by decide) (by omega) (fun b hx => (hb b hx).1)
  have hx : ¬ (zs.length : Int) - (dec 0 0 zs).2.1 < (dec 0 0 zs).1 := by
    unfold cutE at h
    rw [if_neg (by simpa using h0)] at h
    intro hc
    rw [if_pos hc] at h
    simp at h
  obtain ⟨x, hx'⟩ := Int.eq_ofNat_of_zero_le hd.1
  have e : (dec 0 0 zs).2.1 = (m : Int) := by rw [h1]; simp
  refine ⟨m, x, ?_, h2, by omega, ?_, ?_⟩
  · exact Prod.ext hx' (Prod.ext e h0)
  · unfold cutP; rw [if_pos h, e, hx']; simp
  · unfold cutR; rw [if_pos h, e, hx']; simp
theorem cutR_lt {zs : List Int} (hb : ∀ b ∈ zs, 0 ≤ b ∧ b ≤ 255) (h : cutE zs = 0) : (cutR zs).length < zs.length := by
  obtain ⟨n, x, _, h1, h2, _, hr⟩ := cut_ok hb h
  rw [hr]
  simp
  omega
theorem cutR_byte {zs : List Int} (hb : ∀ b ∈ zs, 0 ≤ b ∧ b ≤ 255) : ∀ b ∈ cutR zs, 0 ≤ b ∧ b ≤ 255 := by
  intro b h
  unfold cutR at h
  split at h
  · exact hb b (List.mem_of_mem_drop (List.mem_of_mem_drop h))
  · simp at h
theorem cutP_byte {zs : List Int} (hb : ∀ b ∈ zs, 0 ≤ b ∧ b ≤ 255) : ∀ b ∈ cutP zs, 0 ≤ b ∧ b ≤ 255 := by
  intro b h
  unfold cutP at h
  split at h
  · exact hb b (List.mem_of_mem_drop (List.mem_of_mem_take h))
  · simp at h

/-- What is told of a text: each part with its error; an error is the last. -/
def seqF : Nat → List Int → List (List Int × Int)
  | 0, _ => []
  | f + 1, zs => if zs = [] then [] else (cutP zs, cutE zs) :: (if cutE zs = 0 then seqF f (cutR zs) else [])
def seqOf (zs : List Int) : List (List Int × Int) := seqF zs.length zs
theorem seqF_fuel : ∀ (f g : Nat) (zs : List Int), zs.length ≤ f → zs.length ≤ g → (∀ b ∈ zs, 0 ≤ b ∧ b ≤ 255) → seqF f zs = seqF g zs
  | 0, g, zs, hf, _, _ => by
    obtain rfl : zs = [] := List.eq_nil_of_length_eq_zero (by omega)
    cases g <;> simp [seqF]
  | f + 1, 0, zs, _, hg, _ => by
    obtain rfl : zs = [] := List.eq_nil_of_length_eq_zero (by omega)
    simp [seqF]
  | f + 1, g + 1, zs, hf, hg, hb => by
    unfold seqF
    by_cases h : zs = []
    · simp [h]
    · rw [if_neg h, if_neg h]
      by_cases he : cutE zs = 0
      · have := cutR_lt hb he
        rw [if_pos he, if_pos he, seqF_fuel f g (cutR zs) (by omega) (by omega) (cutR_byte hb)]
      · rw [if_neg he, if_neg he]
theorem seqOf_nil : seqOf [] = [] := rfl
theorem seqOf_cons {zs : List Int} (hb : ∀ b ∈ zs, 0 ≤ b ∧ b ≤ 255) (h : zs ≠ []) : seqOf zs = (cutP zs, cutE zs) :: (if cutE zs = 0 then seqOf (cutR zs) else []) := by
  unfold seqOf
  cases hz : zs.length with
  | zero => exact absurd (List.eq_nil_of_length_eq_zero hz) h
  | succ m =>
    rw [show seqF (m + 1) zs = (cutP zs, cutE zs) :: (if cutE zs = 0 then seqF m (cutR zs) else []) by rw [seqF, if_neg h]]
    by_cases he : cutE zs = 0
    · have := cutR_lt hb he
      rw [if_pos he, if_pos he, seqF_fuel m (cutR zs).length (cutR zs) (by omega) (Nat.le_refl _) (cutR_byte hb)]
    · rw [if_neg he, if_neg he]
theorem seqF_len : ∀ (f : Nat) (zs : List Int), (seqF f zs).length ≤ f
  | 0, _ => by simp [seqF]
  | f + 1, zs => by
    unfold seqF
    split
    · simp
    · split
      · have := seqF_len f (cutR zs)
        simp; omega
      · simp
theorem seqOf_len (zs : List Int) : (seqOf zs).length ≤ zs.length := seqF_len _ _
/-- What Split answers. -/
def resE : List (List Int × Int) → Int
  | [] => 0
  | (_, e) :: r => if e ≠ 0 then e else resE r
def resL (s : List (List Int × Int)) : List (List Int) := if resE s = 0 then s.map (·.1) else []
theorem resE_append (a b : List (List Int × Int)) (h : resE a = 0) : resE (a ++ b) = resE b := by
  induction a with
  | nil => rfl
  | cons p a ih =>
    obtain ⟨p, e⟩ := p
    simp only [resE] at h
    by_cases he : e = 0
    · subst he
      simp only [ne_eq, not_true_eq_false, if_false] at h
      simp only [List.cons_append, resE, ne_eq, not_true_eq_false, if_false]
      exact ih h
    · rw [if_pos he] at h; exact absurd h he
/-- Of each part its length and it. -/
def joinL (pss : List (List Int)) : List Int := pss.flatMap fun p => uv (p.length : Int) ++ p
theorem joinL_append (a b : List (List Int)) : joinL (a ++ b) = joinL a ++ joinL b := by simp [joinL]
theorem joinL_len (pss : List (List Int)) : (joinL pss).length ≤ 10 * pss.length + (pss.map List.length).sum := by
  induction pss with
  | nil => simp [joinL]
  | cons p pss ih =>
    have h1 := uv_len (p.length : Int)
    have e : joinL (p :: pss) = (uv (p.length : Int) ++ p) ++ joinL pss := by simp [joinL]
    rw [e]
    simp
    omega
theorem joinL_byte {pss : List (List Int)} (h : ∀ p ∈ pss, (∀ b ∈ p, 0 ≤ b ∧ b ≤ 255) ∧ p.length ≤ 140737488355328) : ∀ b ∈ joinL pss, 0 ≤ b ∧ b ≤ 255 := by
  intro b hb
  obtain ⟨p, hp, hb⟩ := List.mem_flatMap.1 hb
  have := h p hp
  rcases List.mem_append.1 hb with hb | hb
  · exact uv_byte (by omega) (by omega) b hb
  · exact this.1 b hb
theorem seq_join : ∀ (pss : List (List Int)), (∀ p ∈ pss, (∀ b ∈ p, 0 ≤ b ∧ b ≤ 255) ∧ p.length ≤ 140737488355328) → seqOf (joinL pss) = pss.map fun p => (p, 0)
  | [], _ => rfl
  | p :: pss, h => by
    have hp := h p (by simp)
    have hr : ∀ q ∈ pss, (∀ b ∈ q, 0 ≤ b ∧ b ≤ 255) ∧ q.length ≤ 140737488355328 := fun q hq => h q (by simp [hq])
    have e : joinL (p :: pss) = uv (p.length : Int) ++ (p ++ joinL pss) := by simp [joinL]
    have hl := uv_len (p.length : Int)
    have hd : dec 0 0 (joinL (p :: pss)) = ((p.length : Int), ((uv (p.length : Int)).length : Int), 0) := by rw [e]; exact dec_uv (by omega) (by omega) _
    have hlen : (joinL (p :: pss)).length = (uv (p.length : Int)).length + (p.length + (joinL pss).length) := by rw [e]; simp
    have hE : cutE (joinL (p :: pss)) = 0 := by
      unfold cutE
      rw [hd]
      simp only [ne_eq, not_true_eq_false, if_false]
      rw [if_neg (by rw [hlen]; omega)]
    have hne : joinL (p :: pss) ≠ [] := by
      intro hc
      rw [hc] at hlen
      simp at hlen
      omega
    have hP : cutP (joinL (p :: pss)) = p := by
      unfold cutP
      rw [if_pos hE, hd, e]
      simp
    have hR : cutR (joinL (p :: pss)) = joinL pss := by
      unfold cutR
      rw [if_pos hE, hd, e]
      simp
    rw [seqOf_cons (joinL_byte h) hne, if_pos hE, hE, hP, hR, seq_join pss hr]
    rfl
theorem res_join (pss : List (List Int)) : resE (pss.map fun p => (p, (0 : Int))) = 0 ∧ resL (pss.map fun p => (p, (0 : Int))) = pss := by
  have e : resE (pss.map fun p => (p, (0 : Int))) = 0 := by
    induction pss with
    | nil => rfl
    | cons p pss ih => simpa [resE] using ih
  exact ⟨e, by unfold resL; rw [if_pos e]; simp [Function.comp_def]⟩
end Go.Proofs.YtongdccpoefnlaaDoor
