/-
  A Write on a disk that may die, and the crash behind it: what stands on the sectors then.
-/
import Derived.Test.YtafopokcfkgjiaaDoorGState
import Derived.Test.YtafopokcfkgjiaaDoorXMix
namespace Go.Proofs.YtafopokcfkgjiaaDoor

/-- Sectors that are written: what waits is what waited, and some of them; they all stand there, if no error is told. -/
theorem storeP_die : ∀ (ss : List (List Int)) (d : Dk) (i : Nat), (storeP d i ss).1.last = d.last ∧ (∀ x ∈ (storeP d i ss).1.wait, x ∈ d.wait ∨ ∃ t, t < ss.length ∧ x = (i + t, ss.getD t [])) ∧ ((storeP d i ss).2 = 0 → (storeP d i ss).1.now = putS d.now i ss)
  | [], d, i => ⟨rfl, fun x hx => .inl hx, fun _ => rfl⟩
  | s :: r, d, i => by
    unfold storeP
    by_cases h : d.left = 0
    · rw [if_pos h]
      exact ⟨rfl, fun x hx => .inl hx, fun e => by cases e⟩
    · rw [if_neg h]
      obtain ⟨h1, h2, h3⟩ := storeP_die r (d.write i s) (i + 1)
      refine ⟨h1, fun x hx => ?_, fun e => ?_⟩
      · rcases h2 x hx with hx | ⟨t, ht, hx⟩
        · rcases List.mem_append.1 hx with hx | hx
          · exact .inl hx
          · rw [List.mem_singleton] at hx
            exact .inr ⟨0, by simp, hx⟩
        · exact .inr ⟨t + 1, by simp; omega, by rw [hx, show i + 1 + t = i + (t + 1) by omega]; rfl⟩
      · rw [h3 e, app_write]
        rfl
theorem flushP_die (d : Dk) : ((flushP d).2 = 50 ∧ (flushP d).1 = d) ∨ ((flushP d).2 = 0 ∧ (flushP d).1.last = d.now ∧ (flushP d).1.wait = []) := by
  unfold flushP
  by_cases h : d.left = 0
  · rw [if_pos h]; exact .inl ⟨rfl, rfl⟩
  · rw [if_neg h]; exact .inr ⟨rfl, rfl, rfl⟩
theorem placeP_die (p0 : Nat) : ∀ (ps : List Pg) (d : Dk), (placeP p0 d ps).1.last = d.last ∧ ∀ x ∈ (placeP p0 d ps).1.wait, x ∈ d.wait ∨ ∃ p ∈ ps, ∃ t, t < 8 ∧ x.1 = p0 + p.no * 8 + t
  | [], d => ⟨rfl, fun x hx => .inl hx⟩
  | p :: r, d => by
    obtain ⟨h1, h2, _⟩ := storeP_die (cut64 8 (frameOf p)) d (p0 + p.no * 8)
    rw [cut64_len] at h2
    unfold placeP thenP
    by_cases h : (storeP d (p0 + p.no * 8) (cut64 8 (frameOf p))).2 ≠ 0
    · rw [if_pos h]
      exact ⟨h1, fun x hx => (h2 x hx).imp id fun ⟨t, ht, e⟩ => ⟨p, by simp, t, ht, by rw [e]⟩⟩
    · rw [if_neg h]
      obtain ⟨h3, h4⟩ := placeP_die p0 r (storeP d (p0 + p.no * 8) (cut64 8 (frameOf p))).1
      refine ⟨h3.trans h1, fun x hx => ?_⟩
      rcases h4 x hx with hx | ⟨q, hq, t, ht, e⟩
      · exact (h2 x hx).imp id fun ⟨t, ht, e⟩ => ⟨p, by simp, t, ht, by rw [e]⟩
      · exact .inr ⟨q, by simp [hq], t, ht, e⟩
/-- What writes leave: each sector as it was, or as one of them. -/
theorem app_some : ∀ (ws : List (Nat × List Int)) (l : List (List Int)) (j : Nat), (app l ws).getD j [] = l.getD j [] ∨ ∃ x ∈ ws, x.1 = j ∧ (app l ws).getD j [] = x.2
  | [], _, _ => .inl rfl
  | x :: r, l, j => by
    rcases app_some r (l.set x.1 x.2) j with h | ⟨y, hy, h1, h2⟩
    · have hh : (app l (x :: r)).getD j [] = (l.set x.1 x.2).getD j [] := h
      by_cases e : x.1 = j
      · subst e
        by_cases hj : x.1 < l.length
        · exact .inr ⟨x, by simp, rfl, by rw [hh, List.getD_eq_getElem?_getD, List.getElem?_set_self hj]; rfl⟩
        · exact .inl (by rw [hh, List.set_eq_of_length_le (by omega)])
      · exact .inl (by rw [hh, List.getD_eq_getElem?_getD, List.getElem?_set_ne e, ← List.getD_eq_getElem?_getD])
    · exact .inr ⟨y, by simp [hy], h1, h2⟩
theorem crash_some (d : Dk) (keep : List Int) (j : Nat) : (d.crash keep).now.getD j [] = d.last.getD j [] ∨ ∃ x ∈ d.wait, x.1 = j ∧ (d.crash keep).now.getD j [] = x.2 := by
  show (app (app d.last (kept keep d.wait)) []).getD j [] = _ ∨ _
  rcases app_some (kept keep d.wait) d.last j with h | ⟨x, hx, h1, h2⟩
  · exact .inl h
  · exact .inr ⟨x, kept_mem hx, h1, h2⟩
/-- Behind a Write of pages and a crash: the journal is a mix and all else as it was; or the journal is the new one, and what is no place of these pages is as it was. -/
theorem write_crash {d : Dk} {p0 np : Nat} {ps : List Pg} (hw : d.wait = []) (hne : ps ≠ []) (keep : List Int) :
    ((writeP p0 np d ps).2 ≠ 0 ∧ ∀ j, (((writeP p0 np d ps).1).crash keep).now.getD j [] = d.last.getD j [] ∨ ∃ t, t < 1 + 8 * ps.length ∧ j = p0 + np * 8 + t ∧ (((writeP p0 np d ps).1).crash keep).now.getD j [] = (cut64 (1 + 8 * ps.length) (jBytes ps)).getD t []) ∨
    ∀ j, (∀ p ∈ ps, j < p0 + p.no * 8 ∨ p0 + p.no * 8 + 8 ≤ j) → (((writeP p0 np d ps).1).crash keep).now.getD j [] = (putS d.last (p0 + np * 8) (cut64 (1 + 8 * ps.length) (jBytes ps))).getD j [] := by
  have hnow : d.now = d.last := by unfold Dk.now; rw [hw]; rfl
  obtain ⟨s1, s2, s3⟩ := storeP_die (cut64 (1 + 8 * ps.length) (jBytes ps)) d (p0 + np * 8)
  rw [cut64_len, hw] at s2
  rw [hnow] at s3
  obtain ⟨x, hx⟩ : ∃ x, storeP d (p0 + np * 8) (cut64 (1 + 8 * ps.length) (jBytes ps)) = x := ⟨_, rfl⟩
  rw [hx] at s1 s2 s3
  have hmix : ∀ j, (x.1.crash keep).now.getD j [] = d.last.getD j [] ∨ ∃ t, t < 1 + 8 * ps.length ∧ j = p0 + np * 8 + t ∧ (x.1.crash keep).now.getD j [] = (cut64 (1 + 8 * ps.length) (jBytes ps)).getD t [] := fun j => by
    rcases crash_some x.1 keep j with h | ⟨y, hy, h1, h2⟩
    · exact .inl (by rw [h, s1])
    · rcases s2 y hy with h | ⟨t, ht, e⟩
      · cases h
      · exact .inr ⟨t, ht, by rw [← h1, e], by rw [h2, e]⟩
  unfold writeP
  rw [if_neg hne]
  unfold noteP
  rw [hx]
  by_cases he : x.2 ≠ 0
  · left
    have e1 : thenP x flushP = x := by unfold thenP; rw [if_pos he]
    rw [e1]
    unfold thenP
    rw [if_pos he]
    exact ⟨he, hmix⟩
  · have e1 : thenP x flushP = flushP x.1 := by unfold thenP; rw [if_neg he]
    rw [e1]
    rcases flushP_die x.1 with ⟨f1, f2⟩ | ⟨f1, f2, f3⟩
    · left
      have : thenP (flushP x.1) (fun d1 => thenP (placeP p0 d1 ps) flushP) = flushP x.1 := by
        unfold thenP
        rw [if_pos (by rw [f1]; decide)]
      rw [this, f1, f2]
      exact ⟨by decide, hmix⟩
    · right
      have e2 : thenP (flushP x.1) (fun d1 => thenP (placeP p0 d1 ps) flushP) = thenP (placeP p0 (flushP x.1).1 ps) flushP := by
        conv => lhs; unfold thenP
        rw [if_neg (by rw [f1]; decide)]
        rfl
      rw [e2]
      have hlast : (flushP x.1).1.last = putS d.last (p0 + np * 8) (cut64 (1 + 8 * ps.length) (jBytes ps)) := by rw [f2]; exact s3 (Decidable.not_not.1 he)
      obtain ⟨q1, q2⟩ := placeP_die p0 ps (flushP x.1).1
      rw [hlast] at q1
      rw [f3] at q2
      obtain ⟨y, hy⟩ : ∃ y, placeP p0 (flushP x.1).1 ps = y := ⟨_, rfl⟩
      rw [hy] at q1 q2 ⊢
      have qy : ∀ j, (∀ p ∈ ps, j < p0 + p.no * 8 ∨ p0 + p.no * 8 + 8 ≤ j) → (app y.1.last y.1.wait).getD j [] = (putS d.last (p0 + np * 8) (cut64 (1 + 8 * ps.length) (jBytes ps))).getD j [] := fun j hj => by
        rcases app_some y.1.wait y.1.last j with h | ⟨z, hz, h1, _⟩
        · rw [h, q1]
        · rcases q2 z hz with h | ⟨p, hp, t, ht, e⟩
          · cases h
          · have := hj p hp
            omega
      have qc : ∀ j, (∀ p ∈ ps, j < p0 + p.no * 8 ∨ p0 + p.no * 8 + 8 ≤ j) → (y.1.crash keep).now.getD j [] = (putS d.last (p0 + np * 8) (cut64 (1 + 8 * ps.length) (jBytes ps))).getD j [] := fun j hj => by
        rcases crash_some y.1 keep j with h | ⟨z, hz, h1, _⟩
        · rw [h, q1]
        · rcases q2 z hz with h | ⟨p, hp, t, ht, e⟩
          · cases h
          · have := hj p hp
            omega
      intro j hj
      unfold thenP
      by_cases hy2 : y.2 ≠ 0
      · rw [if_pos hy2]
        exact qc j hj
      · rw [if_neg hy2]
        rcases flushP_die y.1 with ⟨_, g2⟩ | ⟨_, g2, g3⟩
        · rw [g2]
          exact qc j hj
        · rcases crash_some (flushP y.1).1 keep j with h | ⟨z, hz, _⟩
          · rw [h, g2]
            exact qy j hj
          · rw [g3] at hz
            cases hz
end Go.Proofs.YtafopokcfkgjiaaDoor
