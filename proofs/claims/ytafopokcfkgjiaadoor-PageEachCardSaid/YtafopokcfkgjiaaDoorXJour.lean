/-
  A journal that a crash left in part: it tells the old pages, the new ones, or none.
-/
import Derived.Test.YtafopokcfkgjiaaDoorXDie
namespace Go.Proofs.YtafopokcfkgjiaaDoor

theorem secs_one {l : List (List Int)} {i : Nat} (h : i < l.length) : secs l i 1 = l.getD i [] := by
  have := secs_succ (l := l) (i := i) (k := 0) (by omega)
  rw [secs_zero, List.nil_append, Nat.add_zero] at this
  exact this
theorem secs_sector {l : List (List Int)} (hs : ∀ s ∈ l, Sec s) {i k : Nat} (h : i + 8 ≤ l.length) (hk : k < 8) : SC (secs l i 8) k = l.getD (i + k) [] := by
  have e1 := secs_split (l := l) (i := i) (a := k) (b := 8 - k) (by omega)
  have e2 := secs_split (l := l) (i := i + k) (a := 1) (b := 7 - k) (by omega)
  rw [show k + (8 - k) = 8 by omega] at e1
  rw [show 1 + (7 - k) = 8 - k by omega] at e2
  have l1 : (secs l i k).length = 64 * k := secs_len hs (by omega)
  have l2 : (secs l (i + k) 1).length = 64 * 1 := secs_len hs (by omega)
  unfold SC
  rw [e1, List.drop_append_of_le_length (by omega), List.drop_of_length_le (by omega), List.nil_append, e2, List.take_append_of_le_length (by omega), List.take_of_length_le (by omega)]
  exact secs_one (by omega)
theorem frame_secs {l : List (List Int)} (hs : ∀ s ∈ l, Sec s) {i c j : Nat} (h : i + 8 * c ≤ l.length) (hj : j < c) : frameAt (secs l i (8 * c)) j = secs l (i + 8 * j) 8 := by
  have e1 := secs_split (l := l) (i := i) (a := 8 * j) (b := 8 * (c - j)) (by omega)
  have e2 := secs_split (l := l) (i := i + 8 * j) (a := 8) (b := 8 * (c - j - 1)) (by omega)
  rw [show 8 * j + 8 * (c - j) = 8 * c by omega] at e1
  rw [show 8 + 8 * (c - j - 1) = 8 * (c - j) by omega] at e2
  have l1 : (secs l i (8 * j)).length = 64 * (8 * j) := secs_len hs (by omega)
  have l2 : (secs l (i + 8 * j) 8).length = 64 * 8 := secs_len hs (by omega)
  unfold frameAt
  rw [e1, List.drop_append_of_le_length (by omega), List.drop_of_length_le (by omega), List.nil_append, e2, List.take_append_of_le_length (by omega), List.take_of_length_le (by omega)]

theorem jour_head {ps : List Pg} (hd : ∀ p ∈ ps, p.data.length = 480) (h8 : ps.length ≤ 8) : (cut64 (1 + 8 * ps.length) (jBytes ps)).getD 0 [] = headOf (framesOf ps) := by
  have hl := headOf_len (framesOf_len hd) h8
  rw [cut64_at _ _ _ (by omega), Nat.mul_zero, List.drop_zero]
  unfold jBytes
  rw [List.take_append_of_le_length (by omega), List.take_of_length_le (by omega)]
theorem jour_sec {ps : List Pg} (hd : ∀ p ∈ ps, p.data.length = 480) (h8 : ps.length ≤ 8) {j i : Nat} (hj : j < ps.length) (hi : i < 8) : (cut64 (1 + 8 * ps.length) (jBytes ps)).getD (1 + 8 * j + i) [] = SC (frameOf ps[j]) i := by
  have hl := headOf_len (framesOf_len hd) h8
  rw [cut64_at _ _ _ (by omega), ← framesOf_at ps j hj hd]
  unfold jBytes SC frameAt
  rw [show 64 * (1 + 8 * j + i) = (headOf (framesOf ps)).length + (512 * j + 64 * i) by rw [hl]; omega, List.drop_append, List.drop_of_length_le (by omega), List.nil_append, Nat.add_sub_cancel_left]
  rw [List.drop_take, List.take_take, List.drop_drop, Nat.min_eq_left (show 64 ≤ 512 - 64 * i by omega)]
theorem sums_field : ∀ {n : Nat} {f g : List Int}, 512 * n ≤ f.length → 512 * n ≤ g.length → sumsOf n f = sumsOf n g → ∀ j, j < n → (frameAt f j).drop 508 = (frameAt g j).drop 508
  | 0, _, _, _, _, _, j, hj => absurd hj (Nat.not_lt_zero j)
  | n + 1, f, g, hf, hg, h, j, hj => by
    rw [sumsOf_snoc n f hf, sumsOf_snoc n g hg] at h
    obtain ⟨e1, e2⟩ := List.append_inj h (by rw [sumsOf_len n f (by omega), sumsOf_len n g (by omega)])
    by_cases e : j = n
    · rw [e]; exact e2
    · exact sums_field (by omega) (by omega) e1 j (by omega)
theorem head_sums {f g : List Int} {k : Nat} (hf : f.length = 512 * k) (hg : g.length = 512 * k) (h : headOf f = headOf g) : sumsOf k f = sumsOf k g := by
  unfold headOf at h
  rw [hf, hg, show 512 * k / 512 = k by omega] at h
  have l1 := sumsOf_len k f (by omega)
  have l2 := sumsOf_len k g (by omega)
  obtain ⟨e1, _⟩ := List.append_inj h (by rw [List.length_append, List.length_append, l1, l2])
  exact (List.append_inj e1 rfl).2

/-- A journal with the head of pages, of whose frames each that has the sum is whole or does not open. -/
theorem noted_mix {l : List (List Int)} {jn np : Nat} {ps : List Pg} (hs : ∀ s ∈ l, Sec s) (hr : jn + 1 + 8 * ps.length ≤ l.length) (htk : takes np ps) (hnp : np ≤ 4096) (hH : l.getD jn [] = headOf (framesOf ps))
    (hfr : ∀ j (hj : j < ps.length), (secs l (jn + 1 + 8 * j) 8).drop 508 = (frameOf ps[j]).drop 508 → openE (secs l (jn + 1 + 8 * j) 8) ≠ 0 ∨ secs l (jn + 1 + 8 * j) 8 = frameOf ps[j]) :
    JOk l jn np ∧ (notedP l jn = [] ∨ notedP l jn = ps) := by
  have hdl : ∀ p ∈ ps, p.data.length = 480 := fun p hp => (htk.2.1 p hp).len
  have hfl := framesOf_len hdl
  have hh : jHead l jn = headOf (framesOf ps) := by unfold jHead; rw [secs_one (by omega), hH]
  have hc : countOf (jHead l jn) = ps.length := by rw [hh, countOf_head hfl htk.1]
  have hFl : (jFrames l jn).length = 512 * ps.length := by unfold jFrames; rw [hc, secs_len hs (by omega)]; omega
  have hfa : ∀ j, j < ps.length → frameAt (jFrames l jn) j = secs l (jn + 1 + 8 * j) 8 := fun j hj => by unfold jFrames; rw [hc]; exact frame_secs hs (by omega) hj
  by_cases hacc : jHead l jn = headOf (jFrames l jn)
  · have hsum := sums_field (by omega) (by omega) (head_sums hFl hfl (by rw [← hacc, hh]))
    have hf : ∀ j (hj : j < ps.length), openE (frameAt (jFrames l jn) j) ≠ 0 ∨ frameAt (jFrames l jn) j = frameOf ps[j] := fun j hj => by
      have q := hsum j hj
      rw [framesOf_at ps j hj hdl, hfa j hj] at q
      rw [hfa j hj]
      exact hfr j hj q
    have hnp' : notedP l jn = pagesL ps.length (jFrames l jn) := by unfold notedP; rw [if_pos hacc, hc]
    have hcase : notedP l jn = [] ∨ notedP l jn = ps := by
      rw [hnp']
      unfold pagesL
      by_cases hb : soundB ps.length (jFrames l jn) = true
      · rw [if_pos hb]
        right
        apply List.ext_getElem (by simp)
        intro j h1 h2
        simp only [List.getElem_map, List.getElem_range]
        have e0 := (pageErr_zero (soundB_iff.1 hb j h2)).1
        rw [(hf j h2).resolve_left (fun h => h e0)]
        exact (page_back (htk.2.1 ps[j] (List.getElem_mem h2)) hnp).2
      · rw [if_neg hb]
        exact .inl rfl
    refine ⟨⟨fun _ j hj => ?_, ?_⟩, hcase⟩
    · rw [hc] at hj
      rcases hf j hj with h | h
      · exact .inr h
      · rw [h]
        exact .inl (page_back (htk.2.1 ps[j] (List.getElem_mem hj)) hnp).1
    · rcases hcase with h | h
      · rw [h]; exact ⟨by simp, by simp, by simp⟩
      · rw [h]; exact htk
  · have hn : notedP l jn = [] := by unfold notedP; rw [if_neg hacc]
    exact ⟨⟨fun h => absurd h hacc, by rw [hn]; exact ⟨by simp, by simp, by simp⟩⟩, .inl hn⟩
/-- A journal that is whole. -/
theorem noted_whole {l : List (List Int)} {jn np : Nat} {ps : List Pg} (hs : ∀ s ∈ l, Sec s) (hr : jn + 1 + 8 * ps.length ≤ l.length) (htk : takes np ps) (hnp : np ≤ 4096) (hJ : ∀ t, t < 1 + 8 * ps.length → l.getD (jn + t) [] = (cut64 (1 + 8 * ps.length) (jBytes ps)).getD t []) :
    JOk l jn np ∧ notedP l jn = ps := by
  have hdl : ∀ p ∈ ps, p.data.length = 480 := fun p hp => (htk.2.1 p hp).len
  have hfl := framesOf_len hdl
  have hH : l.getD jn [] = headOf (framesOf ps) := by
    have := hJ 0 (by omega)
    rw [Nat.add_zero, jour_head hdl htk.1] at this
    exact this
  have hfr : ∀ j (hj : j < ps.length), secs l (jn + 1 + 8 * j) 8 = frameOf ps[j] := fun j hj => by
    have hf := frameOf_len (hdl ps[j] (List.getElem_mem hj))
    have hsl : (secs l (jn + 1 + 8 * j) 8).length = 64 * 8 := secs_len hs (by omega)
    refine List.ext_getElem? fun k => ?_
    by_cases hk : k < 512
    · have e : SC (secs l (jn + 1 + 8 * j) 8) (k / 64) = SC (frameOf ps[j]) (k / 64) := by
        rw [secs_sector hs (by omega) (by omega), ← jour_sec hdl htk.1 hj (show k / 64 < 8 by omega), ← hJ _ (by omega)]
        congr 1
        omega
      have q := congrArg (fun l => l[k % 64]?) e
      unfold SC at q
      rw [List.getElem?_take, if_pos (Nat.mod_lt _ (by decide)), List.getElem?_take, if_pos (Nat.mod_lt _ (by decide)), List.getElem?_drop, List.getElem?_drop, Nat.div_add_mod] at q
      exact q
    · rw [List.getElem?_eq_none (by omega), List.getElem?_eq_none (by omega)]
  obtain ⟨h1, h2⟩ := noted_mix hs hr htk hnp hH (fun j hj _ => .inr (hfr j hj))
  refine ⟨h1, ?_⟩
  have hh : jHead l jn = headOf (framesOf ps) := by unfold jHead; rw [secs_one (by omega), hH]
  have hc : countOf (jHead l jn) = ps.length := by rw [hh, countOf_head hfl htk.1]
  have hF : jFrames l jn = framesOf ps := by
    unfold jFrames
    rw [hc]
    have hl1 : (secs l (jn + 1) (8 * ps.length)).length = 512 * ps.length := by rw [secs_len hs (by omega)]; omega
    refine List.ext_getElem? fun k => ?_
    by_cases hk : k < 512 * ps.length
    · have hj : k / 512 < ps.length := by omega
      have e := (frame_secs hs (by omega) hj).trans ((hfr (k / 512) hj).trans (framesOf_at ps (k / 512) hj hdl).symm)
      have q := congrArg (fun l => l[k % 512]?) e
      unfold frameAt at q
      rw [List.getElem?_take, if_pos (Nat.mod_lt _ (by decide)), List.getElem?_take, if_pos (Nat.mod_lt _ (by decide)), List.getElem?_drop, List.getElem?_drop, Nat.div_add_mod] at q
      exact q
    · rw [List.getElem?_eq_none (by omega), List.getElem?_eq_none (by omega)]
  have hsound : soundB ps.length (framesOf ps) = true := soundB_iff.2 fun j hj => by
    rw [framesOf_at ps j hj hdl]
    exact (page_back (htk.2.1 ps[j] (List.getElem_mem hj)) hnp).1
  unfold notedP
  rw [hF, hh, if_pos rfl, ← hh, hc]
  unfold pagesL
  rw [if_pos hsound]
  apply List.ext_getElem (by simp)
  intro j h1 h2
  simp only [List.getElem_map, List.getElem_range]
  rw [framesOf_at ps j h2 hdl]
  exact (page_back (htk.2.1 ps[j] (List.getElem_mem h2)) hnp).2
end Go.Proofs.YtafopokcfkgjiaaDoor
