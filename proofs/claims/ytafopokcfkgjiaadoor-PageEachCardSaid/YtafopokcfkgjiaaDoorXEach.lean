/-
  PageEach, plain: behind a Write that may die, a crash and an Open each page is the old one or the new one.
-/
import Derived.Test.YtafopokcfkgjiaaDoorXJour
namespace Go.Proofs.YtafopokcfkgjiaaDoor

theorem redoL_now (p0 np : Nat) : ∀ (ps : List Pg) (d : Dk) (c : Bool), d.left = -1 → (∀ p ∈ ps, p.no < np ∧ p.data.length = 480) → (ps.map Pg.no).Nodup → p0 + np * 8 ≤ d.now.length →
    (redoL p0 d c ps).1.now.length = d.now.length ∧ (∀ p ∈ ps, secs (redoL p0 d c ps).1.now (p0 + p.no * 8) 8 = frameOf p) ∧
      (∀ j, (∀ p ∈ ps, j < p0 + p.no * 8 ∨ p0 + p.no * 8 + 8 ≤ j) → (redoL p0 d c ps).1.now.getD j [] = d.now.getD j [])
  | [], d, c, _, _, _, _ => ⟨rfl, by simp, fun _ _ => rfl⟩
  | p :: r, d, c, h, hp, hn, hl => by
    rw [List.map_cons, List.nodup_cons] at hn
    have hp0 := hp p (by simp)
    have far : ∀ x ∈ r, ∀ j, p0 + p.no * 8 ≤ j → j < p0 + p.no * 8 + 8 → j < p0 + x.no * 8 ∨ p0 + x.no * 8 + 8 ≤ j := fun x hx j h1 h2 => by
      have hne : x.no ≠ p.no := fun e => hn.1 (by rw [← e]; exact List.mem_map.2 ⟨x, hx, rfl⟩)
      omega
    unfold redoL
    by_cases he : secs d.now (p0 + p.no * 8) 8 = frameOf p
    · rw [if_pos he]
      obtain ⟨i3, i4, i5⟩ := redoL_now p0 np r d c h (fun q hq => hp q (by simp [hq])) hn.2 hl
      refine ⟨i3, fun q hq => ?_, fun j hj => i5 j (fun q hq => hj q (by simp [hq]))⟩
      rcases List.mem_cons.1 hq with rfl | hq
      · refine (secs_congr (l' := d.now) (by rw [i3]; omega) (by omega) (fun j h1 h2 => i5 j (fun x hx => far x hx j h1 h2))).trans he
      · exact i4 q hq
    · rw [if_neg he]
      have hs := storeP_live (cut64 8 (frameOf p)) d (p0 + p.no * 8) h
      have hnow := storeP_now (cut64 8 (frameOf p)) d (p0 + p.no * 8) h
      have hcl : (cut64 8 (frameOf p)).length = 8 := cut64_len _ _
      have hfl : (cut64 8 (frameOf p)).flatten = frameOf p := cut64_flat 8 _ (by rw [frameOf_len hp0.2])
      have hlen : (storeP d (p0 + p.no * 8) (cut64 8 (frameOf p))).1.now.length = d.now.length := by rw [hnow, putS_len]
      obtain ⟨i3, i4, i5⟩ := redoL_now p0 np r _ true hs.2 (fun q hq => hp q (by simp [hq])) hn.2 (by rw [hlen]; exact hl)
      refine ⟨by rw [i3, hlen], fun q hq => ?_, fun j hj => ?_⟩
      · rcases List.mem_cons.1 hq with rfl | hq
        · have e : secs (putS d.now (p0 + q.no * 8) (cut64 8 (frameOf q))) (p0 + q.no * 8) 8 = frameOf q := by
            have := putS_secs (l := d.now) (ss := cut64 8 (frameOf q)) (i := p0 + q.no * 8) (by rw [hcl]; omega)
            rw [hcl, hfl] at this
            exact this
          exact (secs_congr (l' := (storeP d (p0 + q.no * 8) (cut64 8 (frameOf q))).1.now) (by rw [i3, hlen]; omega) (by rw [hlen]; omega) (fun j h1 h2 => i5 j (fun x hx => far x hx j h1 h2))).trans (by rw [hnow]; exact e)
        · exact i4 q hq
      · rw [i5 j (fun q hq => hj q (by simp [hq])), hnow]
        have := hj p (by simp)
        exact putS_out _ _ _ _ (by rw [hcl]; omega)
theorem redoP_now (p0 : Nat) (d : Dk) (ps : List Pg) : (redoP p0 d ps).now = (redoL p0 d false ps).1.now := by
  unfold redoP
  split
  · exact flush_now _
  · rfl

theorem pgN_frame (no n : Nat) : (frameOf (pgN no n)).length = 512 := frameOf_len (p := pgN no n) (dataZ_len n)
/-- A mix of two frames that has the first one's sum. -/
theorem mix_field {no n no' n' : Nat} (hc : chk no n no' n' = true) (hno : no < 128) (hn : n < 16384) (hno' : no' < 128) (hn' : n' < 16384) {F : List Int} (hF : F.length = 512) (hb : By F)
    (hs : ∀ i, i < 8 → SC F i = SC (frameOf (pgN no n)) i ∨ SC F i = SC (frameOf (pgN no' n')) i) (he : F.drop 508 = (frameOf (pgN no n)).drop 508) : openE F ≠ 0 ∨ F = frameOf (pgN no n) := by
  rcases hs 7 (by decide) with h7 | h7
  · exact mix_frame hc hno hn hno' hn' hF hb h7 hs
  · have e : (frameOf (pgN no' n')).drop 508 = (frameOf (pgN no n)).drop 508 := by
      rw [← he, SC_tail hF, h7, ← SC_tail (pgN_frame no' n')]
    exact absurd e (frame_sums hc hno hn hno' hn')
def ps0 : List Pg := [pgN 0 1, pgN 1 2, pgN 2 3]
def ps1 (a b : Nat) : List Pg := [pgN 0 a, pgN 2 b]
theorem takes0 : takes 3 ps0 := ⟨by decide, fun p hp => by
  simp only [ps0, List.mem_cons, List.not_mem_nil, or_false] at hp
  rcases hp with rfl | rfl | rfl <;> exact pgN_ok (by decide) (by decide), by decide⟩
theorem takes1 {a b : Nat} (ha : a < 266) (hb : b < 266) : takes 3 (ps1 a b) := ⟨by simp [ps1], fun p hp => by
  simp only [ps1, List.mem_cons, List.not_mem_nil, or_false] at hp
  rcases hp with rfl | rfl <;> exact pgN_ok (by decide) (by omega), by simp [ps1, pgN]⟩
/-- The File behind the first Write. -/
structure Old1 (l : List (List Int)) : Prop where
  len : l.length = 104
  pages : ∀ no, no < 3 → secs l (no * 8) 8 = frameOf (pgN no (no + 1))
  jour : ∀ t, t < 25 → l.getD (24 + t) [] = (cut64 25 (jBytes ps0)).getD t []
theorem len0 : ps0.length = 3 := rfl
theorem len1 (a b : Nat) : (ps1 a b).length = 2 := rfl
theorem ps_len {np : Nat} {ps : List Pg} (h : takes np ps) : ∀ p ∈ ps, p.data.length = 480 := fun p hp => (h.2.1 p hp).len
theorem head0 : (cut64 25 (jBytes ps0)).getD 0 [] = headOf (framesOf ps0) := by
  have q := jour_head (ps_len takes0) takes0.1
  rw [len0] at q
  exact q
theorem head1 {a b : Nat} (ha : a < 266) (hb : b < 266) : (cut64 17 (jBytes (ps1 a b))).getD 0 [] = headOf (framesOf (ps1 a b)) := by
  have q := jour_head (ps_len (takes1 ha hb)) (takes1 ha hb).1
  rw [len1] at q
  exact q
/-- The mixed journal. -/
theorem each_mix {l1 l : List (List Int)} {a b : Nat} (ha : 10 ≤ a ∧ a < 266) (hb : 10 ≤ b ∧ b < 266) (ho : Old1 l1) (hs : ∀ s ∈ l, Sec s) (hl : l.length = 104)
    (hm : ∀ j, l.getD j [] = l1.getD j [] ∨ ∃ t, t < 17 ∧ j = 24 + t ∧ l.getD j [] = (cut64 17 (jBytes (ps1 a b))).getD t []) :
    JOk l 24 3 ∧ (notedP l 24 = [] ∨ notedP l 24 = ps0 ∨ notedP l 24 = ps1 a b) := by
  have t0 := takes0
  have t1 := takes1 ha.2 hb.2
  have oldS : ∀ j (hj : j < 3) i, i < 8 → l1.getD (25 + 8 * j + i) [] = SC (frameOf (pgN j (j + 1))) i := fun j hj i hi => by
    have q := jour_sec (ps_len t0) (by decide) (j := j) (i := i) (show j < ps0.length from hj) hi
    rw [show 25 + 8 * j + i = 24 + (1 + 8 * j + i) by omega, ho.jour _ (by omega)]
    refine q.trans ?_
    match j, hj with
    | 0, _ => rfl
    | 1, _ => rfl
    | 2, _ => rfl
  have newS : ∀ t, t < 17 → (cut64 17 (jBytes (ps1 a b))).getD t [] = if t = 0 then headOf (framesOf (ps1 a b)) else if t < 9 then SC (frameOf (pgN 0 a)) (t - 1) else SC (frameOf (pgN 2 b)) (t - 9) := fun t ht => by
    by_cases h0 : t = 0
    · rw [if_pos h0, h0]
      exact head1 ha.2 hb.2
    · rw [if_neg h0]
      by_cases h9 : t < 9
      · rw [if_pos h9]
        have q := jour_sec (ps_len t1) t1.1 (j := 0) (i := t - 1) (show 0 < (ps1 a b).length by simp [ps1]) (by omega)
        rw [show 1 + 8 * 0 + (t - 1) = t by omega] at q
        exact q
      · rw [if_neg h9]
        have q := jour_sec (ps_len t1) t1.1 (j := 1) (i := t - 9) (show 1 < (ps1 a b).length by simp [ps1]) (by omega)
        rw [show 1 + 8 * 1 + (t - 9) = t by omega] at q
        exact q
  have mixS : ∀ j i, j < 3 → i < 8 → l.getD (25 + 8 * j + i) [] = SC (frameOf (pgN j (j + 1))) i ∨ (j = 0 ∧ l.getD (25 + 8 * j + i) [] = SC (frameOf (pgN 0 a)) i) ∨ (j = 1 ∧ l.getD (25 + 8 * j + i) [] = SC (frameOf (pgN 2 b)) i) := fun j i hj hi => by
    rcases hm (25 + 8 * j + i) with h | ⟨t, ht, e, h⟩
    · exact .inl (by rw [h, oldS j hj i hi])
    · rw [newS t ht, if_neg (by omega)] at h
      by_cases h9 : t < 9
      · rw [if_pos h9, show t - 1 = i by omega] at h
        exact .inr (.inl ⟨by omega, h⟩)
      · rw [if_neg h9, show t - 9 = i by omega] at h
        exact .inr (.inr ⟨by omega, h⟩)
  have secF : ∀ j i, j < 3 → i < 8 → SC (secs l (25 + 8 * j) 8) i = l.getD (25 + 8 * j + i) [] := fun j i hj hi => secs_sector hs (by omega) hi
  have lenF : ∀ j, j < 3 → (secs l (25 + 8 * j) 8).length = 512 := fun j hj => by rw [secs_len hs (by omega)]
  have byF : ∀ j, By (secs l (25 + 8 * j) 8) := fun j => secs_by hs
  have mix0 : ∀ i, i < 8 → SC (secs l (25 + 8 * 0) 8) i = SC (frameOf (pgN 0 1)) i ∨ SC (secs l (25 + 8 * 0) 8) i = SC (frameOf (pgN 0 a)) i := fun i hi => by
    rw [secF 0 i (by decide) hi]
    rcases mixS 0 i (by decide) hi with h | ⟨_, h⟩ | ⟨h, _⟩
    · exact .inl h
    · exact .inr h
    · omega
  have mix1 : ∀ i, i < 8 → SC (secs l (25 + 8 * 1) 8) i = SC (frameOf (pgN 1 2)) i ∨ SC (secs l (25 + 8 * 1) 8) i = SC (frameOf (pgN 2 b)) i := fun i hi => by
    rw [secF 1 i (by decide) hi]
    rcases mixS 1 i (by decide) hi with h | ⟨h, _⟩ | ⟨_, h⟩
    · exact .inl h
    · omega
    · exact .inr h
  have all2 : secs l (25 + 8 * 2) 8 = frameOf (pgN 2 3) := by
    refine List.ext_getElem? fun k => ?_
    have hf := pgN_frame 2 3
    by_cases hk : k < 512
    · have e : SC (secs l (25 + 8 * 2) 8) (k / 64) = SC (frameOf (pgN 2 3)) (k / 64) := by
        rw [secF 2 _ (by decide) (by omega)]
        rcases mixS 2 (k / 64) (by decide) (by omega) with h | ⟨h, _⟩ | ⟨h, _⟩
        · exact h
        · omega
        · omega
      have q := congrArg (fun l => l[k % 64]?) e
      unfold SC at q
      rw [List.getElem?_take, if_pos (Nat.mod_lt _ (by decide)), List.getElem?_take, if_pos (Nat.mod_lt _ (by decide)), List.getElem?_drop, List.getElem?_drop, Nat.div_add_mod] at q
      exact q
    · rw [List.getElem?_eq_none (by rw [lenF 2 (by decide)]; omega), List.getElem?_eq_none (by omega)]
  have c1 := chk_first ha.1 ha.2
  have c2 := chk_second hb.1 hb.2
  have swap : ∀ {p q r : Prop}, p ∨ q → q ∨ p := fun h => h.elim .inr .inl
  have h24 : l.getD 24 [] = headOf (framesOf ps0) ∨ l.getD 24 [] = headOf (framesOf (ps1 a b)) := by
    rcases hm 24 with h | ⟨t, ht, e, h⟩
    · left
      have q := ho.jour 0 (by decide)
      rw [Nat.add_zero] at q
      rw [h, q]
      exact head0
    · right
      have : t = 0 := by omega
      subst this
      rw [h]
      exact head1 ha.2 hb.2
  rcases h24 with h | h
  · obtain ⟨j1, j2⟩ := noted_mix (np := 3) hs (by rw [hl]; decide) t0 (by decide) h (fun j hj he => by
      match j, hj with
      | 0, _ => exact mix_field c1 (by decide) (by decide) (by decide) (by omega) (lenF 0 (by decide)) (byF 0) mix0 he
      | 1, _ => exact mix_field c2 (by decide) (by decide) (by decide) (by omega) (lenF 1 (by decide)) (byF 1) mix1 he
      | 2, _ => exact .inr all2)
    exact ⟨j1, j2.imp id .inl⟩
  · obtain ⟨j1, j2⟩ := noted_mix (np := 3) hs (by rw [hl]; simp [ps1]) t1 (by decide) h (fun j hj he => by
      match j, hj with
      | 0, _ => exact mix_field (chk_comm c1) (by decide) (by omega) (by decide) (by decide) (lenF 0 (by decide)) (byF 0) (fun i hi => (mix0 i hi).symm) he
      | 1, _ => exact mix_field (chk_comm c2) (by decide) (by omega) (by decide) (by decide) (lenF 1 (by decide)) (byF 1) (fun i hi => (mix1 i hi).symm) he)
    exact ⟨j1, j2.imp id .inr⟩
end Go.Proofs.YtafopokcfkgjiaaDoor
