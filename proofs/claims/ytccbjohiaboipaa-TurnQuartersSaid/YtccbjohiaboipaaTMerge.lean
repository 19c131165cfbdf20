/-
  Two rows in order made one by turning blocks round (the library's stable sort), as plain maps from places to numbers.
-/
import Derived.Test.YtccbjohiaboipaaQBase
namespace Go.Proofs.Ytccbjohiaboipaa

/-- A comparison that orders. -/
structure OrdC (c : Nat → Nat → Int) : Prop where
  anti : ∀ i k, c k i = -c i k
  trans : ∀ i j k, c i j ≤ 0 → c j k ≤ 0 → c i k ≤ 0
/-- Ahead: by the comparison, of like ones by the number. -/
def Ahd (c : Nat → Nat → Int) (i k : Nat) : Prop := c i k < 0 ∨ (c i k = 0 ∧ i < k)
theorem Ahd.trans {c : Nat → Nat → Int} (hc : OrdC c) {i j k : Nat} (h1 : Ahd c i j) (h2 : Ahd c j k) : Ahd c i k := by
  have t1 := hc.trans i j k
  have t2 := hc.trans j k i
  have t3 := hc.trans k i j
  have a1 := hc.anti i j
  have a2 := hc.anti j k
  have a3 := hc.anti i k
  unfold Ahd at *
  omega
theorem Ahd.irr {c : Nat → Nat → Int} (hc : OrdC c) {i : Nat} (h : Ahd c i i) : False := by
  have a1 := hc.anti i i
  unfold Ahd at h
  omega
theorem ahd_of {c : Nat → Nat → Int} (hc : OrdC c) {i k : Nat} (hik : i < k) (h : ¬ c k i < 0) : Ahd c i k := by
  have a1 := hc.anti i k
  unfold Ahd
  omega
theorem ahd_lt {c : Nat → Nat → Int} {i k : Nat} (h : c k i < 0) : Ahd c k i := .inl h

def upd (f : Nat → Nat) (j x : Nat) : Nat → Nat := fun k => if k = j then x else f k
/-- Two places exchanged. -/
def sw2 (f : Nat → Nat) (i j : Nat) : Nat → Nat := fun k => if k = i then f j else if k = j then f i else f k
/-- Two blocks of n exchanged. -/
def swB (f : Nat → Nat) (p q n : Nat) : Nat → Nat := fun k => if p ≤ k ∧ k < p + n then f (k + (q - p)) else if q ≤ k ∧ k < q + n then f (k - (q - p)) else f k
/-- Two blocks, one behind the other, turned round. -/
def rot (f : Nat → Nat) (a m b : Nat) : Nat → Nat := fun k => if a ≤ k ∧ k < a + (b - m) then f (k + (m - a)) else if a + (b - m) ≤ k ∧ k < b then f (k - (b - m)) else f k

theorem swB_zero (f : Nat → Nat) (p q : Nat) : swB f p q 0 = f := by
  funext k
  unfold swB
  rw [if_neg (by omega), if_neg (by omega)]
theorem swB_at {f : Nat → Nat} {p q n : Nat} (h : p + n < q) : swB f p q n (p + n) = f (p + n) ∧ swB f p q n (q + n) = f (q + n) := by
  unfold swB
  exact ⟨by rw [if_neg (by omega), if_neg (by omega)], by rw [if_neg (by omega), if_neg (by omega)]⟩
theorem swB_succ {f : Nat → Nat} {p q n : Nat} (h : p + n < q) : sw2 (swB f p q n) (p + n) (q + n) = swB f p q (n + 1) := by
  obtain ⟨e1, e2⟩ := swB_at (f := f) h
  funext k
  unfold sw2
  rw [e1, e2]
  unfold swB
  by_cases h1 : k = p + n
  · subst h1
    rw [if_pos rfl, if_pos (by omega)]
    all_goals congr 1
    all_goals omega
  · rw [if_neg h1]
    by_cases h2 : k = q + n
    · subst h2
      rw [if_pos rfl, if_neg (by omega), if_pos (by omega)]
      all_goals congr 1
      all_goals omega
    · rw [if_neg h2]
      by_cases h3 : p ≤ k ∧ k < p + n
      · rw [if_pos h3, if_pos (by omega)]
      · rw [if_neg h3, if_neg (show ¬ (p ≤ k ∧ k < p + (n + 1)) by omega)]
        by_cases h4 : q ≤ k ∧ k < q + n
        · rw [if_pos h4, if_pos (by omega)]
        · rw [if_neg h4, if_neg (by omega)]
theorem rot_left {f : Nat → Nat} {m i j : Nat} (hj : 0 < j) (hij : j < i) (hm : i ≤ m) : rot (swB f (m - i) m j) (m - (i - j)) m (m + j) = rot f (m - i) m (m + j) := by
  funext k
  unfold rot
  by_cases h1 : m - i ≤ k ∧ k < m - i + j
  · rw [if_neg (by omega), if_neg (by omega), if_pos (by omega)]
    unfold swB
    rw [if_pos (by omega)]
    all_goals congr 1
    all_goals omega
  · by_cases h2 : m - (i - j) ≤ k ∧ k < m - (i - j) + j
    · rw [if_pos (by omega), if_neg (by omega), if_pos (by omega)]
      unfold swB
      rw [if_neg (by omega)]
      by_cases h3 : m ≤ k + (m - (m - (i - j)))
      · rw [if_pos (by omega)]
        all_goals congr 1
        all_goals omega
      · rw [if_neg (by omega)]
        all_goals congr 1
        all_goals omega
    · by_cases h4 : m - (i - j) + j ≤ k ∧ k < m + j
      · rw [if_neg (by omega), if_pos (by omega), if_neg (by omega), if_pos (by omega)]
        unfold swB
        rw [if_neg (by omega), if_neg (by omega)]
        all_goals congr 1
        all_goals omega
      · rw [if_neg (by omega), if_neg (by omega), if_neg (by omega), if_neg (by omega)]
        unfold swB
        rw [if_neg (by omega), if_neg (by omega)]
theorem rot_right {f : Nat → Nat} {m i j : Nat} (hi : 0 < i) (hij : i < j) (hm : i ≤ m) : rot (swB f (m - i) (m + j - i) i) (m - i) m (m + (j - i)) = rot f (m - i) m (m + j) := by
  funext k
  unfold rot
  by_cases h1 : m - i ≤ k ∧ k < m - i + (j - i)
  · rw [if_pos (by omega), if_pos (by omega)]
    unfold swB
    rw [if_neg (by omega), if_neg (by omega)]
    all_goals congr 1
    all_goals omega
  · by_cases h2 : m - i + (j - i) ≤ k ∧ k < m + (j - i)
    · rw [if_neg (by omega), if_pos (by omega), if_pos (by omega)]
      unfold swB
      rw [if_pos (by omega)]
      all_goals congr 1
      all_goals omega
    · rw [if_neg (by omega), if_neg (by omega)]
      by_cases h3 : m + (j - i) ≤ k ∧ k < m + j
      · rw [if_neg (by omega), if_pos (by omega)]
        unfold swB
        rw [if_neg (by omega), if_pos (by omega)]
        all_goals congr 1
        all_goals omega
      · rw [if_neg (by omega), if_neg (by omega)]
        unfold swB
        rw [if_neg (by omega), if_neg (by omega)]
theorem rot_same {f : Nat → Nat} {m i : Nat} (hm : i ≤ m) : swB f (m - i) m i = rot f (m - i) m (m + i) := by
  funext k
  unfold rot swB
  rw [show m + i - m = i by omega, show m - i + i = m by omega, show m - (m - i) = i by omega]
theorem rot_none_l {f : Nat → Nat} {m b : Nat} : rot f m m b = f := by
  funext k
  unfold rot
  by_cases h1 : m ≤ k ∧ k < m + (b - m)
  · rw [if_pos h1]
    all_goals congr 1
    all_goals omega
  · rw [if_neg h1]
    rw [if_neg (by omega)]
theorem rot_none_r {f : Nat → Nat} {a m : Nat} : rot f a m m = f := by
  funext k
  unfold rot
  rw [if_neg (by omega)]
  by_cases h1 : a + (m - m) ≤ k ∧ k < m
  · rw [if_pos h1]
    all_goals congr 1
    all_goals omega
  · rw [if_neg h1]
theorem rot_up {f : Nat → Nat} {a k : Nat} (h : a ≤ k) : sw2 (rot f a (a + 1) (k + 1)) k (k + 1) = rot f a (a + 1) (k + 2) := by
  funext t
  unfold sw2 rot
  by_cases h1 : t = k
  · subst h1
    rw [if_pos rfl, if_neg (by omega), if_neg (by omega), if_pos (by omega)]
    all_goals congr 1
    all_goals omega
  · rw [if_neg h1]
    by_cases h2 : t = k + 1
    · subst h2
      rw [if_pos rfl, if_neg (by omega), if_pos (by omega), if_neg (by omega), if_pos (by omega)]
      all_goals congr 1
      all_goals omega
    · rw [if_neg h2]
      by_cases h3 : a ≤ t ∧ t < k
      · rw [if_pos (by omega), if_pos (by omega)]
      · rw [if_neg (by omega), if_neg (by omega), if_neg (by omega), if_neg (by omega)]
theorem rot_down {f : Nat → Nat} {m k : Nat} (h : k + 1 ≤ m) : sw2 (rot f (k + 1) m (m + 1)) (k + 1) k = rot f k m (m + 1) := by
  funext t
  unfold sw2 rot
  by_cases h1 : t = k + 1
  · subst h1
    rw [if_pos rfl, if_neg (by omega), if_neg (by omega), if_neg (by omega), if_pos (by omega)]
    all_goals congr 1
    all_goals omega
  · rw [if_neg h1]
    by_cases h2 : t = k
    · subst h2
      rw [if_pos rfl, if_pos (by omega), if_pos (by omega)]
      all_goals congr 1
      all_goals omega
    · rw [if_neg h2]
      by_cases h3 : k + 1 < t ∧ t < m + 1
      · rw [if_neg (by omega), if_pos (by omega), if_neg (by omega), if_pos (by omega)]
        all_goals congr 1
        all_goals omega
      · rw [if_neg (by omega), if_neg (by omega), if_neg (by omega), if_neg (by omega)]

/-- In order from a to b. -/
def Srt (c : Nat → Nat → Int) (f : Nat → Nat) (a b : Nat) : Prop := ∀ i j, a ≤ i → i < j → j < b → Ahd c (f i) (f j)
/-- Made one: from a to b in order, of the same numbers; elsewhere as it was. -/
structure Mrg (c : Nat → Nat → Int) (f g : Nat → Nat) (a b : Nat) : Prop where
  out : ∀ k, k < a ∨ b ≤ k → g k = f k
  of : ∀ k, a ≤ k → k < b → ∃ t, a ≤ t ∧ t < b ∧ g k = f t
  srt : Srt c g a b
theorem Mrg.refl {c : Nat → Nat → Int} {f : Nat → Nat} {a b : Nat} (h : Srt c f a b) : Mrg c f f a b := ⟨fun _ _ => rfl, fun k h1 h2 => ⟨k, h1, h2, rfl⟩, h⟩
/-- All numbers of the first part are less than those of the second. -/
def Lss (f : Nat → Nat) (a m b : Nat) : Prop := ∀ i j, a ≤ i → i < m → m ≤ j → j < b → f i < f j

theorem rot_of {f : Nat → Nat} {a m b : Nat} (ham : a ≤ m) (hmb : m ≤ b) (k : Nat) (h1 : a ≤ k) (h2 : k < b) : ∃ t, a ≤ t ∧ t < b ∧ rot f a m b k = f t := by
  unfold rot
  by_cases h : k < a + (b - m)
  · exact ⟨k + (m - a), by omega, by omega, by rw [if_pos (by omega)]⟩
  · exact ⟨k - (b - m), by omega, by omega, by rw [if_neg (by omega), if_pos (by omega)]⟩
theorem rot_out {f : Nat → Nat} {a m b : Nat} (_hab : a ≤ b) (ham : a ≤ m) (k : Nat) (h : k < a ∨ b ≤ k) : rot f a m b k = f k := by
  unfold rot
  rw [if_neg (by omega), if_neg (by omega)]
/-- One number put among those behind it. -/
theorem mrg_up {c : Nat → Nat → Int} (hc : OrdC c) {f : Nat → Nat} {a b i : Nat} (hs : Srt c f (a + 1) b) (hi : a + 1 ≤ i) (hib : i ≤ b) (h1 : a + 1 < i → Ahd c (f (i - 1)) (f a)) (h2 : i < b → Ahd c (f a) (f i)) : Mrg c f (rot f a (a + 1) i) a b := by
  refine ⟨fun k hk => rot_out (by omega) (by omega) k (by omega), fun k hk1 hk2 => ?_, fun x y hx hxy hy => ?_⟩
  · by_cases hk : k < i
    · obtain ⟨t, t1, t2, e⟩ := rot_of (f := f) (a := a) (m := a + 1) (b := i) (by omega) (by omega) k hk1 hk
      exact ⟨t, t1, by omega, e⟩
    · exact ⟨k, hk1, hk2, rot_out (by omega) (by omega) k (by omega)⟩
  · have lo : ∀ t, a + 1 ≤ t → t < i → Ahd c (f t) (f a) := fun t g1 g2 => by
      by_cases e : t = i - 1
      · rw [e]; exact h1 (by omega)
      · exact Ahd.trans hc (hs t (i - 1) g1 (by omega) (by omega)) (h1 (by omega))
    have hi' : ∀ t, i ≤ t → t < b → Ahd c (f a) (f t) := fun t g1 g2 => by
      by_cases e : t = i
      · rw [e]; exact h2 (by omega)
      · exact Ahd.trans hc (h2 (by omega)) (hs i t (by omega) (by omega) g2)
    have val : ∀ k, a ≤ k → k < b → rot f a (a + 1) i k = if k + 1 < i then f (k + 1) else if k + 1 = i then f a else f k := fun k g1 g2 => by
      unfold rot
      by_cases e1 : k + 1 < i
      · rw [if_pos (by omega), if_pos e1]
        all_goals congr 1
        all_goals omega
      · rw [if_neg (by omega), if_neg e1]
        by_cases e2 : k + 1 = i
        · rw [if_pos (by omega), if_pos e2]
          all_goals congr 1
          all_goals omega
        · rw [if_neg (by omega), if_neg e2]
    rw [val x hx (by omega), val y (by omega) hy]
    by_cases x1 : x + 1 < i
    · rw [if_pos x1]
      by_cases y1 : y + 1 < i
      · rw [if_pos y1]
        exact hs _ _ (by omega) (by omega) (by omega)
      · rw [if_neg y1]
        by_cases y2 : y + 1 = i
        · rw [if_pos y2]
          exact lo _ (by omega) x1
        · rw [if_neg y2]
          exact hs _ _ (by omega) (by omega) hy
    · rw [if_neg x1, if_neg (show ¬ y + 1 < i by omega), if_neg (show ¬ y + 1 = i by omega)]
      by_cases x2 : x + 1 = i
      · rw [if_pos x2]
        exact hi' y (by omega) hy
      · rw [if_neg x2]
        exact hs _ _ (by omega) hxy hy
/-- One number put among those ahead of it. -/
theorem mrg_down {c : Nat → Nat → Int} (hc : OrdC c) {f : Nat → Nat} {a m i : Nat} (hs : Srt c f a m) (hi : a ≤ i) (him : i ≤ m) (h1 : a < i → Ahd c (f (i - 1)) (f m)) (h2 : i < m → Ahd c (f m) (f i)) : Mrg c f (rot f i m (m + 1)) a (m + 1) := by
  refine ⟨fun k hk => rot_out (by omega) (by omega) k (by omega), fun k hk1 hk2 => ?_, fun x y hx hxy hy => ?_⟩
  · by_cases hk : i ≤ k
    · obtain ⟨t, t1, t2, e⟩ := rot_of (f := f) (a := i) (m := m) (b := m + 1) (by omega) (by omega) k hk hk2
      exact ⟨t, by omega, t2, e⟩
    · exact ⟨k, hk1, hk2, rot_out (by omega) (by omega) k (by omega)⟩
  · have lo : ∀ t, a ≤ t → t < i → Ahd c (f t) (f m) := fun t g1 g2 => by
      by_cases e : t = i - 1
      · rw [e]; exact h1 (by omega)
      · exact Ahd.trans hc (hs t (i - 1) g1 (by omega) (by omega)) (h1 (by omega))
    have hi' : ∀ t, i ≤ t → t < m → Ahd c (f m) (f t) := fun t g1 g2 => by
      by_cases e : t = i
      · rw [e]; exact h2 (by omega)
      · exact Ahd.trans hc (h2 (by omega)) (hs i t (by omega) (by omega) g2)
    have val : ∀ k, a ≤ k → k < m + 1 → rot f i m (m + 1) k = if k < i then f k else if k = i then f m else f (k - 1) := fun k g1 g2 => by
      unfold rot
      by_cases e1 : k < i
      · rw [if_neg (by omega), if_neg (by omega), if_pos e1]
      · rw [if_neg e1]
        by_cases e2 : k = i
        · rw [if_pos (by omega), if_pos e2]
          all_goals congr 1
          all_goals omega
        · rw [if_neg (by omega), if_pos (by omega), if_neg e2]
          all_goals congr 1
          all_goals omega
    rw [val x hx (by omega), val y (by omega) hy]
    by_cases x1 : x < i
    · rw [if_pos x1]
      by_cases y1 : y < i
      · rw [if_pos y1]
        exact hs _ _ hx hxy (by omega)
      · rw [if_neg y1]
        by_cases y2 : y = i
        · rw [if_pos y2]
          exact lo _ hx x1
        · rw [if_neg y2]
          exact hs _ _ hx (by omega) (by omega)
    · rw [if_neg x1, if_neg (show ¬ y < i by omega), if_neg (show ¬ y = i by omega)]
      by_cases x2 : x = i
      · rw [if_pos x2]
        exact hi' (y - 1) (by omega) (by omega)
      · rw [if_neg x2]
        exact hs _ _ (by omega) (by omega) (by omega)

/-- What the two halves are, behind the turning round of the midst. -/
structure Halves (c : Nat → Nat → Int) (g : Nat → Nat) (a s d e b : Nat) : Prop where
  l1 : Srt c g a s
  l2 : Srt c g s d
  r1 : Srt c g d e
  r2 : Srt c g e b
  ll : Lss g a s d
  rl : Lss g d e b
  lr : ∀ i j, a ≤ i → i < d → d ≤ j → j < b → Ahd c (g i) (g j)
theorem halves {c : Nat → Nat → Int} (hc : OrdC c) {f : Nat → Nat} {a m b d s : Nat} (_ham : a ≤ m) (_hmb : m ≤ b) (_hd : a ≤ d) (_hdb : d ≤ b) (hsa : a ≤ s) (hsm : s ≤ m) (hsd : s ≤ d) (he : m ≤ d + m - s) (heb : d + m - s ≤ b)
    (hl : Srt c f a m) (hr : Srt c f m b) (hlr : Lss f a m b) (h1 : a < s → d + m - s < b → Ahd c (f (s - 1)) (f (d + m - s))) (h2 : s < m → s < d → Ahd c (f (d + m - s - 1)) (f s)) : Halves c (rot f s m (d + m - s)) a s d (d + m - s) b := by
  obtain ⟨e, hE⟩ : ∃ e, d + m - s = e := ⟨_, rfl⟩
  rw [hE] at he heb h1 h2 ⊢
  have v1 : ∀ k, k < s → rot f s m e k = f k := fun k h => rot_out (by omega) hsm k (.inl h)
  have v2 : ∀ k, s ≤ k → k < d → rot f s m e k = f (k + (m - s)) := fun k g1 g2 => by
    unfold rot
    rw [if_pos (by omega)]
  have v3 : ∀ k, d ≤ k → k < e → rot f s m e k = f (k - (e - m)) := fun k g1 g2 => by
    unfold rot
    rw [if_neg (by omega), if_pos (by omega)]
  have v4 : ∀ k, e ≤ k → rot f s m e k = f k := fun k h => rot_out (by omega) hsm k (.inr h)
  have L : ∀ i j, a ≤ i → i < s → e ≤ j → j < b → Ahd c (f i) (f j) := fun i j g1 g2 g3 g4 => by
    have k0 := h1 (by omega) (by omega)
    have k1 : i = s - 1 ∨ Ahd c (f i) (f (s - 1)) := by
      by_cases q : i = s - 1
      · exact .inl q
      · exact .inr (hl i (s - 1) g1 (by omega) (by omega))
    have k2 : j = e ∨ Ahd c (f e) (f j) := by
      by_cases q : j = e
      · exact .inl q
      · exact .inr (hr e j (by omega) (by omega) g4)
    rcases k1 with rfl | k1
    · rcases k2 with rfl | k2
      · exact k0
      · exact Ahd.trans hc k0 k2
    · rcases k2 with rfl | k2
      · exact Ahd.trans hc k1 k0
      · exact Ahd.trans hc k1 (Ahd.trans hc k0 k2)
  have R : ∀ i j, m ≤ i → i < e → s ≤ j → j < m → Ahd c (f i) (f j) := fun i j g1 g2 g3 g4 => by
    have k0 := h2 (by omega) (by omega)
    have k1 : i = e - 1 ∨ Ahd c (f i) (f (e - 1)) := by
      by_cases q : i = e - 1
      · exact .inl q
      · exact .inr (hr i (e - 1) g1 (by omega) (by omega))
    have k2 : j = s ∨ Ahd c (f s) (f j) := by
      by_cases q : j = s
      · exact .inl q
      · exact .inr (hl s j (by omega) (by omega) g4)
    rcases k1 with rfl | k1
    · rcases k2 with rfl | k2
      · exact k0
      · exact Ahd.trans hc k0 k2
    · rcases k2 with rfl | k2
      · exact Ahd.trans hc k1 k0
      · exact Ahd.trans hc k1 (Ahd.trans hc k0 k2)
  refine ⟨fun i j g1 g2 g3 => ?_, fun i j g1 g2 g3 => ?_, fun i j g1 g2 g3 => ?_, fun i j g1 g2 g3 => ?_, fun i j g1 g2 g3 g4 => ?_, fun i j g1 g2 g3 g4 => ?_, fun i j g1 g2 g3 g4 => ?_⟩
  · rw [v1 i (by omega), v1 j g3]
    exact hl _ _ g1 g2 (by omega)
  · rw [v2 i g1 (by omega), v2 j (by omega) g3]
    exact hr _ _ (by omega) (by omega) (by omega)
  · rw [v3 i g1 (by omega), v3 j (by omega) g3]
    exact hl _ _ (by omega) (by omega) (by omega)
  · rw [v4 i g1, v4 j (by omega)]
    exact hr _ _ (by omega) g2 g3
  · rw [v1 i g2, v2 j g3 g4]
    exact hlr _ _ g1 (by omega) (by omega) (by omega)
  · rw [v3 i g1 g2, v4 j g3]
    exact hlr _ _ (by omega) (by omega) (by omega) g4
  · by_cases i1 : i < s
    · rw [v1 i i1]
      by_cases j1 : j < e
      · rw [v3 j g3 j1]
        exact hl _ _ g1 (by omega) (by omega)
      · rw [v4 j (by omega)]
        exact L _ _ g1 i1 (by omega) g4
    · rw [v2 i (by omega) g2]
      by_cases j1 : j < e
      · rw [v3 j g3 j1]
        exact R _ _ (by omega) (by omega) (by omega) (by omega)
      · rw [v4 j (by omega)]
        exact hr _ _ (by omega) (by omega) g4
/-- Both halves made one, one behind the other. -/
theorem mrg_both {c : Nat → Nat → Int} {f g h k : Nat → Nat} {a d b : Nat} (had : a ≤ d) (hdb : d ≤ b) (hg : (∀ t, t < a ∨ b ≤ t → g t = f t) ∧ ∀ t, a ≤ t → t < b → ∃ u, a ≤ u ∧ u < b ∧ g t = f u)
    (hlr : ∀ i j, a ≤ i → i < d → d ≤ j → j < b → Ahd c (g i) (g j)) (m1 : Mrg c g h a d) (m2 : Mrg c h k d b) : Mrg c f k a b := by
  have e1 : ∀ t, a ≤ t → t < d → ∃ u, a ≤ u ∧ u < d ∧ k t = g u := fun t g1 g2 => by
    rw [m2.out t (.inl g2)]
    exact m1.of t g1 g2
  have e2 : ∀ t, d ≤ t → t < b → ∃ u, d ≤ u ∧ u < b ∧ k t = g u := fun t g1 g2 => by
    obtain ⟨u, u1, u2, e⟩ := m2.of t g1 g2
    exact ⟨u, u1, u2, by rw [e, m1.out u (.inr u1)]⟩
  refine ⟨fun t ht => ?_, fun t g1 g2 => ?_, fun i j g1 g2 g3 => ?_⟩
  · rw [m2.out t (by omega), m1.out t (by omega), hg.1 t ht]
  · by_cases hd : t < d
    · obtain ⟨u, u1, u2, e⟩ := e1 t g1 hd
      obtain ⟨v, v1, v2, e'⟩ := hg.2 u u1 (by omega)
      exact ⟨v, v1, v2, by rw [e, e']⟩
    · obtain ⟨u, u1, u2, e⟩ := e2 t (by omega) g2
      obtain ⟨v, v1, v2, e'⟩ := hg.2 u (by omega) u2
      exact ⟨v, v1, v2, by rw [e, e']⟩
  · by_cases hj : j < d
    · rw [m2.out i (by omega), m2.out j (.inl hj)]
      exact m1.srt i j g1 g2 hj
    · by_cases hi : i < d
      · obtain ⟨u, u1, u2, e⟩ := e1 i g1 hi
        obtain ⟨v, v1, v2, e'⟩ := e2 j (by omega) g3
        rw [e, e']
        exact hlr u v u1 u2 v1 v2
      · exact m2.srt i j (by omega) g2 g3
end Go.Proofs.Ytccbjohiaboipaa
