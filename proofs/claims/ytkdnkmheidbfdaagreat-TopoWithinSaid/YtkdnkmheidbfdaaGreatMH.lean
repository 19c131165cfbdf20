/-
  Two rows in order made one by turning blocks round (the library's stable sort), as plain maps from places to numbers.
-/
import Derived.Test.YtkdnkmheidbfdaaGreatM9
import Derived.Test.YtkdnkmheidbfdaaGreatMG
import Derived.BigRegion
import Derived.RangeFuncNested
import Derived.RangeFuncBound
import Derived.RangeFuncCalls
import Derived.RangeFuncLeaves
import Derived.RangeFuncBox
import Derived.Shelf.Abstract
import Derived.Shelf.RegionOpen
import Derived.OwnWalkIn
import Derived.TacticsInMore
import Derived.LoopNIn
import Derived.LoopIn
import Derived.Shelf.SlSortCmp.NoneTotal
namespace Go.Proofs.YtkdnkmheidbfdaaGreat

/-- A comparison that orders. -/
structure OrdC (c : Nat → Nat → Int) : Prop where
  anti : ∀ i k, c k i = -c i k
  trans : ∀ i j k, c i j ≤ 0 → c j k ≤ 0 → c i k ≤ 0
/-- Ahead: by the comparison, of like ones by the number. -/
def Ahd (c : Nat → Nat → Int) (i k : Nat) : Prop := c i k < 0 ∨ (c i k = 0 ∧ i < k)
theorem Ahd.trans {c : Nat → Nat → Int} (hc : OrdC c) {i j k : Nat} (h1 : Ahd c i j) (h2 : Ahd c j k) : Ahd c i k := by
  have t1 := hc.trans i j k
  have t2 := hc.trans j k i
  have t3 := hc.trans k i j
  have a1 := hc.anti i j
  have a2 := hc.anti j k
  have a3 := hc.anti i k
  unfold Ahd at *
  omega
theorem Ahd.irr {c : Nat → Nat → Int} (hc : OrdC c) {i : Nat} (h : Ahd c i i) : False := by
  have a1 := hc.anti i i
  unfold Ahd at h
  omega
theorem ahd_of {c : Nat → Nat → Int} (hc : OrdC c) {i k : Nat} (hik : i < k) (h : ¬ c k i < 0) : Ahd c i k := by
  have a1 := hc.anti i k
  unfold Ahd
  omega
theorem ahd_lt {c : Nat → Nat → Int} {i k : Nat} (h : c k i < 0) : Ahd c k i := .inl h

def upd (f : Nat → Nat) (j x : Nat) : Nat → Nat := fun k => if k = j then x else f k
/-- Two places exchanged. -/
def sw2 (f : Nat → Nat) (i j : Nat) : Nat → Nat := fun k => if k = i then f j else if k = j then f i else f k
/-- Two blocks of n exchanged. -/
def swB (f : Nat → Nat) (p q n : Nat) : Nat → Nat := fun k => if p ≤ k ∧ k < p + n then f (k + (q - p)) else if q ≤ k ∧ k < q + n then f (k - (q - p)) else f k
/-- Two blocks, one behind the other, turned round. -/
def rot (f : Nat → Nat) (a m b : Nat) : Nat → Nat := fun k => if a ≤ k ∧ k < a + (b - m) then f (k + (m - a)) else if a + (b - m) ≤ k ∧ k < b then f (k - (b - m)) else f k

theorem swB_zero (f : Nat → Nat) (p q : Nat) : swB f p q 0 = f := by
  funext k
  unfold swB
  rw [if_neg (by omega), if_neg (by omega)]
theorem swB_at {f : Nat → Nat} {p q n : Nat} (h : p + n < q) : swB f p q n (p + n) = f (p + n) ∧ swB f p q n (q + n) = f (q + n) := by
  unfold swB
  exact ⟨by rw [if_neg (by omega), if_neg (by omega)], by rw [if_neg (by omega), if_neg (by omega)]⟩
theorem swB_succ {f : Nat → Nat} {p q n : Nat} (h : p + n < q) : sw2 (swB f p q n) (p + n) (q + n) = swB f p q (n + 1) := by
  obtain ⟨e1, e2⟩ := swB_at (f := f) h
  funext k
  unfold sw2
  rw [e1, e2]
  unfold swB
  by_cases h1 : k = p + n
  · subst h1
    rw [if_pos rfl, if_pos (by omega)]
    all_goals congr 1
    all_goals omega
  · rw [if_neg h1]
    by_cases h2 : k = q + n
    · subst h2
      rw [if_pos rfl, if_neg (by omega), if_pos (by omega)]
      all_goals congr 1
      all_goals omega
    · rw [if_neg h2]
      by_cases h3 : p ≤ k ∧ k < p + n
      · rw [if_pos h3, if_pos (by omega)]
      · rw [if_neg h3, if_neg (show ¬ (p ≤ k ∧ k < p + (n + 1)) by omega)]
        by_cases h4 : q ≤ k ∧ k < q + n
        · rw [if_pos h4, if_pos (by omega)]
        · rw [if_neg h4, if_neg (by omega)]
theorem rot_left {f : Nat → Nat} {m i j : Nat} (hj : 0 < j) (hij : j < i) (hm : i ≤ m) : rot (swB f (m - i) m j) (m - (i - j)) m (m + j) = rot f (m - i) m (m + j) := by
  funext k
  unfold rot
  by_cases h1 : m - i ≤ k ∧ k < m - i + j
  · rw [if_neg (by omega), if_neg (by omega), if_pos (by omega)]
    unfold swB
    rw [if_pos (by omega)]
    all_goals congr 1
    all_goals omega
  · by_cases h2 : m - (i - j) ≤ k ∧ k < m - (i - j) + j
    · rw [if_pos (by omega), if_neg (by omega), if_pos (by omega)]
      unfold swB
      rw [if_neg (by omega)]
      by_cases h3 : m ≤ k + (m - (m - (i - j)))
      · rw [if_pos (by omega)]
        all_goals congr 1
        all_goals omega
      · rw [if_neg (by omega)]
        all_goals congr 1
        all_goals omega
    · by_cases h4 : m - (i - j) + j ≤ k ∧ k < m + j
      · rw [if_neg (by omega), if_pos (by omega), if_neg (by omega), if_pos (by omega)]
        unfold swB
        rw [if_neg (by omega), if_neg (by omega)]
        all_goals congr 1
        all_goals omega
      · rw [if_neg (by omega), if_neg (by omega), if_neg (by omega), if_neg (by omega)]
        unfold swB
        rw [if_neg (by omega), if_neg (by omega)]
theorem rot_right {f : Nat → Nat} {m i j : Nat} (hi : 0 < i) (hij : i < j) (hm : i ≤ m) : rot (swB f (m - i) (m + j - i) i) (m - i) m (m + (j - i)) = rot f (m - i) m (m + j) := by
  funext k
  unfold rot
  by_cases h1 : m - i ≤ k ∧ k < m - i + (j - i)
  · rw [if_pos (by omega), if_pos (by omega)]
    unfold swB
    rw [if_neg (by omega), if_neg (by omega)]
    all_goals congr 1
    all_goals omega
  · by_cases h2 : m - i + (j - i) ≤ k ∧ k < m + (j - i)
    · rw [if_neg (by omega), if_pos (by omega), if_pos (by omega)]
      unfold swB
      rw [if_pos (by omega)]
      all_goals congr 1
      all_goals omega
    · rw [if_neg (by omega), if_neg (by omega)]
      by_cases h3 : m + (j - i) ≤ k ∧ k < m + j
      · rw [if_neg (by omega), if_pos (by omega)]
        unfold swB
        rw [if_neg (by omega), if_pos (by omega)]
        all_goals congr 1
        all_goals omega
      · rw [if_neg (by omega), if_neg (by omega)]
        unfold swB
        rw [if_neg (by omega), if_neg (by omega)]
theorem rot_same {f : Nat → Nat} {m i : Nat} (hm : i ≤ m) : swB f (m - i) m i = rot f (m - i) m (m + i) := by
  funext k
  unfold rot swB
  rw [show m + i - m = i by omega, show m - i + i = m by omega, show m - (m - i) = i by omega]
theorem rot_none_l {f : Nat → Nat} {m b : Nat} : rot f m m b = f := by
  funext k
  unfold rot
  by_cases h1 : m ≤ k ∧ k < m + (b - m)
  · rw [if_pos h1]
    all_goals congr 1
    all_goals omega
  · rw [if_neg h1]
    rw [if_neg (by omega)]
theorem rot_none_r {f : Nat → Nat} {a m : Nat} : rot f a m m = f := by
  funext k
  unfold rot
  rw [if_neg (by omega)]
  by_cases h1 : a + (m - m) ≤ k ∧ k < m
  · rw [if_pos h1]
    all_goals congr 1
    all_goals omega
  · rw [if_neg h1]
theorem rot_up {f : Nat → Nat} {a k : Nat} (h : a ≤ k) : sw2 (rot f a (a + 1) (k + 1)) k (k + 1) = rot f a (a + 1) (k + 2) := by
  funext t
  unfold sw2 rot
  by_cases h1 : t = k
  · subst h1
    rw [if_pos rfl, if_neg (by omega), if_neg (by omega), if_pos (by omega)]
    all_goals congr 1
    all_goals omega
  · rw [if_neg h1]
    by_cases h2 : t = k + 1
    · subst h2
      rw [if_pos rfl, if_neg (by omega), if_pos (by omega), if_neg (by omega), if_pos (by omega)]
      all_goals congr 1
      all_goals omega
    · rw [if_neg h2]
      by_cases h3 : a ≤ t ∧ t < k
      · rw [if_pos (by omega), if_pos (by omega)]
      · rw [if_neg (by omega), if_neg (by omega), if_neg (by omega), if_neg (by omega)]
theorem rot_down {f : Nat → Nat} {m k : Nat} (h : k + 1 ≤ m) : sw2 (rot f (k + 1) m (m + 1)) (k + 1) k = rot f k m (m + 1) := by
  funext t
  unfold sw2 rot
  by_cases h1 : t = k + 1
  · subst h1
    rw [if_pos rfl, if_neg (by omega), if_neg (by omega), if_neg (by omega), if_pos (by omega)]
    all_goals congr 1
    all_goals omega
  · rw [if_neg h1]
    by_cases h2 : t = k
    · subst h2
      rw [if_pos rfl, if_pos (by omega), if_pos (by omega)]
      all_goals congr 1
      all_goals omega
    · rw [if_neg h2]
      by_cases h3 : k + 1 < t ∧ t < m + 1
      · rw [if_neg (by omega), if_pos (by omega), if_neg (by omega), if_pos (by omega)]
        all_goals congr 1
        all_goals omega
      · rw [if_neg (by omega), if_neg (by omega), if_neg (by omega), if_neg (by omega)]

/-- In order from a to b. -/
def Srt (c : Nat → Nat → Int) (f : Nat → Nat) (a b : Nat) : Prop := ∀ i j, a ≤ i → i < j → j < b → Ahd c (f i) (f j)
/-- Made one: from a to b in order, of the same numbers; elsewhere as it was. -/
structure Mrg (c : Nat → Nat → Int) (f g : Nat → Nat) (a b : Nat) : Prop where
  out : ∀ k, k < a ∨ b ≤ k → g k = f k
  of : ∀ k, a ≤ k → k < b → ∃ t, a ≤ t ∧ t < b ∧ g k = f t
  srt : Srt c g a b
theorem Mrg.refl {c : Nat → Nat → Int} {f : Nat → Nat} {a b : Nat} (h : Srt c f a b) : Mrg c f f a b := ⟨fun _ _ => rfl, fun k h1 h2 => ⟨k, h1, h2, rfl⟩, h⟩
/-- All numbers of the first part are less than those of the second. -/
def Lss (f : Nat → Nat) (a m b : Nat) : Prop := ∀ i j, a ≤ i → i < m → m ≤ j → j < b → f i < f j

theorem rot_of {f : Nat → Nat} {a m b : Nat} (ham : a ≤ m) (hmb : m ≤ b) (k : Nat) (h1 : a ≤ k) (h2 : k < b) : ∃ t, a ≤ t ∧ t < b ∧ rot f a m b k = f t := by
  unfold rot
  by_cases h : k < a + (b - m)
  · exact ⟨k + (m - a), by omega, by omega, by rw [if_pos (by omega)]⟩
  · exact ⟨k - (b - m), by omega, by omega, by rw [if_neg (by omega), if_pos (by omega)]⟩
theorem rot_out {f : Nat → Nat} {a m b : Nat} (_hab : a ≤ b) (ham : a ≤ m) (k : Nat) (h : k < a ∨ b ≤ k) : rot f a m b k = f k := by
  unfold rot
  rw [if_neg (by omega), if_neg (by omega)]
/-- One number put among those behind it. -/
theorem mrg_up {c : Nat → Nat → Int} (hc : OrdC c) {f : Nat → Nat} {a b i : Nat} (hs : Srt c f (a + 1) b) (hi : a + 1 ≤ i) (hib : i ≤ b) (h1 : a + 1 < i → Ahd c (f (i - 1)) (f a)) (h2 : i < b → Ahd c (f a) (f i)) : Mrg c f (rot f a (a + 1) i) a b := by
  refine ⟨fun k hk => rot_out (by omega) (by omega) k (by omega), fun k hk1 hk2 => ?_, fun x y hx hxy hy => ?_⟩
  · by_cases hk : k < i
    · obtain ⟨t, t1, t2, e⟩ := rot_of (f := f) (a := a) (m := a + 1) (b := i) (by omega) (by omega) k hk1 hk
      exact ⟨t, t1, by omega, e⟩
    · exact ⟨k, hk1, hk2, rot_out (by omega) (by omega) k (by omega)⟩
  · have lo : ∀ t, a + 1 ≤ t → t < i → Ahd c (f t) (f a) := fun t g1 g2 => by
      by_cases e : t = i - 1
      · rw [e]; exact h1 (by omega)
      · exact Ahd.trans hc (hs t (i - 1) g1 (by omega) (by omega)) (h1 (by omega))
    have hi' : ∀ t, i ≤ t → t < b → Ahd c (f a) (f t) := fun t g1 g2 => by
      by_cases e : t = i
      · rw [e]; exact h2 (by omega)
      · exact Ahd.trans hc (h2 (by omega)) (hs i t (by omega) (by omega) g2)
    have val : ∀ k, a ≤ k → k < b → rot f a (a + 1) i k = if k + 1 < i then f (k + 1) else if k + 1 = i then f a else f k := fun k g1 g2 => by
      unfold rot
      by_cases e1 : k + 1 < i
      · rw [if_pos (by omega), if_pos e1]
        all_goals congr 1
        all_goals omega
      · rw [if_neg (by omega), if_neg e1]
        by_cases e2 : k + 1 = i
        · rw [if_pos (by omega), if_pos e2]
          all_goals congr 1
          all_goals omega
        · rw [if_neg (by omega), if_neg e2]
    rw [val x hx (by omega), val y (by omega) hy]
    by_cases x1 : x + 1 < i
    · rw [if_pos x1]
      by_cases y1 : y + 1 < i
      · rw [if_pos y1]
        exact hs _ _ (by omega) (by omega) (by omega)
      · rw [if_neg y1]
        by_cases y2 : y + 1 = i
        · rw [if_pos y2]
          exact lo _ (by omega) x1
        · rw [if_neg y2]
          exact hs _ _ (by omega) (by omega) hy
    · rw [if_neg x1, if_neg (show ¬ y + 1 < i by omega), if_neg (show ¬ y + 1 = i by omega)]
      by_cases x2 : x + 1 = i
      · rw [if_pos x2]
        exact hi' y (by omega) hy
      · rw [if_neg x2]
        exact hs _ _ (by omega) hxy hy
/-- One number put among those ahead of it. -/
theorem mrg_down {c : Nat → Nat → Int} (hc : OrdC c) {f : Nat → Nat} {a m i : Nat} (hs : Srt c f a m) (hi : a ≤ i) (him : i ≤ m) (h1 : a < i → Ahd c (f (i - 1)) (f m)) (h2 : i < m → Ahd c (f m) (f i)) : Mrg c f (rot f i m (m + 1)) a (m + 1) := by
  refine ⟨fun k hk => rot_out (by omega) (by omega) k (by omega), fun k hk1 hk2 => ?_, fun x y hx hxy hy => ?_⟩
  · by_cases hk : i ≤ k
    · obtain ⟨t, t1, t2, e⟩ := rot_of (f := f) (a := i) (m := m) (b := m + 1) (by omega) (by omega) k hk hk2
      exact ⟨t, by omega, t2, e⟩
    · exact ⟨k, hk1, hk2, rot_out (by omega) (by omega) k (by omega)⟩
  · have lo : ∀ t, a ≤ t → t < i → Ahd c (f t) (f m) := fun t g1 g2 => by
      by_cases e : t = i - 1
      · rw [e]; exact h1 (by omega)
      · exact Ahd.trans hc (hs t (i - 1) g1 (by omega) (by omega)) (h1 (by omega))
    have hi' : ∀ t, i ≤ t → t < m → Ahd c (f m) (f t) := fun t g1 g2 => by
      by_cases e : t = i
      · rw [e]; exact h2 (by omega)
      · exact Ahd.trans hc (h2 (by omega)) (hs i t (by omega) (by omega) g2)
    have val : ∀ k, a ≤ k → k < m + 1 → rot f i m (m + 1) k = if k < i then f k else if k = i then f m else f (k - 1) := fun k g1 g2 => by
      unfold rot
      by_cases e1 : k < i
      · rw [if_neg (by omega), if_neg (by omega), if_pos e1]
      · rw [if_neg e1]
        by_cases e2 : k = i
        · rw [if_pos (by omega), if_pos e2]
          all_goals congr 1
          all_goals omega
        · rw [if_neg (by omega), if_pos (by omega), if_neg e2]
          all_goals congr 1
          all_goals omega
    rw [val x hx (by omega), val y (by omega) hy]
    by_cases x1 : x < i
    · rw [if_pos x1]
      by_cases y1 : y < i
      · rw [if_pos y1]
        exact hs _ _ hx hxy (by omega)
      · rw [if_neg y1]
        by_cases y2 : y = i
        · rw [if_pos y2]
          exact lo _ hx x1
        · rw [if_neg y2]
          exact hs _ _ hx (by omega) (by omega)
    · rw [if_neg x1, if_neg (show ¬ y < i by omega), if_neg (show ¬ y = i by omega)]
      by_cases x2 : x = i
      · rw [if_pos x2]
        exact hi' (y - 1) (by omega) (by omega)
      · rw [if_neg x2]
        exact hs _ _ (by omega) (by omega) (by omega)

/-- What the two halves are, behind the turning round of the midst. -/
structure Halves (c : Nat → Nat → Int) (g : Nat → Nat) (a s d e b : Nat) : Prop where
  l1 : Srt c g a s
  l2 : Srt c g s d
  r1 : Srt c g d e
  r2 : Srt c g e b
  ll : Lss g a s d
  rl : Lss g d e b
  lr : ∀ i j, a ≤ i → i < d → d ≤ j → j < b → Ahd c (g i) (g j)
theorem halves {c : Nat → Nat → Int} (hc : OrdC c) {f : Nat → Nat} {a m b d s : Nat} (_ham : a ≤ m) (_hmb : m ≤ b) (_hd : a ≤ d) (_hdb : d ≤ b) (hsa : a ≤ s) (hsm : s ≤ m) (hsd : s ≤ d) (he : m ≤ d + m - s) (heb : d + m - s ≤ b)
    (hl : Srt c f a m) (hr : Srt c f m b) (hlr : Lss f a m b) (h1 : a < s → d + m - s < b → Ahd c (f (s - 1)) (f (d + m - s))) (h2 : s < m → s < d → Ahd c (f (d + m - s - 1)) (f s)) : Halves c (rot f s m (d + m - s)) a s d (d + m - s) b := by
  obtain ⟨e, hE⟩ : ∃ e, d + m - s = e := ⟨_, rfl⟩
  rw [hE] at he heb h1 h2 ⊢
  have v1 : ∀ k, k < s → rot f s m e k = f k := fun k h => rot_out (by omega) hsm k (.inl h)
  have v2 : ∀ k, s ≤ k → k < d → rot f s m e k = f (k + (m - s)) := fun k g1 g2 => by
    unfold rot
    rw [if_pos (by omega)]
  have v3 : ∀ k, d ≤ k → k < e → rot f s m e k = f (k - (e - m)) := fun k g1 g2 => by
    unfold rot
    rw [if_neg (by omega), if_pos (by omega)]
  have v4 : ∀ k, e ≤ k → rot f s m e k = f k := fun k h => rot_out (by omega) hsm k (.inr h)
  have L : ∀ i j, a ≤ i → i < s → e ≤ j → j < b → Ahd c (f i) (f j) := fun i j g1 g2 g3 g4 => by
    have k0 := h1 (by omega) (by omega)
    have k1 : i = s - 1 ∨ Ahd c (f i) (f (s - 1)) := by
      by_cases q : i = s - 1
      · exact .inl q
      · exact .inr (hl i (s - 1) g1 (by omega) (by omega))
    have k2 : j = e ∨ Ahd c (f e) (f j) := by
      by_cases q : j = e
      · exact .inl q
      · exact .inr (hr e j (by omega) (by omega) g4)
    rcases k1 with rfl | k1
    · rcases k2 with rfl | k2
      · exact k0
      · exact Ahd.trans hc k0 k2
    · rcases k2 with rfl | k2
      · exact Ahd.trans hc k1 k0
      · exact Ahd.trans hc k1 (Ahd.trans hc k0 k2)
  have R : ∀ i j, m ≤ i → i < e → s ≤ j → j < m → Ahd c (f i) (f j) := fun i j g1 g2 g3 g4 => by
    have k0 := h2 (by omega) (by omega)
    have k1 : i = e - 1 ∨ Ahd c (f i) (f (e - 1)) := by
      by_cases q : i = e - 1
      · exact .inl q
      · exact .inr (hr i (e - 1) g1 (by omega) (by omega))
    have k2 : j = s ∨ Ahd c (f s) (f j) := by
      by_cases q : j = s
      · exact .inl q
      · exact .inr (hl s j (by omega) (by omega) g4)
    rcases k1 with rfl | k1
    · rcases k2 with rfl | k2
      · exact k0
      · exact Ahd.trans hc k0 k2
    · rcases k2 with rfl | k2
      · exact Ahd.trans hc k1 k0
      · exact Ahd.trans hc k1 (Ahd.trans hc k0 k2)
  refine ⟨fun i j g1 g2 g3 => ?_, fun i j g1 g2 g3 => ?_, fun i j g1 g2 g3 => ?_, fun i j g1 g2 g3 => ?_, fun i j g1 g2 g3 g4 => ?_, fun i j g1 g2 g3 g4 => ?_, fun i j g1 g2 g3 g4 => ?_⟩
  · rw [v1 i (by omega), v1 j g3]
    exact hl _ _ g1 g2 (by omega)
  · rw [v2 i g1 (by omega), v2 j (by omega) g3]
    exact hr _ _ (by omega) (by omega) (by omega)
  · rw [v3 i g1 (by omega), v3 j (by omega) g3]
    exact hl _ _ (by omega) (by omega) (by omega)
  · rw [v4 i g1, v4 j (by omega)]
    exact hr _ _ (by omega) g2 g3
  · rw [v1 i g2, v2 j g3 g4]
    exact hlr _ _ g1 (by omega) (by omega) (by omega)
  · rw [v3 i g1 g2, v4 j g3]
    exact hlr _ _ (by omega) (by omega) (by omega) g4
  · by_cases i1 : i < s
    · rw [v1 i i1]
      by_cases j1 : j < e
      · rw [v3 j g3 j1]
        exact hl _ _ g1 (by omega) (by omega)
      · rw [v4 j (by omega)]
        exact L _ _ g1 i1 (by omega) g4
    · rw [v2 i (by omega) g2]
      by_cases j1 : j < e
      · rw [v3 j g3 j1]
        exact R _ _ (by omega) (by omega) (by omega) (by omega)
      · rw [v4 j (by omega)]
        exact hr _ _ (by omega) (by omega) g4
/-- Both halves made one, one behind the other. -/
theorem mrg_both {c : Nat → Nat → Int} {f g h k : Nat → Nat} {a d b : Nat} (had : a ≤ d) (hdb : d ≤ b) (hg : (∀ t, t < a ∨ b ≤ t → g t = f t) ∧ ∀ t, a ≤ t → t < b → ∃ u, a ≤ u ∧ u < b ∧ g t = f u)
    (hlr : ∀ i j, a ≤ i → i < d → d ≤ j → j < b → Ahd c (g i) (g j)) (m1 : Mrg c g h a d) (m2 : Mrg c h k d b) : Mrg c f k a b := by
  have e1 : ∀ t, a ≤ t → t < d → ∃ u, a ≤ u ∧ u < d ∧ k t = g u := fun t g1 g2 => by
    rw [m2.out t (.inl g2)]
    exact m1.of t g1 g2
  have e2 : ∀ t, d ≤ t → t < b → ∃ u, d ≤ u ∧ u < b ∧ k t = g u := fun t g1 g2 => by
    obtain ⟨u, u1, u2, e⟩ := m2.of t g1 g2
    exact ⟨u, u1, u2, by rw [e, m1.out u (.inr u1)]⟩
  refine ⟨fun t ht => ?_, fun t g1 g2 => ?_, fun i j g1 g2 g3 => ?_⟩
  · rw [m2.out t (by omega), m1.out t (by omega), hg.1 t ht]
  · by_cases hd : t < d
    · obtain ⟨u, u1, u2, e⟩ := e1 t g1 hd
      obtain ⟨v, v1, v2, e'⟩ := hg.2 u u1 (by omega)
      exact ⟨v, v1, v2, by rw [e, e']⟩
    · obtain ⟨u, u1, u2, e⟩ := e2 t (by omega) g2
      obtain ⟨v, v1, v2, e'⟩ := hg.2 u (by omega) u2
      exact ⟨v, v1, v2, by rw [e, e']⟩
  · by_cases hj : j < d
    · rw [m2.out i (by omega), m2.out j (.inl hj)]
      exact m1.srt i j g1 g2 hj
    · by_cases hi : i < d
      · obtain ⟨u, u1, u2, e⟩ := e1 i g1 hi
        obtain ⟨v, v1, v2, e'⟩ := e2 j (by omega) g3
        rw [e, e']
        exact hlr u v u1 u2 v1 v2
      · exact m2.srt i j (by omega) g2 g3
end Go.Proofs.YtkdnkmheidbfdaaGreat

namespace Go.Proofs.YtkdnkmheidbfdaaGreat
open Go.RowKit Go.Sort

def rowF (f : Nat → Nat) (n : Nat) : List Int := (List.range n).map fun k => ((f k : Nat) : Int)
theorem rowF_len (f : Nat → Nat) (n : Nat) : (rowF f n).length = n := by unfold rowF; simp
theorem rowF_at (f : Nat → Nat) {n k : Nat} (h : k < n) : (rowF f n)[k]? = some (f k : Int) := by
  unfold rowF
  rw [List.getElem?_map, List.getElem?_range h]
  rfl
theorem rowF_set (f : Nat → Nat) (n j x : Nat) : (rowF f n).set j (x : Int) = rowF (upd f j x) n := by
  refine List.ext_getElem? fun k => ?_
  by_cases hk : k < n
  · rw [rowF_at _ hk]
    unfold upd
    by_cases h : k = j
    · subst h
      rw [List.getElem?_set_self (by rw [rowF_len]; exact hk), if_pos rfl]
    · rw [List.getElem?_set_ne (by omega), rowF_at _ hk, if_neg h]
  · rw [List.getElem?_eq_none (by rw [List.length_set, rowF_len]; omega), List.getElem?_eq_none (by rw [rowF_len]; omega)]
theorem upd_sw {f : Nat → Nat} {i j : Nat} (h : i ≠ j) : upd (upd f i (f j)) j (f i) = sw2 f i j := by
  funext k
  unfold upd sw2
  by_cases h1 : k = j
  · subst h1
    rw [if_pos rfl, if_neg (by omega), if_pos rfl]
  · rw [if_neg h1, if_neg h1]
/-- A row of places that the call itself made. -/
def PRow (w : World) (base g n cap : Nat) (f : Nat → Nat) : Prop := NRow w base (.slice (some ⟨g, 0, none⟩) n cap) (rowF f n)
theorem PRow.cell {w : World} {base g n cap : Nat} {f : Nat → Nat} (h : PRow w base g n cap f) {k : Nat} (hk : k < n) : w.cell? ⟨g, k, none⟩ = some (.int .i64 (f k : Int)) := NRow.cell h (rowF_len _ _) (rowF_at f hk)
theorem PRow.frz {w : World} {base g n cap : Nat} {f : Nat → Nat} (h : PRow w base g n cap f) (k : Nat) : w.frozen? ⟨g, k, none⟩ = false := NRow.frz h (rowF_len _ _) k
theorem PRow.below {w w' : World} {base g n cap : Nat} {f : Nat → Nat} (h : PRow w base g n cap f) (hb : Below w.heap.size w w') : PRow w' base g n cap f := NRow.below h hb
theorem PRow.drew {w : World} {base g n cap : Nat} {f : Nat → Nat} (h : PRow w base g n cap f) : PRow w.drew base g n cap f := h.below (Below.refl _ w).drew
theorem PRow.own {w : World} {base g n cap : Nat} {f : Nat → Nat} (h : PRow w base g n cap f) : base ≤ g ∧ g < w.heap.size := by
  have := NRow.lt h (k := g) rfl
  omega
theorem PRow.size {w : World} {base g n cap : Nat} {f : Nat → Nat} (h : PRow w base g n cap f) : base ≤ w.heap.size := by
  have := h.own
  omega
theorem PRow.sw {w : World} {base g n cap : Nat} {f : Nat → Nat} (h : PRow w base g n cap f) {i j : Nat} (hij : i ≠ j) : PRow ((w.setCell ⟨g, i, none⟩ (.int .i64 (f j : Int))).setCell ⟨g, j, none⟩ (.int .i64 (f i : Int))) base g n cap (sw2 f i j) := by
  have h1 := NRow.put h (rowF_len _ _) i (f j : Int)
  rw [rowF_set] at h1
  have h2 := NRow.put h1 (rowF_len _ _) j (f i : Int)
  rw [rowF_set, upd_sw hij] at h2
  exact h2
theorem PRow.sw_below {w : World} {base g n cap : Nat} {f : Nat → Nat} (h : PRow w base g n cap f) (i j : Nat) (u v : Value) : Below base w ((w.setCell ⟨g, i, none⟩ u).setCell ⟨g, j, none⟩ v) :=
  ((Below.refl base w).setCell (p := ⟨g, i, none⟩) h.own.1 _).setCell (p := ⟨g, j, none⟩) h.own.1 _

set_option maxHeartbeats 1600000 in
theorem swapRange_any (fv : Value) (base g n cap p q m : Nat) (f : Nat → Nat) (w : World) (hr : PRow w base g n cap f) (hpq : p + m ≤ q) (hq : q + m ≤ n) (hn : n ≤ 1000000) :
    Calls Tryz.prog 227 #[.slice (some ⟨g, 0, none⟩) n cap, .int .i64 p, .int .i64 q, .int .i64 m, fv] w fun e w' => e = .returned (.tuple #[]) ∧ PRow w' base g n cap (swB f p q m) ∧ Below base w w' := by
  have HR := hid hr
  clear hr
  go_enter Tryz.func227, Tryz.ntmps227
  go_wp2
  go_loopw [10] (fun iv wr => ∃ k : Nat, k ≤ m ∧ iv = .int .i64 k ∧ PRow wr base g n cap (swB f p q k) ∧ Below base w wr) (fun iv _ => m - (intOf iv).toNat)
  case atStart => exact ⟨0, by omega, rfl, by rw [swB_zero]; exact HR.out, Below.refl _ _⟩
  case round =>
    obtain ⟨k, hk, rfl, hrow, hb⟩ := hrel
    have HB := hid hb
    have HROW := hid hrow
    clear hb
    by_cases hlt : k < m
    · have hkI : (k : Int) < (m : Int) := by omega
      obtain ⟨i, hi⟩ : ∃ i, p + k = i := ⟨_, rfl⟩
      obtain ⟨j, hj⟩ : ∃ j, q + k = j := ⟨_, rfl⟩
      have hi' : (p : Int) + (k : Int) = (i : Int) := by omega
      have hj' : (q : Int) + (k : Int) = (j : Int) := by omega
      have hiI : (i : Int) < (n : Int) := by omega
      have hjI : (j : Int) < (n : Int) := by omega
      have hij : i ≠ j := by omega
      have c1 := hrow.cell (k := i) (by omega)
      have c2 := hrow.cell (k := j) (by omega)
      have f1 := hrow.frz i
      have f2 := hrow.frz j
      have HS := hid (swB_succ (f := f) (p := p) (q := q) (n := k) (by omega))
      rw [hi, hj] at HS
      clear hrow hi hj
      generalize swB f p q k = F at *
      go_wp2
      go_big_region
      all_goals go_wp2
      go_roundw
      case rel => exact ⟨k + 1, by omega, by go_num, by rw [← HS.out]; exact (HROW.out.sw hij).drew, (HB.out.trans (HROW.out.sw_below _ _ _ _)).drew⟩
      case measure => simp [intOf]; omega
    · have hkI : ¬ (k : Int) < (m : Int) := by omega
      have hkm : k = m := by omega
      subst hkm
      clear hrow
      go_wp2
      go_end0
      exact ⟨rfl, HROW.out, HB.out⟩

set_option maxHeartbeats 1600000 in
theorem rotate_any (fv : Value) (base g n cap a m b : Nat) (f : Nat → Nat) (w : World) (hr : PRow w base g n cap f) (ham : a < m) (hmb : m < b) (hb : b ≤ n) (hn : n ≤ 1000000) :
    Calls Tryz.prog 226 #[.slice (some ⟨g, 0, none⟩) n cap, .int .i64 a, .int .i64 m, .int .i64 b, fv] w fun e w' => e = .returned (.tuple #[]) ∧ PRow w' base g n cap (rot f a m b) ∧ Below base w w' := by
  have HR := hid hr
  clear hr
  have e1 : (m : Int) - (a : Int) = ((m - a : Nat) : Int) := by omega
  have e2 : (b : Int) - (m : Int) = ((b - m : Nat) : Int) := by omega
  go_enter Tryz.func226, Tryz.ntmps226
  go_wp2
  go_loopw [10, 11] (fun iv jv wr => ∃ (i j : Nat) (F : Nat → Nat), 0 < i ∧ 0 < j ∧ i ≤ m ∧ m + j ≤ n ∧ iv = .int .i64 i ∧ jv = .int .i64 j ∧ PRow wr base g n cap F ∧ rot F (m - i) m (m + j) = rot f a m b ∧ Below base w wr) (fun iv jv _ => (intOf iv).toNat + (intOf jv).toNat)
  case atStart =>
    refine ⟨m - a, b - m, f, by omega, by omega, by omega, by omega, by go_num, by go_num, HR.out, ?_, Below.refl _ _⟩
    rw [show m - (m - a) = a by omega, show m + (b - m) = b by omega]
  case round =>
    obtain ⟨i, j, F, hi, hj, him, hjn, rfl, rfl, hrow, hrot, hbr⟩ := hrel
    have HB := hid hbr
    have HROT := hid hrot
    clear hbr hrot e1 e2
    have e3 : (m : Int) - (i : Int) = ((m - i : Nat) : Int) := by omega
    by_cases hij : i = j
    · subst hij
      have HC := hid (swapRange_any fv base g n cap (m - i) m i F wr hrow (by omega) (by omega) hn)
      clear hrow
      go_wp2_with (go_at_call 227; refine HC.out.mono ?_; rintro e w1 ⟨rfl, hr1, hb1⟩; have HR1 := hid hr1; have HB1 := hid hb1; clear hr1 hb1 HC)
      go_end0
      exact ⟨rfl, by rw [← HROT.out, ← rot_same him]; exact HR1.out, HB.out.trans HB1.out⟩
    · have hijI : ¬ (i : Int) = (j : Int) := by omega
      by_cases hlt : j < i
      · have hltI : (j : Int) < (i : Int) := by omega
        have HC := hid (swapRange_any fv base g n cap (m - i) m j F wr hrow (by omega) (by omega) hn)
        have HRL := hid (rot_left (f := F) (m := m) (i := i) (j := j) hj hlt him)
        clear hrow
        go_wp2_with (go_at_call 227; refine HC.out.mono ?_; rintro e w1 ⟨rfl, hr1, hb1⟩; have HR1 := hid hr1; have HB1 := hid hb1; clear hr1 hb1 HC)
        go_roundw
        case rel => exact ⟨i - j, j, _, by omega, hj, by omega, hjn, by go_num, rfl, HR1.out, by rw [HRL.out, HROT.out], HB.out.trans HB1.out⟩
        case measure => simp [intOf]; omega
      · have hltI : ¬ (j : Int) < (i : Int) := by omega
        have e4 : (m : Int) + (j : Int) - (i : Int) = ((m + j - i : Nat) : Int) := by omega
        have HC := hid (swapRange_any fv base g n cap (m - i) (m + j - i) i F wr hrow (by omega) (by omega) hn)
        have HRL := hid (rot_right (f := F) (m := m) (i := i) (j := j) hi (by omega) him)
        clear hrow
        go_wp2_with (go_at_call 227; refine HC.out.mono ?_; rintro e w1 ⟨rfl, hr1, hb1⟩; have HR1 := hid hr1; have HB1 := hid hb1; clear hr1 hb1 HC)
        go_roundw
        case rel => exact ⟨i, j - i, _, hi, by omega, him, by omega, rfl, by go_num, HR1.out, by rw [HRL.out, HROT.out], HB.out.trans HB1.out⟩
        case measure => simp [intOf]; omega
theorem nrow_snocB {w : World} {base : Nat} {v : Value} {zs : List Int} (h : NRow w base v zs) (hb : base ≤ w.heap.size) (hl : zs.length ≤ 1000000) (z : Int) :
    ∃ ao cap w', (Builtin.append_ #[47, 47] 47 #[v, .slice (some ⟨w.heap.size, 0, none⟩) 1 1]).run Tryz.prog (w.alloc (.cells #[.int .i64 z] 3)) = .ok (.slice ao (zs.length + 1) cap) w' ∧
      w'.ownsRow base 3 1 (.slice ao (zs.length + 1) cap) (zs.length + 1) ((zs ++ [z]).map (Value.int .i64)) ∧ (w.alloc (.cells #[.int .i64 z] 3)).grownBy w' v.ownBlock := by
  obtain ⟨i0, hi, hz0, hz1, hz2⟩ := info_parts infoInt
  obtain ⟨wA, hwA⟩ : ∃ wA, wA = w.alloc (.cells #[.int .i64 z] 3) := ⟨_, rfl⟩
  have hbA : Below w.heap.size w wA := by rw [hwA]; exact (Below.refl _ _).alloc (Nat.le_refl _) _
  have hP : wA.cell? ⟨w.heap.size, 0, none⟩ = some (.int .i64 z) := by
    have hh : wA.heap[w.heap.size]? = some (.cells #[.int .i64 z] 3) := by
      rw [hwA]
      unfold World.alloc
      simp
    simp [World.cell?, hh]
  have h2 := h.below hbA
  obtain ⟨v', w', hrun, r1, r2, _, r4⟩ := run_append_own_at (P := Tryz.prog) wA base 47 47 3 i0 _ 1 8 Tryz.underlying47 hi hz0 hz1 hz2 rfl (by decide) v zs.length _ h2 ⟨w.heap.size, 0, none⟩ 1 1 [.int .i64 z] rfl
    (fun j u hj => by
      match j, hj with
      | 0, hj => simp at hj; subst hj; exact hP
      | j + 1, hj => simp at hj) (by intro u hu'; simp at hu'; subst hu'; rfl) (by unfold maxLen; omega) (by omega) (by rw [hwA]; simp; omega)
  obtain ⟨ao, cap, rfl⟩ : ∃ ao cap, v' = .slice ao (zs.length + 1) cap := by
    rcases r1.2 with ⟨rfl, h0⟩ | ⟨g, cap, cur, rfl, _, _, hc, _⟩
    · omega
    · exact ⟨_, cap, rfl⟩
  rw [← hwA]
  refine ⟨ao, cap, w', hrun, ?_, r2⟩
  rw [List.map_append]
  exact r1
end Go.Proofs.YtkdnkmheidbfdaaGreat

namespace Go.Proofs.YtkdnkmheidbfdaaGreat
open Go.RowKit Go.Shelf

attribute [local go_sem] Oper.semAt_some

/-- What a round is handed. -/
abbrev Pl (n : Nat) : Type := { x : Nat // x < n }
/-- The places, as numbers. -/
def plI {n : Nat} (pre : List (Pl n)) : List Int := pre.map fun x => ((x.1 : Nat) : Int)
theorem plI_len {n : Nat} (pre : List (Pl n)) : (plI pre).length = pre.length := by unfold plI; rw [List.length_map]
theorem plI_snoc {n : Nat} (pre : List (Pl n)) (x : Pl n) : plI (pre ++ [x]) = plI pre ++ [((x.1 : Nat) : Int)] := by unfold plI; rw [List.map_append]; rfl
/-- What a round keeps for places: nothing. -/
def Kz (_ _ : World) : Prop := True

set_option maxRecDepth 8000 in
set_option maxHeartbeats 1600000 in
theorem places_in (m : Nat) (hm : 2 ≤ m) (l Bx n cap : Nat) (ao : Option Addr) (J Jx : List (Pl n) → World → Prop) (W : World)
    (hY : ∀ pre x W1, J pre W1 → pre.length < n → YieldAt Fence.wide (m - 1) Tryz.prog l #[.int .i64 (x.1 : Nat)] W1 fun e W' =>
      (e = .returned (.bool true) ∧ J (pre ++ [x]) W' ∧ Kz W1 W') ∨ (e = .returned (.bool false) ∧ Jx (pre ++ [x]) W'))
    (hbx : W.cell? ⟨Bx, 0, none⟩ = some (.slice ao n cap)) (hl : n ≤ 1000000) (h0 : J [] W) :
    CallsIn Fence.wide m Tryz.prog 201 #[.func (.yield l) #[] #[], .pointer (some ⟨Bx, 0, none⟩)] W fun e W' => (∃ v, e = .returned v) ∧
      ((∃ xs, xs.map (·.1) = List.range n ∧ J xs W') ∨ (∃ pre, True ∧ Jx pre W')) := by
  refine callsIn_of_wp Tryz.func201 rfl trivial ?_ rfl
  simp only [Tryz.ntmps201, List.size_toArray, List.length_cons, List.length_nil, Nat.reduceAdd, Nat.reduceSub, Array.replicate_succ, Array.replicate_zero, List.push_toArray, List.append_toArray, List.nil_append, List.cons_append]
  gi_wp2
  gi_loopw [3, 6] (fun _ i wr => ∃ (k : Nat) (pre : List (Pl n)), k ≤ n ∧ i = .int .i64 k ∧ pre.map (·.1) = List.range k ∧ J pre wr) (fun _ i _ => n - (intOf i).toNat)
  case atStart => exact ⟨0, [], Nat.zero_le _, rfl, rfl, h0⟩
  case round =>
    obtain ⟨k, pre, hk, rfl, hpre, hJs⟩ := hrel
    by_cases hlt : k < n
    · have hprel : pre.length = k := by
        have := congrArg List.length hpre
        rwa [List.length_map, List.length_range] at this
      obtain ⟨fn, tmps, assign, body, hy, hR⟩ := hY pre ⟨k, hlt⟩ _ hJs (by omega)
      dsimp only at hy
      have HP := hid hpre
      have HR := hid hR
      have hltI : (k : Int) < (n : Int) := by omega
      clear hpre hprel hR
      gi_wp2
      refine ⟨fun _ => by omega, HR.out.mono ?_⟩
      rintro e W3 (⟨rfl, hJ3, _⟩ | ⟨rfl, hJx3⟩)
      · clear hy
        gi_wp2
        go_roundw
        case rel =>
          refine ⟨k + 1, _, by omega, by go_num, ?_, hJ3⟩
          rw [List.map_append, HP.out, List.range_succ]
          rfl
        case measure => simp [intOf]; omega
      · clear hy
        gi_wp2
        refine bodyPost_ret (results_none rfl _ _ _) rfl ?_
        exact ⟨⟨_, rfl⟩, .inr ⟨_, trivial, hJx3⟩⟩
    · obtain rfl : k = n := by omega
      have HF := hid hpre
      clear hpre
      gi_wp2
      go_end0
      exact ⟨⟨_, rfl⟩, .inl ⟨pre, HF.out, hJs⟩⟩
theorem places_stops (m : Nat) (hm : 2 ≤ m) (Bx n cap : Nat) (ao : Option Addr) (w : World) (hbx : w.cell? ⟨Bx, 0, none⟩ = some (.slice ao n cap)) (hl : n ≤ 1000000) :
    SeqStopsK Fence.wide m Tryz.prog 201 #[.pointer (some ⟨Bx, 0, none⟩)] (fun x : Pl n => #[.int .i64 (x.1 : Nat)]) Kz (fun xs => xs.map (·.1) = List.range n) (fun _ => True) n w := fun l J Jx W hW _ _ hY h0 =>
  places_in m hm l Bx n cap ao J Jx W hY ((hW.cell (p := ⟨Bx, 0, none⟩) (lt_of_cell hbx)).trans hbx) hl h0

theorem placesOf_any (ao : Option Addr) (n cap : Nat) (w : World) :
    Calls Tryz.prog 188 #[.slice ao n cap] w fun e w' => e = .returned (.func (.func 201) #[] #[.pointer (some ⟨w.heap.size, 0, none⟩)]) ∧ w' = w.alloc (.cells #[.slice ao n cap] 210) := by
  go_enter Tryz.func188, Tryz.ntmps188
  go_wp2
  go_ret
  exact ⟨rfl, rfl⟩

/-- An append whose run is known, as one operation within a fence. -/
theorem opIn_append {F : Fence} {n : Nat} {P : Program} {o : Oper} {a : Act} {w w' : World} {K : Act → World → Prop} {Q : Exit → Act → World → Prop} (s x : Operand) (t : TypeId)
    (hop : o.op = Op.call { callee := Callee.builtin Builtin.append, args := #[s, x], argTypes := #[t, t] }) {v u v' : Value} (hs : a.eval s = v) (hx : a.eval x = u) (hrun : (Builtin.append_ #[t, t] o.type #[v, u]).run P w = .ok v' w')
    (hK : K (a.put o.dst v') w') : Oper.wpIn F n P o a w K Q := by
  unfold Oper.wpIn
  refine ⟨?_, ?_⟩
  · simp [Oper.about, hop, resolve, Target.leads, Sem.run_pure]
  · rw [Oper.semAt_plain F _ _ (by rw [hop]; intro c hc'; cases hc')]
    simp [execOp, hop, resolve, invoke, builtin, hs, hx, hrun, Result.andThen]
    exact hK
theorem wpListIn_append_done {F : Fence} {m : Nat} {P : Program} {ops : Array Oper} {rest : List Oper} {o : Oper} {a : Act} {w w' : World} {Q : Exit → Act → World → Prop} (hgd : o.guard = none) (s x : Operand) (t : TypeId)
    (hop : o.op = Op.call { callee := Callee.builtin Builtin.append, args := #[s, x], argTypes := #[t, t] }) {v u v' : Value} (hs : a.eval s = v) (hx : a.eval x = u) (hrun : (Builtin.append_ #[t, t] o.type #[v, u]).run P w = .ok v' w')
    (h : wpListIn F m P ops Q rest (a.put o.dst v') w') : wpListIn F m P ops Q (o :: rest) a w :=
  wpListIn_plain hgd fun _K hK => opIn_append s x t hop hs hx hrun (hK _ _ h)

/-- Amid AppendSeq. -/
structure ApI (w : World) (v : Value) (zs : List Int) (W : World) : Prop where
  box : Boxed W w.heap.size 47 v
  row : NRow W w.heap.size v zs
  below : Below w.heap.size w W
theorem ApI.turn {w W W' : World} {v : Value} {zs : List Int} {row : Option Nat} (h : ApI w v zs W) (hg : W.grownBy W' row) (hr : ∀ r, row = some r → w.heap.size ≤ r ∧ ∃ o : Obj, W.heap[r]? = some o ∧ o.isCells = false) : ApI w v zs W' := by
  obtain ⟨v', b, r, e⟩ := holdsRow_own (β := Unit) w.heap.size w.heap.size 47 3 1 (fun _ => zs.length) (fun _ => zs.map (Value.int .i64)) (fun _ u => u = v) () W W' row ⟨v, h.box, h.row, rfl⟩ hg (fun r e => (hr r e).2)
  subst e
  exact ⟨b, r, h.below.grown hg h.below.size (fun k e => (hr k e).1)⟩

set_option maxRecDepth 100000 in
set_option maxHeartbeats 2000000 in
theorem appendSeq_in (Bx n cap : Nat) (ao : Option Addr) (w : World) (hbx : w.cell? ⟨Bx, 0, none⟩ = some (.slice ao n cap)) (hn : n ≤ 100000) :
    CallsIn Fence.wide 12 Tryz.prog 103 #[.slice none 0 0, .func (.func 201) #[] #[.pointer (some ⟨Bx, 0, none⟩)]] w fun e w' => ∃ v, e = .returned v ∧ NRow w' w.heap.size v (rowF (fun k => k) n) ∧ Below w.heap.size w w' := by
  refine callsIn_of_wp_marks Tryz.func103 rfl trivial ?_ rfl
  simp only [Tryz.ntmps103, List.size_toArray, List.length_cons, List.length_nil, Nat.reduceAdd, Nat.reduceSub, Array.replicate_succ, Array.replicate_zero, List.push_toArray, List.append_toArray, List.nil_append, List.cons_append]
  gi_wp2
  obtain ⟨W0, hW0⟩ : ∃ W0, w.alloc (.cells #[.slice none 0 0] 47) = W0 := ⟨_, rfl⟩
  have hsz : W0.heap.size = w.heap.size + 1 := by rw [← hW0]; simp
  have hF0 : Below w.heap.size w W0 := by rw [← hW0]; exact (Below.refl _ w).alloc (Nat.le_refl _) _
  have hb0 : Boxed W0 w.heap.size 47 (.slice none 0 0) := by rw [← hW0]; exact Boxed.new w _ _
  have h0 : ApI w (.slice none 0 0) [] W0 := ⟨hb0, NRow.nil _ _, hF0⟩
  have hbx0 := cell_below hbx hF0 (lt_of_cell hbx)
  rw [hW0]
  clear hW0 hb0
  refine wpIn_rangeFunc_ownG rfl (by decide) (gf := 201) (lb := #[.pointer (some ⟨Bx, 0, none⟩)]) rfl trivial (enters_of Tryz.func201 (by kernel_rfl) rfl)
    (places_stops (12 - 1) (by decide) Bx n cap ao W0 hbx0 (by omega)) (fun _ _ => trivial) (fun _ _ _ _ _ _ _ _ => trivial) (Below.refl _ _) (fun _ => rfl)
    (fun pre W => ∃ v, ApI w v (plI pre) W)
    (fun _ _ _ => False) ?hI ?hIx ?h0
    (fun x => { tmps := #[.slice none 0 0, .func (.func 201) #[] #[.pointer (some ⟨Bx, 0, none⟩)], .pointer (some ⟨w.heap.size, 0, none⟩), undef, .slice none 0 0, .int .i64 (x.1 : Nat), .func (.func 201) #[] #[.pointer (some ⟨Bx, 0, none⟩)], .int .i64 (x.1 : Nat), undef, undef, undef, undef, undef], defers := [] }) ?assign ?body ?done ?stop
  case hI =>
    rintro s A B' row ⟨v, hs⟩ hg' hrow
    exact ⟨v, hs.turn hg' (fun r e => ⟨by have := (hrow r e).1; omega, (hrow r e).2⟩)⟩
  case hIx =>
    rintro c s A B' row h
    exact h.elim
  case h0 => exact ⟨_, h0⟩
  case assign =>
    intro l x W K hK
    gi_wp2
    exact hK
  case body =>
    rintro l pre x W ⟨v, hI⟩ hlt
    have hlen : (plI pre).length = pre.length := plI_len pre
    obtain ⟨ao', cap', W1, hrun, hrow1, hgr⟩ := nrow_snocB hI.row hI.below.size (by rw [hlen]; omega) ((x.1 : Nat) : Int)
    obtain ⟨q1, q2, q3, q4, q5⟩ := hI.box.appended (by decide) hI.row hI.below.size (Nat.le_refl _) hrow1 hgr
    have cv := hI.box.cell
    have c1 := q1.cell
    have f1 := q1.frozen
    rw [hlen] at hrun q2 q3 q4 q5
    have HR := hid hrun
    have HFIN := hid (show ApI w (.slice ao' (pre.length + 1) cap') (plI (pre ++ [x])) (W1.setCell ⟨w.heap.size, 0, none⟩ (.slice ao' (pre.length + 1) cap')) from ⟨q2, by
      unfold NRow
      rw [plI_snoc, List.length_append, hlen]
      exact q3, hI.below.trans q5⟩)
    have HKO := hid q4
    obtain ⟨av, cv', e⟩ := hI.row.form
    rw [hlen] at e
    subst e
    clear hrun q1 q2 q3 q4 q5 hI hrow1 hgr hlen h0 hbx hbx0
    gi_wp2_with (gi_at_builtin; refine wpListIn_append_done rfl (.tmp 8) (.tmp 10) 47 rfl rfl rfl HR.out ?_)
    exact ⟨HKO.out.from _, trivial, _, HFIN.out⟩
  case done =>
    rintro D ys W hD hS ⟨v, hI⟩ hK
    have hzs : plI ys = rowF (fun k => k) n := by
      unfold rowF plI
      rw [← hS, List.map_map]
      rfl
    rw [hzs] at hI
    have cv := hI.box.cell
    obtain ⟨av, cv', e⟩ := hI.row.form
    rw [rowF_len] at e
    subst e
    have HI := hid hI
    have HK := hid hK
    clear hI hK hS hzs h0 hbx hbx0
    gi_wp2
    have hrow : ∀ r, some D = some r → w.heap.size ≤ r ∧ ∃ o : Obj, W.heap[r]? = some o ∧ o.isCells = false := fun r e => by cases e; exact ⟨by omega, _, HK.out, rfl⟩
    refine ⟨by simp, .inl ⟨_, _, rfl, run_takeDeferred HK.out, ?_⟩⟩
    have h2 := HI.out.turn (grownBy_putObj' _ D (.deferred none)) hrow
    exact ⟨.slice av n cv', by simp [results, Tryz.f103, go_sem], _, rfl, h2.row, h2.below⟩
  case stop =>
    rintro D c pre W hD hSp h hK
    exact h.elim
/-- The directions of a list, in memory: each place's two cells. -/
def Ats (W : World) (b off n : Nat) (ps : List Pp) : Prop := ∀ k, k < n → W.cell? ⟨b, off + k * 2, none⟩ = some (.int .i64 (ps.getD k (0, 0)).1) ∧ W.cell? ⟨b, off + k * 2 + 1, none⟩ = some (.int .i64 (ps.getD k (0, 0)).2)
theorem Ats.below {W W' : World} {b off n : Nat} {ps : List Pp} {B : Nat} (h : Ats W b off n ps) (hb : Below B W W') (hB : b < B) : Ats W' b off n ps := fun k hk => ⟨cell_below (h k hk).1 hb hB, cell_below (h k hk).2 hb hB⟩
end Go.Proofs.YtkdnkmheidbfdaaGreat

namespace Go.Proofs.YtkdnkmheidbfdaaGreat
open Go.RowKit Go.Shelf Go.Sort

attribute [local go_sem] Oper.semAt_some

theorem lrow_snocB {w : World} {base : Nat} {v : Value} {ls : List LdT} (h : LRow w base v ls) (hb : base ≤ w.heap.size) (hl : ls.length ≤ 1000000) (p : LdT) :
    ∃ ao cap w', (Builtin.append_ #[141, 141] 141 #[v, .slice (some ⟨w.heap.size, 0, none⟩) 1 1]).run Tryz.prog (w.alloc (.cells #[.int .i64 p.1, .int .i64 p.2.1, .int .i64 p.2.2.1, .int .i64 p.2.2.2] 157)) = .ok (.slice ao (ls.length + 1) cap) w' ∧
      w'.ownsRow base 157 4 (.slice ao (ls.length + 1) cap) (ls.length + 1) (lCells (ls ++ [p])) ∧ (w.alloc (.cells #[.int .i64 p.1, .int .i64 p.2.1, .int .i64 p.2.2.1, .int .i64 p.2.2.2] 157)).grownBy w' v.ownBlock := by
  obtain ⟨i0, hi, hz0, hz1, hz2⟩ := info_parts infoLd
  obtain ⟨wA, hwA⟩ : ∃ wA, wA = w.alloc (.cells #[.int .i64 p.1, .int .i64 p.2.1, .int .i64 p.2.2.1, .int .i64 p.2.2.2] 157) := ⟨_, rfl⟩
  have hbA : Below w.heap.size w wA := by rw [hwA]; exact (Below.refl _ _).alloc (Nat.le_refl _) _
  have hP : wA.heap[w.heap.size]? = some (.cells #[.int .i64 p.1, .int .i64 p.2.1, .int .i64 p.2.2.1, .int .i64 p.2.2.2] 157) := by rw [hwA]; unfold World.alloc; simp
  have h2 := h.below hbA
  obtain ⟨v', w', hrun, r1, r2, _, r4⟩ := run_append_own_at (P := Tryz.prog) wA base 141 141 157 i0 _ 4 32 Tryz.underlying141 hi hz0 hz1 hz2 rfl (by decide) v ls.length _ h2 ⟨w.heap.size, 0, none⟩ 1 1 (lcs p) rfl
    (fun j u hj => by
      match j, hj with
      | 0, hj => simp [lcs] at hj; subst hj; rw [addr_add]; simp [World.cell?, hP]
      | 1, hj => simp [lcs] at hj; subst hj; rw [addr_add]; simp [World.cell?, hP]
      | 2, hj => simp [lcs] at hj; subst hj; rw [addr_add]; simp [World.cell?, hP]
      | 3, hj => simp [lcs] at hj; subst hj; rw [addr_add]; simp [World.cell?, hP]
      | j + 4, hj => simp [lcs] at hj) (by intro u hu'; simp [lcs] at hu'; rcases hu' with rfl | rfl | rfl | rfl <;> rfl) (by unfold maxLen; omega) (by omega) (by rw [hwA]; simp; omega)
  obtain ⟨ao, cap, rfl⟩ : ∃ ao cap, v' = .slice ao (ls.length + 1) cap := by
    rcases r1.2 with ⟨rfl, h0⟩ | ⟨g, cap, cur, rfl, _, _, hc, _⟩
    · omega
    · exact ⟨_, cap, rfl⟩
  rw [← hwA]
  refine ⟨ao, cap, w', hrun, ?_, r2⟩
  rw [lCells_app]
  show w'.ownsRow base _ 4 _ (ls.length + 1) (lCells ls ++ (lcs p ++ []))
  rw [List.append_nil]
  exact r1

/-- Amid AppendSeq. -/
structure LApI (w : World) (v : Value) (ls : List LdT) (W : World) : Prop where
  box : Boxed W w.heap.size 141 v
  row : LRow W w.heap.size v ls
  below : Below w.heap.size w W
theorem LApI.turn {w W W' : World} {v : Value} {ls : List LdT} {row : Option Nat} (h : LApI w v ls W) (hg : W.grownBy W' row) (hr : ∀ r, row = some r → w.heap.size ≤ r ∧ ∃ o : Obj, W.heap[r]? = some o ∧ o.isCells = false) : LApI w v ls W' :=
  ⟨cellsTurn hg (fun r e => (hr r e).2) h.box, h.row.turn hg (fun r e => (hr r e).2), h.below.grown hg h.below.size (fun k e => (hr k e).1)⟩
theorem ldAt_all (ys : List LdT) : (List.range ys.length).map (ldAt ys) = ys := by
  refine List.ext_getElem? fun k => ?_
  rw [List.getElem?_map]
  by_cases hk : k < ys.length
  · rw [List.getElem?_range hk, List.getElem?_eq_getElem hk]
    simp [ldAt, List.getD_eq_getElem?_getD, List.getElem?_eq_getElem hk]
  · rw [List.getElem?_eq_none (by rw [List.length_range]; omega), List.getElem?_eq_none (by omega)]
    rfl

set_option maxRecDepth 100000 in
set_option maxHeartbeats 3200000 in
theorem appendSeqL_in (Bx b n cap : Nat) (ao : Option Addr) (ys : List LdT) (hn : ys.length = n) (hl : n ≤ 1000) (hao : 1 ≤ n → ao = some ⟨b, 0, none⟩) (w : World) (hbB : b < w.heap.size) (hx : w.cell? ⟨Bx, 0, none⟩ = some (.slice ao n cap)) (hc : LAts w b ys) :
    CallsIn Fence.wide 12 Tryz.prog 198 #[.slice none 0 0, .func (.func 186) #[] #[.pointer (some ⟨Bx, 0, none⟩)]] w fun e w' => ∃ v, e = .returned v ∧ LRow w' w.heap.size v ys ∧ Below w.heap.size w w' := by
  have hfn : ∀ k, Fence.wide.fn k := fun _ => trivial
  refine callsIn_of_wp_marks Tryz.func198 rfl trivial ?_ rfl
  simp only [Tryz.ntmps198, List.size_toArray, List.length_cons, List.length_nil, Nat.reduceAdd, Nat.reduceSub, Array.replicate_succ, Array.replicate_zero, List.push_toArray, List.append_toArray, List.nil_append, List.cons_append]
  gi_wp2
  obtain ⟨W0, hW0⟩ : ∃ W0, w.alloc (.cells #[.slice none 0 0] 141) = W0 := ⟨_, rfl⟩
  have hsz : W0.heap.size = w.heap.size + 1 := by rw [← hW0]; simp
  have hF0 : Below w.heap.size w W0 := by rw [← hW0]; exact (Below.refl _ w).alloc (Nat.le_refl _) _
  have hb0 : Boxed W0 w.heap.size 141 (.slice none 0 0) := by rw [← hW0]; exact Boxed.new w _ _
  have h0 : LApI w (.slice none 0 0) [] W0 := ⟨hb0, LRow.nil _ _, hF0⟩
  have hbx0 := cell_below hx hF0 (lt_of_cell hx)
  have hc0 := hc.below hF0 hbB
  rw [hW0]
  clear hW0 hb0
  refine wpIn_rangeFunc_ownH rfl (by decide) (gf := 186) (lb := #[.pointer (some ⟨Bx, 0, none⟩)]) rfl trivial (enters_of Tryz.func186 (by kernel_rfl) rfl)
    (values_stops (12 - 1) (by decide) Bx w.heap.size b n cap ao ys hn hl hao hbB W0 (by omega) hbx0 hc0) (fun h k => Below.trans h k) (fun W l o o' h1 h2 _ _ => (Below.refl _ W).grown (grownBy_putObj' W l o') (by have := lt_of_heap h2; omega) (fun k e => by injection e with e; omega)) (Below.refl _ _) (fun _ => rfl)
    (fun pre W => ∃ v, LApI w v (pre.map fun x => ldAt ys x.1) W)
    (fun _ _ _ => False) ?hI ?hIx ?h0
    (fun x a' W => ∃ Bq, a' = { tmps := #[.slice none 0 0, .func (.func 186) #[] #[.pointer (some ⟨Bx, 0, none⟩)], .pointer (some ⟨w.heap.size, 0, none⟩), undef, .slice none 0 0, .pointer (some ⟨Bq, 0, none⟩), .func (.func 186) #[] #[.pointer (some ⟨Bx, 0, none⟩)], .agg #[.int .i64 (ldAt ys x.1).1, .int .i64 (ldAt ys x.1).2.1, .int .i64 (ldAt ys x.1).2.2.1, .int .i64 (ldAt ys x.1).2.2.2], undef, undef, undef, undef, undef], defers := [] } ∧ W.heap[Bq]? = some (.cells #[.int .i64 (ldAt ys x.1).1, .int .i64 (ldAt ys x.1).2.1, .int .i64 (ldAt ys x.1).2.2.1, .int .i64 (ldAt ys x.1).2.2.2] 157 (0, 0)))
    ?hAx ?assign ?body ?done ?stop
  case hI =>
    rintro s A B' row ⟨v, hs⟩ hg' hrow
    exact ⟨v, hs.turn hg' (fun r e => ⟨by have := (hrow r e).1; omega, (hrow r e).2⟩)⟩
  case hIx =>
    rintro c s A B' row h
    exact h.elim
  case h0 => exact ⟨_, h0⟩
  case stop => exact fun _ _ _ _ _ _ h => h.elim
  case hAx =>
    rintro x a' _ A B' row ⟨Bq, rfl, h1⟩ hg hrow
    exact ⟨Bq, rfl, cellsTurn hg (fun r e => (hrow r e).2) h1⟩
  case assign =>
    rintro l pre x W K ⟨v, hI⟩ hK
    have hfr : Below W.heap.size W (W.alloc (.cells #[.int .i64 (ldAt ys x.1).1, .int .i64 (ldAt ys x.1).2.1, .int .i64 (ldAt ys x.1).2.2.1, .int .i64 (ldAt ys x.1).2.2.2] 157)) := (Below.refl _ W).alloc (Nat.le_refl _) _
    have HK := hid (hK _ _ ((keeps_fresh hfr).from _) (hfr.mono hI.below.size) ⟨v, hI.turn (grownOf hfr) (fun r e => by cases e)⟩ ⟨W.heap.size, rfl, by unfold World.alloc; simp⟩)
    clear hK hI hfr h0 hbx0 hc0 hc
    gi_wp2
    exact HK.out
  case body =>
    rintro l pre x a' W _ _ ⟨v, hI⟩ ⟨Bq, rfl, hq⟩ hlt
    obtain ⟨p, hp⟩ : ∃ p, ldAt ys x.1 = p := ⟨_, rfl⟩
    rw [hp] at hq ⊢
    have hlen : (pre.map fun x => ldAt ys x.1).length = pre.length := List.length_map ..
    obtain ⟨ao', cap', W1, hrun, hrow1, hgr⟩ := lrow_snocB hI.row hI.below.size (by rw [hlen]; omega) p
    obtain ⟨q1, q2, q3, q4, q5⟩ := hI.box.appended (by decide) hI.row hI.below.size (Nat.le_refl _) hrow1 hgr
    have cv := hI.box.cell
    have c1 := q1.cell
    have f1 := q1.frozen
    rw [hlen] at hrun q2 q3 q4 q5
    have HR := hid hrun
    have HFIN := hid (show LApI w (.slice ao' (pre.length + 1) cap') ((pre ++ [x]).map fun x => ldAt ys x.1) (W1.setCell ⟨w.heap.size, 0, none⟩ (.slice ao' (pre.length + 1) cap')) from ⟨q2, by
      unfold LRow
      rw [List.map_append, List.map_cons, List.map_nil, hp, List.length_append, hlen]
      exact q3, hI.below.trans q5⟩)
    have HKO := hid q4
    have HKB := hid q5
    obtain ⟨av, cv', e⟩ := hI.row.form
    rw [hlen] at e
    subst e
    have k0 : W.cell? ⟨Bq, 0, none⟩ = some (.int .i64 p.1) := by simp [World.cell?, hq]
    have k1 : W.cell? ⟨Bq, 1, none⟩ = some (.int .i64 p.2.1) := by simp [World.cell?, hq]
    have k2 : W.cell? ⟨Bq, 2, none⟩ = some (.int .i64 p.2.2.1) := by simp [World.cell?, hq]
    have k3 : W.cell? ⟨Bq, 3, none⟩ = some (.int .i64 p.2.2.2) := by simp [World.cell?, hq]
    clear hrun q1 q2 q3 q4 q5 hI hrow1 hgr hlen h0 hbx0 hc0 hc hq hp
    gi_wp2_with (gi_at_builtin; refine wpListIn_append_done rfl (.tmp 8) (.tmp 10) 141 rfl rfl rfl HR.out ?_)
    exact ⟨HKO.out.from _, HKB.out, _, HFIN.out⟩
  case done =>
    rintro D zs W hD hS ⟨v, hI⟩ hK
    have hzs : (zs.map fun x => ldAt ys x.1) = ys := by
      have e : (zs.map fun x => ldAt ys x.1) = (zs.map (·.1)).map (ldAt ys) := by rw [List.map_map]; rfl
      rw [e, hS, ← hn]
      exact ldAt_all ys
    rw [hzs] at hI
    have cv := hI.box.cell
    obtain ⟨av, cv', e⟩ := hI.row.form
    subst e
    have HI := hid hI
    have HK := hid hK
    clear hI hK hS hzs h0 hbx0 hc0 hc
    gi_wp2
    have hrow : ∀ r, some D = some r → w.heap.size ≤ r ∧ ∃ o : Obj, W.heap[r]? = some o ∧ o.isCells = false := fun r e => by cases e; exact ⟨by omega, _, HK.out, rfl⟩
    refine ⟨by simp, .inl ⟨_, _, rfl, run_takeDeferred HK.out, ?_⟩⟩
    have h2 := HI.out.turn (grownBy_putObj' _ D (.deferred none)) hrow
    exact ⟨.slice av ys.length cv', by simp [results, Tryz.f198, go_sem, hn], _, rfl, h2.row, h2.below⟩
theorem collectL_any (Bx b n cap : Nat) (ao : Option Addr) (ys : List LdT) (hn : ys.length = n) (hl : n ≤ 1000) (hao : 1 ≤ n → ao = some ⟨b, 0, none⟩) (w : World) (hbB : b < w.heap.size) (hx : w.cell? ⟨Bx, 0, none⟩ = some (.slice ao n cap)) (hc : LAts w b ys) :
    Calls Tryz.prog 184 #[.func (.func 186) #[] #[.pointer (some ⟨Bx, 0, none⟩)]] w fun e w' => ∃ v, e = .returned v ∧ LRow w' w.heap.size v ys ∧ Below w.heap.size w w' := by
  have HC := hid (callsIn_wide.1 (appendSeqL_in Bx b n cap ao ys hn hl hao w hbB hx hc))
  clear hx hc
  go_enter Tryz.func184, Tryz.ntmps184
  go_wp2_with (go_at_call 198; refine HC.out.mono ?_; rintro e w1 ⟨v, rfl, hv, hb⟩; have HV := hid hv; have HB := hid hb; clear hv hb HC)
  go_ret
  exact ⟨_, rfl, HV.out, HB.out⟩
end Go.Proofs.YtkdnkmheidbfdaaGreat

namespace Go.Proofs.YtkdnkmheidbfdaaGreat
open Go.Shelf

def sortLd_ren : Go.Shelf.Ren := ⟨fun | 6 => 185 | 15 => 105 | 14 => 199 | 28 => 136 | 29 => 137 | 20 => 207 | 21 => 208 | 22 => 209 | 23 => 210 | 24 => 211 | 25 => 212 | 26 => 213 | 27 => 214 | 46 => 219 | 47 => 159 | 48 => 160 | 49 => 220 | 50 => 221 | 57 => 225 | n => n, fun | 22 => 141 | 24 => 157 | 25 => 209 | 3 => 3 | 39 => 138 | 0 => 0 | 53 => 175 | 55 => 177 | 4 => 4 | 46 => 168 | 45 => 167 | 50 => 44 | 5 => 5 | 9 => 9 | 66 => 198 | 70 => 202 | 76 => 220 | 77 => 95 | n => n, fun | n => n⟩
theorem sortLd : Go.Proofs.SlLaysF0.n6 Tryz.prog sortLd_ren := {
  mixed := by kernel_rfl
  f6 := ⟨Tryz.f185.name, by decide, Tryz.func185.trans (congrArg some (by kernel_rfl))⟩
  f14 := ⟨Tryz.f199.name, by decide, Tryz.func199.trans (congrArg some (by kernel_rfl))⟩
  f15 := Tryz.func105.trans (congrArg some (by kernel_rfl))
  f20 := ⟨Tryz.f207.name, by decide, Tryz.func207.trans (congrArg some (by kernel_rfl))⟩
  f21 := ⟨Tryz.f208.name, by decide, Tryz.func208.trans (congrArg some (by kernel_rfl))⟩
  f22 := ⟨Tryz.f209.name, by decide, Tryz.func209.trans (congrArg some (by kernel_rfl))⟩
  f23 := ⟨Tryz.f210.name, by decide, Tryz.func210.trans (congrArg some (by kernel_rfl))⟩
  f24 := ⟨Tryz.f211.name, by decide, Tryz.func211.trans (congrArg some (by kernel_rfl))⟩
  f25 := ⟨Tryz.f212.name, by decide, Tryz.func212.trans (congrArg some (by kernel_rfl))⟩
  f26 := ⟨Tryz.f213.name, by decide, Tryz.func213.trans (congrArg some (by kernel_rfl))⟩
  f27 := ⟨Tryz.f214.name, by decide, Tryz.func214.trans (congrArg some (by kernel_rfl))⟩
  f28 := Tryz.func136.trans (congrArg some (by kernel_rfl))
  f29 := Tryz.func137.trans (congrArg some (by kernel_rfl))
  f46 := ⟨Tryz.f219.name, by decide, Tryz.func219.trans (congrArg some (by kernel_rfl))⟩
  f47 := Tryz.func159.trans (congrArg some (by kernel_rfl))
  f48 := Tryz.func160.trans (congrArg some (by kernel_rfl))
  f49 := ⟨Tryz.f220.name, by decide, Tryz.func220.trans (congrArg some (by kernel_rfl))⟩
  f50 := ⟨Tryz.f221.name, by decide, Tryz.func221.trans (congrArg some (by kernel_rfl))⟩
  f57 := ⟨Tryz.f225.name, by decide, Tryz.func225.trans (congrArg some (by kernel_rfl))⟩
  t0 := Tryz.underlying0
  a0 := Tryz.isAgg0
  z0 := Tryz.sizeOf0
  v0 := Tryz.zeroValue0
  t3 := Tryz.underlying3
  a3 := Tryz.isAgg3
  z3 := Tryz.sizeOf3
  v3 := Tryz.zeroValue3
  t4 := Tryz.underlying4
  a4 := Tryz.isAgg4
  z4 := Tryz.sizeOf4
  v4 := Tryz.zeroValue4
  t5 := Tryz.underlying5
  a5 := Tryz.isAgg5
  z5 := Tryz.sizeOf5
  v5 := Tryz.zeroValue5
  t9 := Tryz.underlying9
  a9 := Tryz.isAgg9
  z9 := Tryz.sizeOf9
  v9 := Tryz.zeroValue9
  t22 := Tryz.underlying141
  a22 := Tryz.isAgg141
  z22 := Tryz.sizeOf141
  v22 := Tryz.zeroValue141
  t25 := Tryz.underlying209
  a25 := Tryz.isAgg209
  z25 := Tryz.sizeOf209
  v25 := Tryz.zeroValue209
  t39 := Tryz.underlying138
  a39 := Tryz.isAgg138
  z39 := Tryz.sizeOf138
  v39 := Tryz.zeroValue138
  t45 := Tryz.underlying167
  a45 := Tryz.isAgg167
  z45 := Tryz.sizeOf167
  v45 := Tryz.zeroValue167
  t46 := Tryz.underlying168
  a46 := Tryz.isAgg168
  z46 := Tryz.sizeOf168
  v46 := Tryz.zeroValue168
  t50 := Tryz.underlying44
  a50 := Tryz.isAgg44
  z50 := Tryz.sizeOf44
  v50 := Tryz.zeroValue44
  t53 := Tryz.underlying175
  a53 := Tryz.isAgg175
  z53 := Tryz.sizeOf175
  v53 := Tryz.zeroValue175
  t55 := Tryz.underlying177
  a55 := Tryz.isAgg177
  z55 := Tryz.sizeOf177
  v55 := Tryz.zeroValue177
  t66 := Tryz.underlying198
  a66 := Tryz.isAgg198
  z66 := Tryz.sizeOf198
  v66 := Tryz.zeroValue198
  t70 := Tryz.underlying202
  a70 := Tryz.isAgg202
  z70 := Tryz.sizeOf202
  v70 := Tryz.zeroValue202
  t76 := Tryz.underlying220
  a76 := Tryz.isAgg220
  z76 := Tryz.sizeOf220
  v76 := Tryz.zeroValue220
  t77 := Tryz.underlying95
  a77 := Tryz.isAgg95
  z77 := Tryz.sizeOf95
  v77 := Tryz.zeroValue95 }
end Go.Proofs.YtkdnkmheidbfdaaGreat
