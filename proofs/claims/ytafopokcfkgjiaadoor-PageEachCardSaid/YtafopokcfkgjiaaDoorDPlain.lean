/-
  The plain mathematics of layer 2: rows of blocks of one length, laid out one behind the other; a disk as the document has it: its sectors as they last, what waits. Nothing of the program is named here.
-/
import Derived.WalkKit
import Derived.PlainAid
namespace Go.Proofs.YtafopokcfkgjiaaDoor

/-- What stands at o and behind it is written over, one by one. -/
def setAll {α : Type} : List α → Nat → List α → List α
  | xs, _, [] => xs
  | xs, o, v :: r => setAll (xs.set o v) (o + 1) r
theorem setAll_mid {α : Type} : ∀ (b' b pre post : List α), b.length = b'.length → setAll (pre ++ b ++ post) pre.length b' = pre ++ b' ++ post
  | [], b, pre, post, h => by
    have : b = [] := List.eq_nil_of_length_eq_zero (by simpa using h)
    subst this
    simp [setAll]
  | v :: r, [], _, _, h => by simp at h
  | v :: r, x :: b, pre, post, h => by
    have ih := setAll_mid r b (pre ++ [v]) post (by simpa using h)
    simp only [setAll]
    have e : (pre ++ x :: b ++ post).set pre.length v = pre ++ [v] ++ b ++ post := by simp
    rw [e]
    simp only [List.length_append, List.length_cons, List.length_nil] at ih
    rw [Nat.zero_add] at ih
    rw [ih]
    simp
theorem flatten_len {α : Type} {m : Nat} : ∀ (bl : List (List α)), (∀ b ∈ bl, b.length = m) → bl.flatten.length = bl.length * m
  | [], _ => by simp
  | b :: r, h => by
    have := flatten_len r (fun x hx => h x (by simp [hx]))
    have hb := h b (by simp)
    simp only [List.flatten_cons, List.length_append, List.length_cons, this, hb]
    rw [Nat.succ_mul]; omega
theorem split_at {α : Type} (bl : List α) (i : Nat) (d : α) (h : i < bl.length) : bl = bl.take i ++ bl.getD i d :: bl.drop (i + 1) := by
  have e := List.take_append_drop i bl
  rw [List.drop_eq_getElem_cons h] at e
  have : bl.getD i d = bl[i] := by simp [List.getD, h]
  rw [this]
  exact e.symm
theorem flatten_set {α : Type} {m : Nat} (bl : List (List α)) (i : Nat) (b' : List α) (hi : i < bl.length) (hm : ∀ b ∈ bl, b.length = m) (hb : b'.length = m) :
    (bl.set i b').flatten = setAll bl.flatten (i * m) b' := by
  have hs := split_at bl i [] hi
  have hl : (bl.take i).flatten.length = i * m := by
    rw [flatten_len _ (fun x hx => hm x (List.mem_of_mem_take hx))]
    rw [List.length_take, Nat.min_eq_left (by omega)]
  have hbi : (bl.getD i []).length = m := hm _ (by simp [List.getD, hi])
  have e1 : bl.flatten = (bl.take i).flatten ++ bl.getD i [] ++ (bl.drop (i + 1)).flatten := by
    conv => lhs; rw [hs]
    simp
  have e2 : (bl.set i b').flatten = (bl.take i).flatten ++ b' ++ (bl.drop (i + 1)).flatten := by
    rw [List.set_eq_take_append_cons_drop, if_pos hi]
    simp
  rw [e1, e2, ← hl]
  exact (setAll_mid b' _ _ _ (by omega)).symm
theorem flatten_at {α : Type} {m : Nat} (bl : List (List α)) (i j : Nat) (hi : i < bl.length) (hm : ∀ b ∈ bl, b.length = m) (hj : j < m) :
    bl.flatten[i * m + j]? = (bl.getD i [])[j]? := by
  have hs := split_at bl i [] hi
  have hl : (bl.take i).flatten.length = i * m := by
    rw [flatten_len _ (fun x hx => hm x (List.mem_of_mem_take hx))]
    rw [List.length_take, Nat.min_eq_left (by omega)]
  have hbi : (bl.getD i []).length = m := hm _ (by simp [List.getD, hi])
  have e1 : bl.flatten = (bl.take i).flatten ++ (bl.getD i [] ++ (bl.drop (i + 1)).flatten) := by
    conv => lhs; rw [hs]
    simp
  rw [e1, List.getElem?_append_right (by omega), hl, Nat.add_sub_cancel_left, List.getElem?_append_left (by omega)]

/-- A sector: 64 bytes. -/
def Sec (s : List Int) : Prop := s.length = 64 ∧ ∀ b ∈ s, 0 ≤ b ∧ b ≤ 255
def nought : List Int := List.replicate 64 0
theorem sec_nought : Sec nought := ⟨by simp [nought], fun b hb => by simp [nought] at hb; omega⟩

/-- A disk as the document has it. -/
structure Dk where
  last : List (List Int)
  wait : List (Nat × List Int)
  writes : Int
  left : Int

/-- Writes done one by one. -/
def app (l : List (List Int)) : List (Nat × List Int) → List (List Int)
  | [] => l
  | x :: r => app (l.set x.1 x.2) r
theorem app_snoc (l : List (List Int)) (ws : List (Nat × List Int)) (x : Nat × List Int) : app l (ws ++ [x]) = (app l ws).set x.1 x.2 := by
  induction ws generalizing l with
  | nil => rfl
  | cons y r ih => exact ih _
theorem app_len (l : List (List Int)) (ws : List (Nat × List Int)) : (app l ws).length = l.length := by
  induction ws generalizing l with
  | nil => rfl
  | cons y r ih => simp [app, ih]
/-- The last of the Writes to sector i, else what stood there. -/
def lastOf (i : Nat) (d : List Int) : List (Nat × List Int) → List Int
  | [] => d
  | x :: r => lastOf i (if x.1 = i then x.2 else d) r
theorem lastOf_snoc (i : Nat) (d : List Int) (ws : List (Nat × List Int)) (x : Nat × List Int) : lastOf i d (ws ++ [x]) = if x.1 = i then x.2 else lastOf i d ws := by
  induction ws generalizing d with
  | nil => rfl
  | cons y r ih => exact ih _
theorem app_at (l : List (List Int)) (ws : List (Nat × List Int)) (i : Nat) (hi : i < l.length) : (app l ws).getD i [] = lastOf i (l.getD i []) ws := by
  induction ws generalizing l with
  | nil => rfl
  | cons y r ih =>
    simp only [app, lastOf]
    rw [ih (l.set y.1 y.2) (by simpa using hi)]
    congr 1
    by_cases h : y.1 = i
    · subst h; simp [List.getD, hi]
    · simp [List.getD, h]

/-- What is kept of what waits, the first of it number k. -/
def keptFrom (keep : List Int) : Nat → List (Nat × List Int) → List (Nat × List Int)
  | _, [] => []
  | k, x :: r => if (k : Int) ∈ keep then x :: keptFrom keep (k + 1) r else keptFrom keep (k + 1) r
def kept (keep : List Int) (ws : List (Nat × List Int)) : List (Nat × List Int) := keptFrom keep 0 ws
theorem keptFrom_snoc (keep : List Int) (k : Nat) (ws : List (Nat × List Int)) (x : Nat × List Int) :
    keptFrom keep k (ws ++ [x]) = keptFrom keep k ws ++ (if ((k + ws.length : Nat) : Int) ∈ keep then [x] else []) := by
  induction ws generalizing k with
  | nil => simp [keptFrom]
  | cons y r ih =>
    have e : k + (y :: r).length = (k + 1) + r.length := by simp; omega
    rw [e]
    simp only [List.cons_append, keptFrom, ih]
    split <;> simp
theorem kept_snoc (keep : List Int) (ws : List (Nat × List Int)) (x : Nat × List Int) :
    kept keep (ws ++ [x]) = kept keep ws ++ (if (ws.length : Int) ∈ keep then [x] else []) := by
  have := keptFrom_snoc keep 0 ws x
  simpa [kept] using this
theorem keptFrom_mem {keep : List Int} {k : Nat} {ws : List (Nat × List Int)} {x : Nat × List Int} (h : x ∈ keptFrom keep k ws) : x ∈ ws := by
  induction ws generalizing k with
  | nil => simp [keptFrom] at h
  | cons y r ih =>
    simp only [keptFrom] at h
    split at h
    · rcases List.mem_cons.1 h with rfl | h
      · simp
      · simp [ih h]
    · simp [ih h]
theorem kept_mem {keep : List Int} {ws : List (Nat × List Int)} {x : Nat × List Int} (h : x ∈ kept keep ws) : x ∈ ws := keptFrom_mem h
theorem kept_nil (ws : List (Nat × List Int)) : kept [] ws = [] := by
  have : ∀ k, keptFrom [] k ws = [] := by
    induction ws with
    | nil => intro k; rfl
    | cons y r ih => intro k; simp [keptFrom, ih]
  exact this 0

def burn (left : Int) : Int := if left = -1 then -1 else left - 1
def Dk.now (d : Dk) : List (List Int) := app d.last d.wait
def Dk.new (n : Nat) : Dk := ⟨List.replicate n nought, [], 0, -1⟩
def Dk.write (d : Dk) (i : Nat) (s : List Int) : Dk := ⟨d.last, d.wait ++ [(i, s)], d.writes + 1, burn d.left⟩
def Dk.flush (d : Dk) : Dk := ⟨d.now, [], d.writes, burn d.left⟩
def Dk.crash (d : Dk) (keep : List Int) : Dk := ⟨app d.last (kept keep d.wait), [], d.writes, -1⟩
def Dk.fuse (d : Dk) (n : Int) : Dk := if d.left = 0 then d else ⟨d.last, d.wait, d.writes, max n (-1)⟩

/-- What a disk of n sectors keeps to. -/
structure Dk.Ok (d : Dk) (n : Nat) : Prop where
  len : d.last.length = n
  secs : ∀ s ∈ d.last, Sec s
  waits : ∀ x ∈ d.wait, x.1 < n ∧ Sec x.2
  left0 : -1 ≤ d.left
  left1 : d.left ≤ 9223372036854775807
  w0 : 0 ≤ d.writes

theorem app_secs {l : List (List Int)} {ws : List (Nat × List Int)} (hl : ∀ s ∈ l, Sec s) (hw : ∀ x ∈ ws, Sec x.2) : ∀ s ∈ app l ws, Sec s := by
  induction ws generalizing l with
  | nil => exact hl
  | cons y r ih =>
    refine ih (fun s hs => ?_) (fun x hx => hw x (by simp [hx]))
    rcases List.mem_or_eq_of_mem_set hs with h | h
    · exact hl s h
    · subst h; exact hw y (by simp)
theorem Dk.Ok.now_len {d : Dk} {n : Nat} (h : d.Ok n) : d.now.length = n := by rw [Dk.now, app_len]; exact h.len
theorem Dk.Ok.now_secs {d : Dk} {n : Nat} (h : d.Ok n) : ∀ s ∈ d.now, Sec s := app_secs h.secs (fun x hx => (h.waits x hx).2)
theorem burn_bounds {l : Int} (h0 : -1 ≤ l) (h1 : l ≤ 9223372036854775807) (_hd : l ≠ 0) : -1 ≤ burn l ∧ burn l ≤ 9223372036854775807 := by unfold burn; split <;> omega
theorem Dk.ok_new (n : Nat) : (Dk.new n).Ok n :=
  ⟨by simp [Dk.new], fun s hs => by simp [Dk.new] at hs; rw [hs.2]; exact sec_nought, fun x hx => by simp [Dk.new] at hx, by simp [Dk.new], by simp [Dk.new], by simp [Dk.new]⟩
theorem Dk.Ok.write {d : Dk} {n i : Nat} {s : List Int} (h : d.Ok n) (hd : d.left ≠ 0) (hi : i < n) (hs : Sec s) : (d.write i s).Ok n :=
  ⟨h.len, h.secs, fun x hx => by
    rcases List.mem_append.1 hx with hx | hx
    · exact h.waits x hx
    · simp at hx; subst hx; exact ⟨hi, hs⟩, (burn_bounds h.left0 h.left1 hd).1, (burn_bounds h.left0 h.left1 hd).2, by have := h.w0; simp [Dk.write]; omega⟩
theorem Dk.Ok.flush {d : Dk} {n : Nat} (h : d.Ok n) (hd : d.left ≠ 0) : d.flush.Ok n :=
  ⟨h.now_len, h.now_secs, fun x hx => by simp [Dk.flush] at hx, (burn_bounds h.left0 h.left1 hd).1, (burn_bounds h.left0 h.left1 hd).2, h.w0⟩
theorem Dk.Ok.crash {d : Dk} {n : Nat} (h : d.Ok n) (keep : List Int) : (d.crash keep).Ok n :=
  ⟨by simp [Dk.crash, app_len, h.len], app_secs h.secs (fun x hx => (h.waits x (kept_mem hx)).2), fun x hx => by simp [Dk.crash] at hx, by simp [Dk.crash], by simp [Dk.crash], h.w0⟩
theorem Dk.Ok.fuse {d : Dk} {n : Nat} (h : d.Ok n) {k : Int} (hk : k ≤ 9223372036854775807) : (d.fuse k).Ok n := by
  unfold Dk.fuse
  split
  · exact h
  · exact ⟨h.len, h.secs, h.waits, by simp; omega, by simp; omega, h.w0⟩

/-- The second loop of Crash: what waited is as it lasts. -/
def back (l : List (List Int)) (nw : List (List Int)) : List (Nat × List Int) → List (List Int)
  | [] => nw
  | x :: r => back l (nw.set x.1 (l.getD x.1 [])) r
theorem back_snoc (l nw : List (List Int)) (ws : List (Nat × List Int)) (x : Nat × List Int) : back l nw (ws ++ [x]) = (back l nw ws).set x.1 (l.getD x.1 []) := by
  induction ws generalizing nw with
  | nil => rfl
  | cons y r ih => exact ih _
theorem back_len (l nw : List (List Int)) (ws : List (Nat × List Int)) : (back l nw ws).length = nw.length := by
  induction ws generalizing nw with
  | nil => rfl
  | cons y r ih => simp [back, ih]
theorem back_at (l nw : List (List Int)) (ws : List (Nat × List Int)) (i : Nat) (hi : i < nw.length) :
    (back l nw ws).getD i [] = if ∃ x ∈ ws, x.1 = i then l.getD i [] else nw.getD i [] := by
  induction ws generalizing nw with
  | nil => simp [back]
  | cons y r ih =>
    rw [back, ih _ (by simpa using hi)]
    by_cases h : ∃ x ∈ r, x.1 = i
    · have : ∃ x ∈ y :: r, x.1 = i := by obtain ⟨x, hx, e⟩ := h; exact ⟨x, by simp [hx], e⟩
      rw [if_pos h, if_pos this]
    · rw [if_neg h]
      by_cases hy : y.1 = i
      · rw [if_pos ⟨y, by simp, hy⟩]
        subst hy; simp [List.getD, hi]
      · rw [if_neg (by rintro ⟨x, hx, e⟩; rcases List.mem_cons.1 hx with rfl | hx; exact hy e; exact h ⟨x, hx, e⟩)]
        simp [List.getD, hy]
theorem lastOf_none {i : Nat} {d : List Int} {ws : List (Nat × List Int)} (h : ¬ ∃ x ∈ ws, x.1 = i) : lastOf i d ws = d := by
  induction ws generalizing d with
  | nil => rfl
  | cons y r ih =>
    rw [lastOf, if_neg (fun e => h ⟨y, by simp, e⟩)]
    exact ih (fun ⟨x, hx, e⟩ => h ⟨x, by simp [hx], e⟩)
theorem back_all {l : List (List Int)} {ws : List (Nat × List Int)} {keep : List Int} : back (app l (kept keep ws)) (app l ws) ws = app l (kept keep ws) := by
  apply List.ext_getElem (by simp [back_len, app_len])
  intro i h1 h2
  have hi : i < l.length := by simpa [app_len] using h2
  have e := back_at (app l (kept keep ws)) (app l ws) ws i (by simpa [app_len] using hi)
  have e1 : (back (app l (kept keep ws)) (app l ws) ws).getD i [] = (back (app l (kept keep ws)) (app l ws) ws)[i] := by simp [List.getD, h1]
  have e2 : (app l (kept keep ws)).getD i [] = (app l (kept keep ws))[i] := by simp [List.getD, h2]
  rw [← e1, ← e2, e]
  split
  · rfl
  · rename_i hn
    rw [app_at _ _ _ hi, app_at _ _ _ hi, lastOf_none hn, lastOf_none (fun ⟨x, hx, e⟩ => hn ⟨x, kept_mem hx, e⟩)]
end Go.Proofs.YtafopokcfkgjiaaDoor
