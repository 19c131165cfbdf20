/-
  PackMany: the plain facts: numbers one behind the other; what is cut short.
-/
import Derived.Test.YtongdccpoefnlaaDoorBack
namespace Go.Proofs.YtongdccpoefnlaaDoor
open Go.RowKit Go.PlainAid

/-- Numbers with a sign, one behind the other. -/
def encL (ys : List Int) : List Int := ys.flatMap fun y => uv (zig y)
def endsL (ys : List Int) (k : Nat) : List Int := (List.range k).map fun i => ((encL (ys.take (i + 1))).length : Int)

theorem encL_append (a b : List Int) : encL (a ++ b) = encL a ++ encL b := by simp [encL]
theorem encL_succ {ys : List Int} {k : Nat} {y : Int} (hk : k < ys.length) (hy : y = ys.getD k 0) : encL (ys.take (k + 1)) = encL (ys.take k) ++ uv (zig y) := by
  rw [take_at hy hk, encL_append]
  simp [encL]
theorem encL_len (ys : List Int) : (encL ys).length ≤ 10 * ys.length := by
  induction ys with
  | nil => simp [encL]
  | cons y ys ih =>
    have h1 := uv_len (zig y)
    have h2 : encL (y :: ys) = uv (zig y) ++ encL ys := by simp [encL]
    rw [h2]
    simp
    omega
theorem encL_take_len (ys : List Int) (k : Nat) : (encL (ys.take k)).length ≤ 10 * k := by
  have h1 := encL_len (ys.take k)
  have h2 : (ys.take k).length ≤ k := List.length_take_le _ _
  omega
theorem encL_split {ys : List Int} {k : Nat} {y : Int} (hk : k < ys.length) (hy : y = ys.getD k 0) : encL ys = encL (ys.take k) ++ (uv (zig y) ++ encL (ys.drop (k + 1))) := by
  rw [← List.append_assoc, ← encL_succ hk hy, ← encL_append, List.take_append_drop]
theorem encL_byte {ys : List Int} (h : ∀ y ∈ ys, -9223372036854775808 ≤ y ∧ y ≤ 9223372036854775807) : ∀ b ∈ encL ys, 0 ≤ b ∧ b ≤ 255 := by
  intro b hb
  obtain ⟨y, hy, hb⟩ := List.mem_flatMap.1 hb
  have := h y hy
  exact uv_byte (zig_bounds this.1 this.2).1 (zig_bounds this.1 this.2).2 b hb
theorem endsL_succ (ys : List Int) (k : Nat) : endsL ys (k + 1) = endsL ys k ++ [((encL (ys.take (k + 1))).length : Int)] := by
  simp [endsL, List.range_succ]
theorem endsL_len (ys : List Int) (k : Nat) : (endsL ys k).length = k := by simp [endsL]
theorem endsL_at {ys : List Int} {k n : Nat} (h : k < n) : (endsL ys n).getD k 0 = ((encL (ys.take (k + 1))).length : Int) := by simp [endsL, h]

theorem dec_short : ∀ (f k : Nat) (X K : Int) (m : Nat), k + f ≤ 9 → m < (uvF f K).length → dec X k ((uvF f K).take m) = (0, 0, 4) := by
  intro f
  induction f with
  | zero =>
    intro k X K m _ hm
    obtain rfl : m = 0 := by simp [uvF] at hm; exact hm
    rfl
  | succ f ih =>
    intro k X K m hk hm
    cases m with
    | zero => rfl
    | succ m =>
      by_cases h : K < 128
      · rw [uvF_small _ h] at hm; simp at hm
      · rw [uvF_more _ (show 128 ≤ K by omega)] at hm ⊢
        have k9 : ¬ k = 9 := by omega
        have hc : 128 ≤ K % 128 + 128 := by omega
        simp only [List.take_succ_cons, dec, k9, false_and, if_false, hc, if_true]
        exact ih _ _ _ _ (by omega) (by simpa using hm)
/-- What is left of a text of numbers that is cut at kk, from the k-th on. -/
theorem cut_full {E A U R : List Int} {kk : Nat} (he : E = A ++ (U ++ R)) (h : A.length + U.length ≤ kk) : (E.take kk).drop A.length = U ++ R.take (kk - A.length - U.length) := by
  rw [he, List.take_append, List.take_of_length_le (by omega), List.drop_append_of_le_length (by simp), List.drop_length, List.nil_append, List.take_append, List.take_of_length_le (by omega)]
theorem cut_short {E A U R : List Int} {kk : Nat} (he : E = A ++ (U ++ R)) (h0 : A.length ≤ kk) (h : kk < A.length + U.length) : (E.take kk).drop A.length = U.take (kk - A.length) := by
  rw [he, List.take_append, List.take_of_length_le (by omega), List.drop_append_of_le_length (by simp), List.drop_length, List.nil_append, List.take_append_of_le_length (by omega)]

theorem intOf_short {w : World} {v : Value} {y : Int} {m : Nat} (h : Has w v ((uv (zig y)).take m)) (hm : m < (uv (zig y)).length) :
    Calls Tryd.prog 12 #[v] w fun e w' => e = .returned (.tuple #[.int .i64 0, .int .i64 0, .int .i64 4]) ∧ w' = w := by
  have := intOf_has h
  rw [show dec 0 0 ((uv (zig y)).take m) = (0, 0, 4) from dec_short 9 0 0 (zig y) m (by omega) hm] at this
  exact this

theorem own_below {w w' : World} {base : Nat} {e : TypeId} {size : Nat} {v : Value} {n : Nat} {xs : List Value} (h : w.ownsRow base e size v n xs) (hb : Below w.heap.size w w') : w'.ownsRow base e size v n xs := by
  refine ⟨h.1, ?_⟩
  rcases h.2 with hn | ⟨g, cap, cur, rfl, hg, hh, rest⟩
  · exact .inl hn
  · refine .inr ⟨g, cap, cur, rfl, hg, ?_, rest⟩
    rw [hb.block g (lt_of_block hh)]
    exact hh
theorem own_ne {w : World} {b1 b2 n m : Nat} {e1 e2 : TypeId} {v u : Value} {xs ys : List Value} {s1 s2 : Nat} (hv : w.ownsRow b1 e1 s1 v n xs) (hu : w.ownsRow b2 e2 s2 u m ys) (hne : e1 ≠ e2) : v.ownBlock = none ∨ v.ownBlock ≠ u.ownBlock := by
  rcases hv.2 with ⟨rfl, _⟩ | ⟨g, cap, cur, rfl, _, hh, _⟩
  · exact .inl rfl
  · refine .inr ?_
    rcases hu.2 with ⟨rfl, _⟩ | ⟨g', cap', cur', rfl, _, hh', _⟩
    · simp [Value.ownBlock]
    · intro h
      simp [Value.ownBlock] at h
      subst h
      rw [hh] at hh'
      simp at hh'
      exact hne hh'.2
theorem own_form {w : World} {base : Nat} {e : TypeId} {v : Value} {n : Nat} {xs : List Value} (h : w.ownsRow base e 1 v n xs) (hn : 1 ≤ n) : ∃ g cap, v = .slice (some ⟨g, 0, none⟩) n cap ∧ base ≤ g ∧ n ≤ cap ∧ cap ≤ maxLen := by
  rcases h.2 with ⟨rfl, h0⟩ | ⟨g, cap, cur, rfl, hg, _, hc, hm, _⟩
  · omega
  · exact ⟨g, cap, rfl, hg, hc, hm⟩
theorem own_any {w : World} {base : Nat} {e : TypeId} {v : Value} {n : Nat} {xs : List Value} (h : w.ownsRow base e 1 v n xs) : ∃ ao cap, v = .slice ao n cap ∧ n ≤ cap ∧ (1 ≤ n → ∃ g, ao = some ⟨g, 0, none⟩) := by
  rcases h.2 with ⟨rfl, rfl⟩ | ⟨g, cap, cur, rfl, hg, _, hc, hm, _⟩
  · exact ⟨none, 0, rfl, Nat.le_refl _, fun h => by omega⟩
  · exact ⟨_, cap, rfl, hc, fun _ => ⟨g, rfl⟩⟩
theorem own_cell {w : World} {base : Nat} {e : TypeId} {g n cap : Nat} {xs : List Int} {ik : IntKind} (h : w.ownsRow base e 1 (.slice (some ⟨g, 0, none⟩) n cap) n (xs.map (Value.int ik))) (k : Nat) (hk : k < xs.length) : w.cell? ⟨g, k, none⟩ = some (.int ik (xs.getD k 0)) := by
  have := h.cells (g := g) rfl k (.int ik (xs.getD k 0)) (by simp [List.getElem?_eq_getElem hk])
  rw [Addr.add_lit, Nat.zero_add] at this
  exact this
end Go.Proofs.YtongdccpoefnlaaDoor
