/-
  What was written is read as it was: the plain facts; appending bytes to a row that the call itself made.
-/
import Derived.Test.YtongdccpoefnlaaDoorRef
import Derived.Laws.AppendOwnNone
namespace Go.Proofs.YtongdccpoefnlaaDoor
open Go.RowKit Go.PlainAid

theorem dec_uvF : ∀ (f k : Nat) (X K : Int) (rest : List Int), 0 ≤ K → K < 2 * 128 ^ f → k + f = 9 → (K ≠ 0 ∨ k = 0) →
    dec X k (uvF f K ++ rest) = (X + K * 2 ^ (7 * k), (k : Int) + (uvF f K).length, 0) := by
  intro f
  induction f with
  | zero =>
    intro k X K rest h0 h1 hk hz
    obtain rfl : k = 9 := by omega
    have hK : K = 0 ∨ K = 1 := by simp at h1; omega
    rcases hK with rfl | rfl
    · omega
    · simp [uvF, dec]
  | succ f ih =>
    intro k X K rest h0 h1 hk hz
    have k9 : ¬ k = 9 := by omega
    by_cases h : K < 128
    · have hc : ¬ 128 ≤ K := by omega
      have hz' : ¬ (K = 0 ∧ 0 < k) := by omega
      have hm : K % 128 = K := by omega
      rw [uvF_small _ h]
      simp only [List.cons_append, List.nil_append, dec, k9, false_and, if_false, hc, hz', hm, List.length_cons, List.length_nil]
      simp
    · obtain ⟨g, hg, hr⟩ := room_step (show 128 ≤ K by omega) h1
      cases hg
      have hc : 128 ≤ K % 128 + 128 := by omega
      have hm : (K % 128 + 128) % 128 = K % 128 := by omega
      rw [uvF_more _ (show 128 ≤ K by omega)]
      simp only [List.cons_append, dec, k9, false_and, if_false, hc, if_true, hm]
      rw [ih (k + 1) _ (K / 128) rest (by omega) hr (by omega) (by omega)]
      have e : (2 : Int) ^ (7 * (k + 1)) = 128 * 2 ^ (7 * k) := (pow7 (show k ≤ 8 by omega)).1
      have e2 : X + K % 128 * 2 ^ (7 * k) + K / 128 * 2 ^ (7 * (k + 1)) = X + K * 2 ^ (7 * k) := by
        rw [e]
        generalize (2 : Int) ^ (7 * k) = p
        have hd : K = K % 128 + 128 * (K / 128) := by omega
        generalize K % 128 = r at *
        generalize K / 128 = q at *
        subst hd
        rw [Int.add_mul, Int.add_assoc, Int.mul_assoc]
        congr 2
        rw [Int.mul_left_comm]
      rw [e2]
      simp
      omega
theorem dec_uv {x : Int} (h0 : 0 ≤ x) (h1 : x ≤ 18446744073709551615) (rest : List Int) : dec 0 0 (uv x ++ rest) = (x, ((uv x).length : Int), 0) := by
  have := dec_uvF 9 0 0 x rest h0 (room_start h1) rfl (.inr rfl)
  unfold uv
  rw [this]
  simp
theorem zag_zig (y : Int) : zag (zig y) = y := by
  unfold zag zig
  split <;> split <;> omega

theorem Has.byte {w : World} {v : Value} {zs : List Int} (h : Has w v zs) : ∀ b ∈ zs, 0 ≤ b ∧ b ≤ 255 := h.str.2.1

/-- 'append(buf, xs...)', buf a row of bytes that the call itself made, xs bytes of whatever kind. -/
theorem wpList_append_has {w : World} {ops : Array Oper} {rest : List Oper} {o : Oper} {a : Act} {Q : Exit → Act → World → Prop} (hgd : o.guard = none) (s x : Operand)
    (ho : o.op = .call { callee := .builtin .append, args := #[s, x], argTypes := #[22, 22] })
    (base : Nat) (v : Value) (n : Nat) (xs : List Value) (hs : a.eval s = v) (hown : w.ownsRow base 5 1 v n xs) (u : Value) (zs : List Int) (hx : a.eval x = u) (hu : Has w u zs)
    (hbytes : n + zs.length ≤ 140737488355328) (hbase : base ≤ w.heap.size)
    (h : ∀ v' w', w'.ownsRow base 5 1 v' (n + zs.length) (xs ++ zs.map (Value.int .u8)) → w.grownBy w' v.ownBlock → wpList Tryd.prog ops Q rest (a.put o.dst v') w') : wpList Tryd.prog ops Q (o :: rest) a w := by
  obtain ⟨i0, hi, hz0, hz1, hz2⟩ := info_parts info5
  rcases hu.2.2 with ⟨ao, cap, rfl, rfl, hn⟩ | ⟨b, off, cap, rfl, _, hc⟩
  · cases ao with
    | none =>
      obtain rfl := hn rfl
      exact wpList_append_own_none hgd s x 22 ho base 5 i0 1 Tryd.underlying22 hi v n xs hs hown hx (h v w (by simpa using hown) (World.grownBy.refl _ _))
    | some ad =>
      exact wpList_append_own w hgd s x 22 ho base 5 i0 (.int .u8 0) 1 1 Tryd.underlying22 hi hz0 hz1 hz2 rfl (by decide) v n xs hs hown ad 0 cap [] hx rfl (by intro j u hj; simp at hj) (by intro u hu; simp at hu) (by unfold maxLen; simp at hbytes; omega) (by simp at hbytes; omega) hbase
        (fun v' w' h1 h2 _ => h v' w' (by simpa using h1) h2)
  · refine wpList_append_own w hgd s x 22 ho base 5 i0 (.int .u8 0) 1 1 Tryd.underlying22 hi hz0 hz1 hz2 rfl (by decide) v n xs hs hown ⟨b, off, none⟩ zs.length cap (zs.map (Value.int .u8)) hx (by simp) (fun j u hj => ?_) (ints_oneCell _ _) (by unfold maxLen; omega) (by omega) hbase
        (fun v' w' h1 h2 _ => h v' w' h1 h2)
    have hjl : j < zs.length := by
      have := (List.getElem?_eq_some_iff.1 hj).1
      simpa using this
    rw [Addr.add_lit, hc j hjl, ← hj]
    simp [hjl]
/-- A slice of a slice of bytes. -/
theorem Has.cutAt {w : World} {ao : Option Addr} {len cap lo hi : Nat} {zs : List Int} (h : Has w (.slice ao len cap) zs) (h1 : lo ≤ hi) (h2 : hi ≤ zs.length) : Has w (.slice (if cap = lo then ao else ao.map (·.add lo)) (hi - lo) (cap - lo)) ((zs.take hi).drop lo) := by
  have hb : ∀ b ∈ (zs.take hi).drop lo, 0 ≤ b ∧ b ≤ 255 := fun b hb => h.byte b (List.mem_of_mem_take (List.mem_of_mem_drop hb))
  have hlen : ((zs.take hi).drop lo).length = hi - lo := by simp; omega
  refine ⟨range_of hb, by have := h.2.1; omega, ?_⟩
  rcases h.2.2 with ⟨a, c, hv, rfl, hn⟩ | ⟨b, off, c, hv, hcap, hc⟩
  · injection hv with e1 e2 e3
    subst e1 e2 e3
    obtain rfl : hi = 0 := by simpa using h2
    obtain rfl : lo = 0 := by omega
    refine .inl ⟨_, _, rfl, by simp, fun hno => ?_⟩
    cases ao with
    | none => simp [hn rfl]
    | some ad => split at hno <;> simp at hno
  · injection hv with e1 e2 e3
    subst e1 e2 e3
    by_cases h0 : hi = lo
    · subst h0
      refine .inl ⟨if cap = hi then some ⟨b, off, none⟩ else some (Addr.add ⟨b, off, none⟩ hi), cap - hi, by simp, ?_, fun hno => ?_⟩
      · exact List.eq_nil_of_length_eq_zero (by omega)
      · split at hno <;> simp at hno
    · refine .inr ⟨b, off + lo, cap - lo, ?_, by omega, fun j hj => ?_⟩
      · rw [if_neg (by omega), hlen]
        simp [Addr.add_lit]
      · rw [hlen] at hj
        rw [Nat.add_assoc, hc (lo + j) (by omega)]
        simp [show lo + j < hi by omega]

/-- '[]byte{}', just laid, is a row of the call's own. -/
theorem own_empty (w : World) (base : Nat) (hb : base ≤ w.heap.size) : (w.alloc (.cells #[] 5)).ownsRow base 5 1 (.slice (some ⟨w.heap.size, 0, none⟩) 0 0) 0 [] := by
  refine ⟨rfl, .inr ⟨w.heap.size, 0, #[], rfl, hb, ?_, Nat.le_refl _, Nat.zero_le _, rfl, rfl⟩⟩
  show (w.heap.push _)[w.heap.size]? = _
  simp
theorem has_two {w : World} {base : Nat} {v : Value} {a b : List Int} (h : w.ownsRow base 5 1 v (0 + a.length + b.length) ([] ++ a.map (Value.int .u8) ++ b.map (Value.int .u8))) (ha : ∀ x ∈ a, 0 ≤ x ∧ x ≤ 255) (hb : ∀ x ∈ b, 0 ≤ x ∧ x ≤ 255) (hl : a.length + b.length ≤ 140737488355328) : Has w v (a ++ b) := by
  refine has_of_own (n := 0 + a.length + b.length) (base := base) (by simpa using h) (fun x hx => ?_) (by simpa using hl)
  rcases List.mem_append.1 hx with hx | hx
  · exact ha x hx
  · exact hb x hx
theorem var_back {w : World} {v : Value} {x : Int} {zs : List Int} (h : Has w v (uv x ++ zs)) (h0 : 0 ≤ x) (h1 : x ≤ 18446744073709551615) :
    Calls Tryd.prog 16 #[v] w fun e w' => e = .returned (.tuple #[.int .u64 x, .int .i64 (uv x).length, .int .i64 0]) ∧ w' = w := by
  have := var_has h
  rw [dec_uv h0 h1] at this
  exact this
theorem intOf_back {w : World} {v : Value} {y : Int} {zs : List Int} (h : Has w v (uv (zig y) ++ zs)) (h0 : -9223372036854775808 ≤ y) (h1 : y ≤ 9223372036854775807) :
    Calls Tryd.prog 12 #[v] w fun e w' => e = .returned (.tuple #[.int .i64 y, .int .i64 (uv (zig y)).length, .int .i64 0]) ∧ w' = w := by
  have := intOf_has h
  rw [dec_uv (zig_bounds h0 h1).1 (zig_bounds h0 h1).2, zag_zig] at this
  exact this
end Go.Proofs.YtongdccpoefnlaaDoor
