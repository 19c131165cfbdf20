/-
  The plain mathematics of layer 4: what a Flush on a new disk leaves is read back by Open.
-/
import Derived.Test.YthhlbhnogcfnjaaDoorWFlush
import Derived.Test.YthhlbhnogcfnjaaDoorWBack
import Derived.Test.YthhlbhnogcfnjaaDoorMG
namespace Go.Proofs.YthhlbhnogcfnjaaDoor
open Go.RowKit

theorem tailP_now (at' sc n : Nat) (hsc : at' + sc ≤ n) : ∀ (ps : List (List Int)) (d : Dk) (no : Nat), d.left = -1 → d.now.length = n → no + ps.length ≤ sc - 1 → ∀ j, (tailP at' sc d no ps).1.now.getD j [] = if at' + 1 + no ≤ j ∧ j < at' + 1 + no + ps.length then secL (j - at' - 1) (ps.getD (j - at' - 1 - no) []) else d.now.getD j []
  | [], d, no, _, _, _, j => by
    rw [tailP, if_neg (by simp)]
  | p :: ps, d, no, hl, hn, hf, j => by
    rw [List.length_cons] at hf
    have h0 : ¬ d.left = 0 := by omega
    have hm : no % (sc - 1) = no := Nat.mod_eq_of_lt (by omega)
    have hnow : (d.write (at' + 1 + no) (secL no p)).now = d.now.set (at' + 1 + no) (secL no p) := app_snoc _ _ _
    rw [tailP, if_neg h0, hm, tailP_now at' sc n hsc ps _ (no + 1) (by simp [Dk.write, burn, hl]) (by rw [hnow, List.length_set]; exact hn) (by omega) j, hnow]
    rw [List.length_cons]
    by_cases h1 : at' + 1 + (no + 1) ≤ j ∧ j < at' + 1 + (no + 1) + ps.length
    · rw [if_pos h1, if_pos (by omega)]
      rw [show j - at' - 1 - no = (j - at' - 1 - (no + 1)) + 1 by omega]
      simp only [List.getD_cons_succ]
    · rw [if_neg h1]
      by_cases h2 : j = at' + 1 + no
      · subst h2
        rw [if_pos (by omega), show at' + 1 + no - at' - 1 = no by omega, Nat.sub_self]
        simp only [List.getD_eq_getElem?_getD, List.getElem?_set_self (show at' + 1 + no < d.now.length by omega), Option.getD_some]
        rfl
      · rw [if_neg (by omega)]
        simp only [List.getD_eq_getElem?_getD]
        rw [List.getElem?_set_ne (by omega)]
theorem cut48_get {q k : Nat} {zs : List Int} (h : k < q) : (cut48 q zs).getD k [] = (zs.drop (48 * k)).take 48 := by
  rw [List.getD_eq_getElem?_getD, cut48_at q zs k h]
  rfl
/-- What stands on a disk behind the first Flush of a new Log is taken up again, all of it and nothing else. -/
theorem read_back {now : List (List Int)} {at' sc n q : Nat} {rs : List (List Int)} (hsc : 16 ≤ sc ∧ sc ≤ 32768 ∧ at' + sc ≤ n) (ho : RecsOk rs) (hr : rs.length ≤ 1000000) (hq1 : bulkOf rs ≤ 48 * q) (hq2 : 48 * q < bulkOf rs + 48) (hq3 : q ≤ sc - 8)
    (hnow : ∀ j, j < n → now.getD j [] = if at' + 1 ≤ j ∧ j < at' + 1 + q then secL (j - at' - 1) (((framesL 1 rs).drop (48 * (j - at' - 1))).take 48) else nought) :
    openG now at' sc = { first := 1, recs := rs, start := 0, stop := bulkOf rs, flushed := rs.length, tail := (framesL 1 rs).drop (bulkOf rs / 48 * 48) } := by
  have hfl := frames_len rs 1 ho (by omega)
  have hfb := frames_by rs 1 ho (by omega)
  have h0 : now.getD at' [] = nought := by rw [hnow at' (by omega), if_neg (by omega)]
  have h1 : headF (now.getD at' []) = 1 := by rw [h0, headF, hd_not]; rfl
  have h2 : headS (now.getD at' []) = 0 := by rw [h0, headS, hd_not]; rfl
  obtain ⟨pad, hpad⟩ : ∃ pad, pad = 48 * q - bulkOf rs := ⟨_, rfl⟩
  have h3 : strm now at' sc 0 = framesL 1 rs ++ zeros pad := by
    rw [strm, hpad, ← hfl]
    refine strm_back q (sc - 1) 0 (framesL 1 rs) hfb (by omega) (by omega) (by omega) (by omega) (fun i hi => ?_) ?_
    · rw [Nat.zero_add, sectAt, Nat.mod_eq_of_lt (by omega), hnow _ (by omega), if_pos (by omega), show at' + 1 + i - at' - 1 = i by omega]
    · rw [Nat.zero_add, sectAt, Nat.mod_eq_of_lt (by omega), hnow _ (by omega), if_neg (by omega), nought_not]
      simp
  have hlen : (framesL 1 rs ++ zeros pad).length = 48 * q := by rw [List.length_append, zeros_len, hfl]; omega
  have h4 : strmB now at' sc 0 = framesL 1 rs ++ zeros pad := by
    rw [strmB, Nat.zero_div, h3]
    split
    · rename_i hz
      rw [List.eq_nil_of_length_eq_zero hz]
      rfl
    · rfl
  have h5 : strmZ now at' sc 0 = framesL 1 rs ++ zeros pad := by
    rw [strmZ, h4, Nat.zero_mod, List.drop_zero, List.take_of_length_le (by rw [hlen]; omega)]
  have h6 : recsP (framesL 1 rs ++ zeros pad) ((1 : Nat) : Int) = rs := recs_back rs 1 (zeros pad) ho (by omega) (rc_zeros pad (by omega))
  rw [openG, h1, h2]
  show ({ first := 1, recs := recsP (strmZ now at' sc 0) ((1 : Nat) : Int), start := 0, stop := 0 + bulkOf (recsP (strmZ now at' sc 0) ((1 : Nat) : Int)), flushed := 1 + (recsP (strmZ now at' sc 0) ((1 : Nat) : Int)).length - 1, tail := ((strmB now at' sc 0).take (0 % 48 + bulkOf (recsP (strmZ now at' sc 0) ((1 : Nat) : Int)))).drop ((0 % 48 + bulkOf (recsP (strmZ now at' sc 0) ((1 : Nat) : Int))) / 48 * 48) } : Lg) = _
  rw [h5, h4, h6, Nat.zero_mod, Nat.zero_add, ← hfl, List.take_left, hfl, show 1 + rs.length - 1 = rs.length by omega]
/-- And nothing is to be cleared. -/
theorem clear_back {now : List (List Int)} {at' sc n q : Nat} {rs : List (List Int)} (hsc : 16 ≤ sc ∧ sc ≤ 32768 ∧ at' + sc ≤ n) (ho : RecsOk rs) (hr : rs.length ≤ 1000000) (hq2 : 48 * q < bulkOf rs + 48) (_hq3 : q ≤ sc - 8)
    (hnow : ∀ j, j < n → now.getD j [] = if at' + 1 ≤ j ∧ j < at' + 1 + q then secL (j - at' - 1) (((framesL 1 rs).drop (48 * (j - at' - 1))).take 48) else nought) :
    ∀ i, at' + 1 ≤ i → i < at' + sc → pcOk (now.getD i []) = false ∨ pcNo (now.getD i []) < ((bulkOf rs / 48 : Nat) : Int) ∨ (((framesL 1 rs).drop (bulkOf rs / 48 * 48)).length ≤ 48 ∧ now.getD i [] = secL (bulkOf rs / 48) ((framesL 1 rs).drop (bulkOf rs / 48 * 48))) := fun i h1 h2 => by
  have hfl := frames_len rs 1 ho (by omega)
  have hfb := frames_by rs 1 ho (by omega)
  rw [hnow i (by omega)]
  by_cases hi : at' + 1 ≤ i ∧ i < at' + 1 + q
  · rw [if_pos hi]
    obtain ⟨k, hk⟩ : ∃ k, k = i - at' - 1 := ⟨_, rfl⟩
    rw [← hk]
    obtain ⟨_, p2, _⟩ := pc_sec (no := k) (ps := ((framesL 1 rs).drop (48 * k)).take 48) (by omega) ((hfb.drop _).take _) (by rw [List.length_take]; omega)
    rw [p2]
    by_cases hlt : k < bulkOf rs / 48
    · exact .inr (.inl (by omega))
    · have hke : k = bulkOf rs / 48 := by omega
      have hl : ((framesL 1 rs).drop (bulkOf rs / 48 * 48)).length ≤ 48 := by rw [List.length_drop, hfl]; omega
      refine .inr (.inr ⟨hl, ?_⟩)
      rw [hke, show 48 * (bulkOf rs / 48) = bulkOf rs / 48 * 48 by omega, List.take_of_length_le hl]
  · rw [if_neg hi]
    exact .inl nought_not
end Go.Proofs.YthhlbhnogcfnjaaDoor
