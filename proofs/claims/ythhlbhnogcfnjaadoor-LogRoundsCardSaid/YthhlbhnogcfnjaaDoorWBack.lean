/-
  The plain mathematics of layer 4: what is written is read back: a piece in its sector, a record in its frame, records one behind the other, pieces one behind the other.
-/
import Derived.Test.YthhlbhnogcfnjaaDoorME
namespace Go.Proofs.YthhlbhnogcfnjaaDoor
open Go.RowKit

theorem zeros_drop (n k : Nat) : (zeros n).drop k = zeros (n - k) := by simp [zeros]
theorem zeros_take (n k : Nat) : (zeros n).take k = zeros (min k n) := by simp [zeros]
theorem zeros_app (n k : Nat) : zeros n ++ zeros k = zeros (n + k) := by simp [zeros, List.replicate_append_replicate]
theorem drop_len (a b : List Int) {n : Nat} (h : a.length = n) : (a ++ b).drop n = b := by rw [← h, List.drop_left]
theorem take_len (a b : List Int) {n : Nat} (h : a.length = n) : (a ++ b).take n = a := by rw [← h, List.take_left]
theorem lay2 (ps U : List Int) (h1 : ps.length ≤ 48) (h2 : U.length ≤ 12) : splice (splice (zeros 60) 0 ps) 48 U = (ps ++ zeros (48 - ps.length)) ++ (U ++ zeros (12 - U.length)) := by
  have e1 : splice (zeros 60) 0 ps = ps ++ zeros (60 - ps.length) := by simp [splice, zeros_drop]
  rw [e1, splice, List.take_append, List.drop_append, zeros_drop, zeros_take, List.take_of_length_le h1, List.drop_of_length_le (by omega : ps.length ≤ 48 + U.length)]
  rw [show min (48 - ps.length) (60 - ps.length) = 48 - ps.length by omega, show 60 - ps.length - (48 + U.length - ps.length) = 12 - U.length by omega]
  simp
/-- A sector's body, laid out. -/
theorem secB_form {no : Nat} {ps : List Int} (h2 : ps.length ≤ 48) : secB no ps = (ps ++ zeros (48 - ps.length)) ++ (uv no ++ zeros (12 - (uv no).length)) :=
  lay2 ps (uv no) h2 (by have := uv_len (no : Int); omega)
/-- A piece is read back out of its sector. -/
theorem pc_sec {no : Nat} {ps : List Int} (hno : no ≤ 18446744073709551615) (hb : By ps) (h2 : ps.length ≤ 48) : pcOk (secL no ps) = true ∧ pcNo (secL no ps) = no ∧ pcBy (secL no ps) = ps ++ zeros (48 - ps.length) := by
  have hu := uv_len (no : Int)
  have hub : By (uv no) := uv_byte (by omega) (by omega)
  have hfb : By (secB no ps) := splice_by (splice_by (By.zeros _) hb) hub
  obtain ⟨o1, o2⟩ := open_seal hfb
  have hl : (ps ++ zeros (48 - ps.length)).length = 48 := by rw [List.length_append, zeros_len]; omega
  have hd : (secB no ps).drop 48 = uv no ++ zeros (12 - (uv no).length) := by rw [secB_form h2]; exact drop_len _ _ hl
  have ht : (secB no ps).take 48 = ps ++ zeros (48 - ps.length) := by rw [secB_form h2]; exact take_len _ _ hl
  have hdec := dec_uv (x := (no : Int)) (by omega) (by omega) (zeros (12 - (uv no).length))
  have hok : pcOk (secL no ps) = true := by simp [pcOk, secL, o1, o2, hd, hdec]
  refine ⟨hok, ?_, ?_⟩
  · rw [pcNo, if_pos hok, secL, o2, hd, hdec]
  · rw [pcBy, if_pos hok, secL, o2, ht]
theorem lay3 (U V rec : List Int) (h : U.length + V.length ≤ 12) : splice (splice (splice (zeros (12 + rec.length)) 0 U) U.length V) 12 rec = (U ++ (V ++ zeros (12 - U.length - V.length))) ++ rec := by
  have e1 : splice (zeros (12 + rec.length)) 0 U = U ++ zeros (12 + rec.length - U.length) := by simp [splice, zeros_drop]
  have e2 : splice (U ++ zeros (12 + rec.length - U.length)) U.length V = (U ++ (V ++ zeros (12 - U.length - V.length))) ++ zeros rec.length := by
    rw [splice, List.take_left, List.drop_append, List.drop_of_length_le (by omega : U.length ≤ U.length + V.length), zeros_drop, List.nil_append, List.append_assoc, List.append_assoc, zeros_app]
    rw [show 12 + rec.length - U.length - (U.length + V.length - U.length) = 12 - U.length - V.length + rec.length by omega]
  have hl : (U ++ (V ++ zeros (12 - U.length - V.length))).length = 12 := by simp only [List.length_append, zeros_len]; omega
  rw [e1, e2]
  generalize U ++ (V ++ zeros (12 - U.length - V.length)) = H at hl
  rw [splice, take_len _ _ hl, List.drop_of_length_le (by rw [List.length_append, zeros_len, hl]; omega), List.append_nil]
/-- A frame's body, laid out. -/
theorem frameB_form {lsn : Nat} {rec : List Int} (h2 : rec.length ≤ 2000) : frameB lsn rec = (uv lsn ++ (uv rec.length ++ zeros (12 - (uv lsn).length - (uv rec.length).length))) ++ rec :=
  lay3 (uv lsn) (uv rec.length) rec (by have := uv_len (lsn : Int); have := uv_two (x := (rec.length : Int)) (by omega) (by omega); omega)
theorem headLen {U V : List Int} (h : U.length + V.length ≤ 12) : (U ++ (V ++ zeros (12 - U.length - V.length))).length = 12 := by simp only [List.length_append, zeros_len]; omega
/-- A record is read back out of its frame, whatever stands behind it. -/
theorem rc_frame {lsn : Nat} {rec : List Int} (hls : lsn ≤ 5000000000000000000) (hb : By rec) (h2 : rec.length ≤ 2000) (rest : List Int) : rcOk (frameL lsn rec ++ rest) lsn = true ∧ rcBy (frameL lsn rec ++ rest) lsn = rec ∧ (frameL lsn rec).length = rec.length + 16 := by
  have hu := uv_len (lsn : Int)
  have hv := uv_two (x := (rec.length : Int)) (by omega) (by omega)
  have hub : By (uv lsn) := uv_byte (by omega) (by omega)
  have hub2 : By (uv rec.length) := uv_byte (by omega) (by omega)
  have hfb : By (frameB lsn rec) := splice_by (splice_by (splice_by (By.zeros _) hub) hub2) hb
  have hlen := frameB_len hu.2 hv
  have hLl : (frameL lsn rec).length = rec.length + 16 := by rw [frameL, sealL_len, hlen]; omega
  obtain ⟨o1, o2⟩ := open_seal hfb
  obtain ⟨r1, hr1⟩ : ∃ r1, frameL lsn rec ++ rest = uv lsn ++ (uv rec.length ++ r1) := by
    rw [frameL, sealL, frameB_form h2]
    simp only [List.append_assoc]
    exact ⟨_, rfl⟩
  have d1 : dec 0 0 (frameL lsn rec ++ rest) = ((lsn : Int), ((uv lsn).length : Int), 0) := by rw [hr1]; exact dec_uv (by omega) (by omega) _
  have d2 : (frameL lsn rec ++ rest).drop ((uv (lsn : Int)).length : Int).toNat = uv rec.length ++ r1 := by rw [hr1, Int.toNat_natCast, List.drop_left]
  have d3 : dec 0 0 (uv (rec.length : Int) ++ r1) = ((rec.length : Int), ((uv rec.length).length : Int), 0) := dec_uv (by omega) (by omega) _
  have hsz : rcSize (frameL lsn rec ++ rest) = rec.length := by rw [rcSize, d1]; dsimp only; rw [d2, d3]
  have htk : (frameL lsn rec ++ rest).take ((rec.length : Int) + 16).toNat = frameL lsn rec := by
    rw [show ((rec.length : Int) + 16).toNat = (frameL lsn rec).length by rw [hLl]; omega, List.take_left]
  have hok : rcOk (frameL lsn rec ++ rest) lsn = true := by
    simp only [rcOk, decide_eq_true_eq, hsz, htk]
    rw [d1]
    dsimp only
    rw [d2, d3]
    exact ⟨rfl, rfl, rfl, by omega, by rw [List.length_append, hLl]; omega, o1⟩
  refine ⟨hok, ?_, hLl⟩
  rw [rcBy, if_pos hok, hsz, htk, frameL, o2, frameB_form h2]
  exact drop_len _ _ (headLen (by omega))
/-- The stream of records, one frame behind the other. -/
def framesL : Nat → List (List Int) → List Int
  | _, [] => []
  | f, r :: rs => frameL f r ++ framesL (f + 1) rs
/-- Records that may be. -/
def RecsOk (rs : List (List Int)) : Prop := ∀ r ∈ rs, By r ∧ r.length ≤ 2000
theorem recs_back : ∀ (rs : List (List Int)) (f : Nat) (rest : List Int), RecsOk rs → f + rs.length ≤ 5000000000000000000 → rcOk rest ((f + rs.length : Nat) : Int) = false → recsP (framesL f rs ++ rest) f = rs
  | [], f, rest, _, _, hr => recsP_no hr
  | r :: rs, f, rest, ho, hf, hr => by
    have h1 := ho r (by simp)
    rw [List.length_cons] at hf hr
    rw [framesL, List.append_assoc]
    obtain ⟨h2, h3, h4⟩ := rc_frame (lsn := f) (by omega) h1.1 h1.2 (framesL (f + 1) rs ++ rest)
    rw [recsP_yes h2, h3, drop_len _ _ h4, show (f : Int) + 1 = ((f + 1 : Nat) : Int) by omega]
    refine congrArg _ ?_
    exact recs_back rs (f + 1) rest (fun x hx => ho x (by simp [hx])) (by omega) (by rw [show f + 1 + rs.length = f + (rs.length + 1) by omega]; exact hr)
theorem frames_len : ∀ (rs : List (List Int)) (f : Nat), RecsOk rs → f + rs.length ≤ 5000000000000000000 → (framesL f rs).length = bulkOf rs
  | [], f, _, _ => by simp [framesL, bulkOf]
  | r :: rs, f, ho, hf => by
    have h1 := ho r (by simp)
    rw [List.length_cons] at hf
    obtain ⟨_, _, h4⟩ := rc_frame (lsn := f) (by omega) h1.1 h1.2 []
    rw [framesL, List.length_append, h4, bulk_cons, frames_len rs (f + 1) (fun x hx => ho x (by simp [hx])) (by omega)]
theorem frames_by : ∀ (rs : List (List Int)) (f : Nat), RecsOk rs → f + rs.length ≤ 5000000000000000000 → By (framesL f rs)
  | [], f, _, _ => fun x hx => by simp [framesL] at hx
  | r :: rs, f, ho, hf => by
    have h1 := ho r (by simp)
    rw [List.length_cons] at hf
    have hub : By (uv f) := uv_byte (by omega) (by omega)
    have hub2 : By (uv r.length) := uv_byte (by omega) (by omega)
    rw [framesL]
    exact By.app (sealL_byte (splice_by (splice_by (splice_by (By.zeros _) hub) hub2) h1.1)) (frames_by rs (f + 1) (fun x hx => ho x (by simp [hx])) (by omega))
theorem frames_snoc : ∀ (rs : List (List Int)) (f : Nat) (r : List Int), framesL f (rs ++ [r]) = framesL f rs ++ frameL (f + rs.length) r
  | [], f, r => by simp [framesL]
  | x :: rs, f, r => by
    rw [List.cons_append, framesL, framesL, frames_snoc rs (f + 1) r, List.append_assoc, List.length_cons, show f + 1 + rs.length = f + (rs.length + 1) by omega]
/-- Noughts are no record. -/
theorem rc_zeros (k : Nat) {lsn : Int} (h : 1 ≤ lsn) : rcOk (zeros k) lsn = false := by
  cases k with
  | zero => simp [rcOk, zeros, dec]
  | succ k =>
    have hd : dec 0 0 (zeros (k + 1)) = (0, 1, 0) := by simp [zeros, List.replicate_succ, dec]
    simp only [rcOk, decide_eq_false_iff_not, hd]
    rintro ⟨_, h1, _⟩
    omega
/-- Pieces one behind the other are read back, the last filled up by noughts. -/
theorem strm_back {rd : Nat → List Int} : ∀ (m f no : Nat) (bs : List Int), By bs → bs.length ≤ 48 * m → 48 * m < bs.length + 48 → no + m ≤ 18446744073709551615 → m < f → (∀ i, i < m → rd (no + i) = secL (no + i) ((bs.drop (48 * i)).take 48)) → ¬ (pcOk (rd (no + m)) = true ∧ pcNo (rd (no + m)) = ((no + m : Nat) : Int)) → strmF rd f no = bs ++ zeros (48 * m - bs.length)
  | 0, f, no, bs, _, h1, _, _, hf, _, hn => by
    obtain rfl : bs = [] := List.eq_nil_of_length_eq_zero (by omega)
    cases f with
    | zero => simp [strmF, zeros]
    | succ f => rw [strmF, if_neg (by simpa using hn)]; simp [zeros]
  | m + 1, 0, _, _, _, _, _, _, hf, _, _ => by omega
  | m + 1, f + 1, no, bs, hb, h1, h2, h3, hf, hr, hn => by
    have h0 := hr 0 (by omega)
    simp only [Nat.add_zero, Nat.mul_zero, List.drop_zero] at h0
    have hpl : (bs.take 48).length ≤ 48 := by rw [List.length_take]; omega
    obtain ⟨p1, p2, p3⟩ := pc_sec (no := no) (ps := bs.take 48) (by omega) (hb.take 48) hpl
    rw [strmF, h0, if_pos ⟨p1, p2⟩, p3]
    have ih := strm_back (rd := rd) m f (no + 1) (bs.drop 48) (hb.drop 48) (by rw [List.length_drop]; omega) (by rw [List.length_drop]; omega) (by omega) (by omega) (fun i hi => by
      have := hr (i + 1) (by omega)
      rw [show no + 1 + i = no + (i + 1) by omega, this, List.drop_drop, show 48 + 48 * i = 48 * (i + 1) by omega]) (by rw [show no + 1 + m = no + (m + 1) by omega]; exact hn)
    rw [ih]
    by_cases hlt : 48 ≤ bs.length
    · have e1 : (bs.take 48).length = 48 := by rw [List.length_take]; omega
      rw [e1]
      simp only [Nat.sub_self, show zeros 0 = [] from rfl, List.append_nil]
      rw [← List.append_assoc, List.take_append_drop, List.length_drop, show 48 * m - (bs.length - 48) = 48 * (m + 1) - bs.length by omega]
    · have hm : m = 0 := by omega
      subst hm
      rw [List.take_of_length_le (by omega), List.drop_of_length_le (by omega)]
      simp [zeros]
end Go.Proofs.YthhlbhnogcfnjaaDoor
