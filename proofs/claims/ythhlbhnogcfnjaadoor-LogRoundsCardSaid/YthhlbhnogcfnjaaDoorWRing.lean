/-
  The plain mathematics of layer 4: a log that goes round its sectors, cut and opened again.
-/
import Derived.Test.YthhlbhnogcfnjaaDoorWNow
import Derived.Test.YthhlbhnogcfnjaaDoorWRec
import Derived.Test.YthhlbhnogcfnjaaDoorWAppend
namespace Go.Proofs.YthhlbhnogcfnjaaDoor
open Go.RowKit

theorem mod_apart {a b r : Nat} (h1 : a < b) (h2 : b < a + r) : b % r ≠ a % r := fun e => by
  have := Nat.sub_mod_eq_zero_of_mod_eq e
  rw [Nat.mod_eq_of_lt (by omega)] at this
  omega
/-- Pieces written round the ring. -/
theorem tailP_ring (at' sc n : Nat) (hsc : 16 ≤ sc ∧ at' + sc ≤ n) : ∀ (ps : List (List Int)) (d : Dk) (no : Nat), d.left = -1 → d.now.length = n → ps.length ≤ sc - 1 →
    (∀ x, no ≤ x → x < no + ps.length → (tailP at' sc d no ps).1.now.getD (at' + 1 + x % (sc - 1)) [] = secL x (ps.getD (x - no) [])) ∧
    (∀ j, (∀ x, no ≤ x → x < no + ps.length → j ≠ at' + 1 + x % (sc - 1)) → (tailP at' sc d no ps).1.now.getD j [] = d.now.getD j []) ∧ (tailP at' sc d no ps).1.now.length = n
  | [], d, no, _, hn, _ => ⟨fun x h1 h2 => by simp at h2; omega, fun _ _ => rfl, hn⟩
  | p :: ps, d, no, hl, hn, hf => by
    rw [List.length_cons] at hf
    have h0 : ¬ d.left = 0 := by omega
    have hlt : no % (sc - 1) < sc - 1 := Nat.mod_lt _ (by omega)
    obtain ⟨d1, hd1⟩ : ∃ d1, d.write (at' + 1 + no % (sc - 1)) (secL no p) = d1 := ⟨_, rfl⟩
    have hnow : d1.now = d.now.set (at' + 1 + no % (sc - 1)) (secL no p) := by rw [← hd1]; exact app_snoc _ _ _
    have hstep : tailP at' sc d no (p :: ps) = tailP at' sc d1 (no + 1) ps := by rw [tailP, if_neg h0, hd1]
    obtain ⟨i1, i2, i3⟩ := tailP_ring at' sc n hsc ps d1 (no + 1) (by rw [← hd1]; simp [Dk.write, burn, hl]) (by rw [hnow, List.length_set]; exact hn) (by omega)
    rw [hstep, List.length_cons]
    refine ⟨fun x h1 h2 => ?_, fun j hj => ?_, i3⟩
    · by_cases hx : x = no
      · subst hx
        rw [i2 _ (fun y hy1 hy2 e => mod_apart (a := x) (b := y) (r := sc - 1) (by omega) (by omega) (by omega)), hnow, Nat.sub_self]
        simp only [List.getD_eq_getElem?_getD, List.getElem?_set_self (show at' + 1 + x % (sc - 1) < d.now.length by omega), Option.getD_some]
        rfl
      · rw [i1 x (by omega) (by omega), show x - no = (x - (no + 1)) + 1 by omega]
        simp only [List.getD_cons_succ]
    · rw [i2 j (fun y hy1 hy2 => hj y (by omega) (by omega)), hnow]
      have hne := hj no (Nat.le_refl _) (by omega)
      simp only [List.getD_eq_getElem?_getD]
      rw [List.getElem?_set_ne (by omega)]

/-- m records, from the number c on. -/
def rcs (T c m : Nat) : List (List Int) := (List.range m).map fun j => recL (c + j) T
theorem rcs_len (T c m : Nat) : (rcs T c m).length = m := by simp [rcs]
theorem rcs_succ (T c m : Nat) : rcs T c (m + 1) = rcs T c m ++ [recL (c + m) T] := by simp [rcs, List.range_succ]
theorem rcs_app (T c m : Nat) : ∀ k, rcs T c (m + k) = rcs T c m ++ rcs T (c + m) k
  | 0 => by simp [rcs]
  | k + 1 => by rw [← Nat.add_assoc, rcs_succ, rcs_app T c m k, rcs_succ, List.append_assoc, Nat.add_assoc]
theorem rcs_drop {T c m k : Nat} (h : k ≤ m) : (rcs T c m).drop k = rcs T (c + k) (m - k) := by
  rw [show m = k + (m - k) by omega, rcs_app, List.drop_append, List.drop_of_length_le (by rw [rcs_len]; omega), rcs_len, Nat.sub_self, List.drop_zero, List.nil_append, show k + (m - k) - k = m - k by omega]
theorem rcs_take {T c m k : Nat} (h : k ≤ m) : (rcs T c m).take k = rcs T c k := by
  rw [show m = k + (m - k) by omega, rcs_app, List.take_append, List.take_of_length_le (by rw [rcs_len]; omega), rcs_len, Nat.sub_self, List.take_zero, List.append_nil]
theorem rcs_ok {T : Nat} (hT : T ≤ 255) (c m : Nat) : RecsOk (rcs T c m) := fun r hr => by
  simp only [rcs, List.mem_map] at hr
  obtain ⟨j, _, rfl⟩ := hr
  exact ⟨recL_by _ _, by rw [recL_len]; omega⟩
theorem rcs_bulk (T c : Nat) : ∀ m, bulkOf (rcs T c m) = m * (T + 16)
  | 0 => by simp [rcs, bulkOf]
  | m + 1 => by rw [rcs_succ, bulk_app, bulk_cons, bulk_nil, rcs_bulk T c m, recL_len, Nat.succ_mul]
theorem frames_app : ∀ (a b : List (List Int)) (f : Nat), framesL f (a ++ b) = framesL f a ++ framesL (f + a.length) b
  | [], b, f => by simp [framesL]
  | x :: a, b, f => by rw [List.cons_append, framesL, framesL, frames_app a b (f + 1), List.append_assoc, List.length_cons, show f + 1 + a.length = f + (a.length + 1) by omega]
/-- The stream of i records. -/
def str (T i : Nat) : List Int := framesL 1 (rcs T 1 i)
theorem str_len {T : Nat} (hT : T ≤ 255) {i : Nat} (hi : i ≤ 1000) : (str T i).length = i * (T + 16) := by
  rw [str, frames_len _ 1 (rcs_ok hT 1 i) (by rw [rcs_len]; omega), rcs_bulk]
theorem str_by {T : Nat} (hT : T ≤ 255) {i : Nat} (hi : i ≤ 1000) : By (str T i) := frames_by _ 1 (rcs_ok hT 1 i) (by rw [rcs_len]; omega)
theorem str_pre (T : Nat) {i k : Nat} (h : i ≤ k) : str T k = str T i ++ framesL (1 + i) (rcs T (1 + i) (k - i)) := by
  rw [str, show k = i + (k - i) by omega, rcs_app, frames_app, rcs_len, show i + (k - i) - i = k - i by omega]
  rfl
theorem str_drop {T : Nat} (hT : T ≤ 255) {i k : Nat} (h : i ≤ k) (hk : k ≤ 1000) : (str T k).drop (i * (T + 16)) = framesL (1 + i) (rcs T (1 + i) (k - i)) := by
  rw [str_pre T h, ← str_len hT (show i ≤ 1000 by omega), List.drop_left]
theorem str_piece {T : Nat} (hT : T ≤ 255) {i k x : Nat} (h : i ≤ k) (hk : k ≤ 1000) (hx : 48 * x + 48 ≤ i * (T + 16)) : ((str T k).drop (48 * x)).take 48 = ((str T i).drop (48 * x)).take 48 := by
  have hl := str_len hT (show i ≤ 1000 by omega)
  rw [str_pre T h, List.drop_append_of_le_length (by omega), List.take_append_of_le_length (by rw [List.length_drop]; omega)]
theorem str_succ (T i : Nat) : str T (i + 1) = str T i ++ frameL (i + 1) (recL (i + 1) T) := by
  rw [str_pre T (Nat.le_succ i), show i + 1 - i = 1 by omega, Nat.add_comm 1 i]
  simp [rcs, framesL]

/-- What a flushed disk holds behind i records. -/
structure RgD (T i : Nat) (now : List (List Int)) : Prop where
  len : now.length = 64
  pcs : ∀ x, 48 * x < i * (T + 16) → i * (T + 16) ≤ 48 * (x + 39) → now.getD (1 + x % 39) [] = secL x (((str T i).drop (48 * x)).take 48)
  rest : ∀ j, j < 39 → i * (T + 16) ≤ 48 * j → now.getD (1 + j) [] = nought
theorem RgD.new (T : Nat) : RgD T 0 (Dk.new 64).now :=
  ⟨by simp [Dk.new, Dk.now, app], fun x h => by omega, fun j hj _ => new_at 64 _ (by omega)⟩
theorem RgD.head {T i : Nat} {now : List (List Int)} (h : RgD T i now) (s : List Int) : RgD T i (now.set 0 s) := by
  refine ⟨by rw [List.length_set]; exact h.len, fun x h1 h2 => ?_, fun j h1 h2 => ?_⟩
  · rw [← h.pcs x h1 h2]
    simp only [List.getD_eq_getElem?_getD]
    rw [List.getElem?_set_ne (by omega)]
  · rw [← h.rest j h1 h2]
    simp only [List.getD_eq_getElem?_getD]
    rw [List.getElem?_set_ne (by omega)]
theorem RgD.flush {T i0 i q : Nat} {d : Dk} (h : RgD T i0 d.now) (hl : d.left = -1) (hi : i0 ≤ i) (hT : T ≤ 255) (hi' : i ≤ 1000) (hq1 : ((str T i).drop (i0 * (T + 16) / 48 * 48)).length ≤ q * 48) (hq2 : q * 48 < ((str T i).drop (i0 * (T + 16) / 48 * 48)).length + 48) (hq : q ≤ 39) :
    RgD T i (tailP 0 40 d (i0 * (T + 16) / 48) (cut48 q ((str T i).drop (i0 * (T + 16) / 48 * 48)))).1.now ∧ (tailP 0 40 d (i0 * (T + 16) / 48) (cut48 q ((str T i).drop (i0 * (T + 16) / 48 * 48)))).1.now.getD 0 [] = d.now.getD 0 [] := by
  have hsl := str_len hT hi'
  have hle : i0 * (T + 16) ≤ i * (T + 16) := Nat.mul_le_mul_right _ hi
  obtain ⟨A, hA⟩ : ∃ A, i0 * (T + 16) / 48 = A := ⟨_, rfl⟩
  rw [List.length_drop, hsl] at hq1 hq2
  rw [hA] at hq1 hq2 ⊢
  have hcl : (cut48 q ((str T i).drop (A * 48))).length = q := cut48_len q _
  obtain ⟨t1, t2, t3⟩ := tailP_ring 0 40 64 (by omega) (cut48 q ((str T i).drop (A * 48))) d A hl h.len (by rw [hcl]; omega)
  rw [hcl] at t1 t2
  simp only [Nat.zero_add, show 40 - 1 = 39 from rfl] at t1 t2
  refine ⟨⟨t3, fun x h1 h2 => ?_, fun j h1 h2 => ?_⟩, t2 0 (fun x _ _ => by omega)⟩
  · by_cases hx : A ≤ x
    · rw [t1 x hx (by omega), cut48_get (by omega), List.drop_drop, show A * 48 + 48 * (x - A) = 48 * x by omega]
    · rw [t2 _ (fun y hy1 hy2 e => mod_apart (a := x) (b := y) (r := 39) (by omega) (by omega) (by omega)), h.pcs x (by omega) (by omega), str_piece hT hi hi' (by omega)]
  · rw [t2 _ (fun y hy1 hy2 e => ?_), h.rest j h1 (by omega)]
    rw [Nat.mod_eq_of_lt (by omega)] at e
    omega

/-- The Log with the records c to i, those up to i0 flushed. -/
def lgR (T c i i0 : Nat) : Lg := { first := c, recs := rcs T c (i + 1 - c), start := (c - 1) * (T + 16), stop := i * (T + 16), flushed := i0, tail := (str T i).drop (i0 * (T + 16) / 48 * 48) }
theorem lgR_new (T : Nat) : Lg.fresh = lgR T 1 0 0 := by simp [Lg.fresh, lgR, rcs, str, framesL]
theorem lgR_flush {T c i i0 : Nat} (hT : T ≤ 255) (hi : i ≤ 1000) (h0 : i0 ≤ i) (hc : c ≤ i + 1) : (lgR T c i i0).flush = lgR T c i i := by
  have hsl := str_len hT hi
  have hle : i0 * (T + 16) ≤ i * (T + 16) := Nat.mul_le_mul_right _ h0
  simp only [Lg.flush, lgR, rcs_len, List.drop_drop, List.length_drop, hsl]
  rw [show c + (i + 1 - c) - 1 = i by omega, show i0 * (T + 16) / 48 * 48 + (i * (T + 16) - i0 * (T + 16) / 48 * 48) / 48 * 48 = i * (T + 16) / 48 * 48 by omega]
theorem lgR_add {T c i i0 : Nat} (hT : T ≤ 255) (hi : i ≤ 1000) (h0 : i0 ≤ i) (hc : c ≤ i + 1) : (lgR T c i i0).add (recL (i + 1) T) = lgR T c (i + 1) i0 := by
  have hsl := str_len hT hi
  have hle : i0 * (T + 16) ≤ i * (T + 16) := Nat.mul_le_mul_right _ h0
  simp only [Lg.add, lgR, rcs_len, recL_len]
  rw [show i + 1 + 1 - c = (i + 1 - c) + 1 by omega, rcs_succ, show c + (i + 1 - c) = i + 1 by omega, str_succ, List.drop_append_of_le_length (by omega), Nat.succ_mul]
theorem lgR_cut {T c i c' : Nat} (hc1 : 1 ≤ c) (hc : c ≤ c') (hc' : c' ≤ i + 1) : ({ lgR T c i i with first := c', recs := (lgR T c i i).recs.drop (c' - c), start := (lgR T c i i).start + bulkOf ((lgR T c i i).recs.take (c' - c)) } : Lg) = lgR T c' i i := by
  simp only [lgR]
  rw [rcs_drop (by omega), rcs_take (by omega), rcs_bulk, show c + (c' - c) = c' by omega, show i + 1 - c - (c' - c) = i + 1 - c' by omega, ← Nat.add_mul, show c - 1 + (c' - c) = c' - 1 by omega]

/-- The head is read back. -/
theorem hd_head {f s : Nat} (h1 : 1 ≤ f) (h2 : f ≤ 1000000) (h3 : s ≤ 1000000) : headF (headL f s) = f ∧ headS (headL f s) = s := by
  have hu := uv_len (f : Int)
  have hv := uv_len (s : Int)
  have hub : By (uv f) := uv_byte (by omega) (by omega)
  have hub2 : By (uv s) := uv_byte (by omega) (by omega)
  obtain ⟨p1, p2, p3⟩ := pc_sec (no := 18446744073709551615) (ps := uv f ++ uv s) (by omega) (hub.app hub2) (by rw [List.length_append]; omega)
  have d1 : dec 0 0 (pcBy (headL f s)) = ((f : Int), ((uv f).length : Int), 0) := by
    rw [headL, p3, List.append_assoc]
    exact dec_uv (by omega) (by omega) _
  have d2 : dec 0 0 ((pcBy (headL f s)).drop ((uv f).length : Int).toNat) = ((s : Int), ((uv s).length : Int), 0) := by
    rw [headL, p3, List.append_assoc, Int.toNat_natCast, List.drop_left]
    exact dec_uv (by omega) (by omega) _
  have hok : hdOk (headL f s) = true := by
    simp only [hdOk, decide_eq_true_eq]
    rw [d1]
    dsimp only
    rw [d2]
    exact ⟨p1, p2, rfl, by omega, by omega, rfl, by dsimp only; omega⟩
  constructor
  · rw [headF, if_pos hok, hdFirst, if_pos hok, d1]
    rfl
  · rw [headS, if_pos hok, hdFrom, if_pos hok, d1]
    dsimp only
    rw [d2]
    rfl
/-- The head of a Log whose first record is the number c. -/
def HdIs (T c : Nat) (now : List (List Int)) : Prop := headF (now.getD 0 []) = c ∧ headS (now.getD 0 []) = (c - 1) * (T + 16)
theorem HdIs.new (T : Nat) : HdIs T 1 (Dk.new 64).now := by
  have h0 : (Dk.new 64).now.getD 0 [] = nought := new_at 64 0 (by omega)
  constructor
  · rw [h0, headF, hd_not]; rfl
  · rw [h0, headS, hd_not, Nat.sub_self, Nat.zero_mul]; rfl
theorem HdIs.put {T c : Nat} {now : List (List Int)} (hl : now.length = 64) (h1 : 1 ≤ c) (h2 : c ≤ 1000) (hT : T ≤ 255) : HdIs T c (now.set 0 (headL c ((c - 1) * (T + 16)))) := by
  have e : (now.set 0 (headL c ((c - 1) * (T + 16)))).getD 0 [] = headL c ((c - 1) * (T + 16)) := by
    simp only [List.getD_eq_getElem?_getD, List.getElem?_set_self (show 0 < now.length by omega), Option.getD_some]
  have hm : (c - 1) * (T + 16) ≤ 1000 * 271 := Nat.mul_le_mul (by omega) (by omega)
  unfold HdIs
  rw [e]
  exact hd_head h1 (by omega) (by omega)

/-- What stands on the disk behind a Flush is taken up again. -/
theorem ring_read {T c i : Nat} {now : List (List Int)} (hD : RgD T i now) (hH : HdIs T c now) (hT : T ≤ 255) (hc1 : 1 ≤ c) (hci : c ≤ i) (hi : i ≤ 1000) (hr : (i + 1 - c) * (T + 16) ≤ 1400) : openG now 0 40 = lgR T c i i := by
  have hsl := str_len hT hi
  have hsb := str_by hT hi
  obtain ⟨S, hS⟩ : ∃ S, (c - 1) * (T + 16) = S := ⟨_, rfl⟩
  obtain ⟨R, hR⟩ : ∃ R, (i + 1 - c) * (T + 16) = R := ⟨_, rfl⟩
  obtain ⟨E, hE⟩ : ∃ E, i * (T + 16) = E := ⟨_, rfl⟩
  have hSR : S + R = E := by rw [← hS, ← hR, ← hE, ← Nat.add_mul, show c - 1 + (i + 1 - c) = i by omega]
  have hR1 : 16 ≤ R := by
    rw [← hR]
    have : 1 * 16 ≤ (i + 1 - c) * (T + 16) := Nat.mul_le_mul (by omega) (by omega)
    omega
  have hfr : (str T i).drop S = framesL c (rcs T c (i + 1 - c)) := by
    rw [← hS, str_drop hT (by omega) hi, show 1 + (c - 1) = c by omega, show i - (c - 1) = i + 1 - c by omega]
  have hEL : E ≤ 271000 := by
    rw [← hE]
    have : i * (T + 16) ≤ 1000 * 271 := Nat.mul_le_mul hi (by omega)
    omega
  rw [hR] at hr
  obtain ⟨h1, h2⟩ := hH
  rw [hS] at h2
  have hpc := hD.pcs
  have hrs := hD.rest
  rw [hE] at hpc hrs hsl
  obtain ⟨m, hm⟩ : ∃ m, (E + 47) / 48 - S / 48 = m := ⟨_, rfl⟩
  obtain ⟨bs, hbs⟩ : ∃ bs, (str T i).drop (48 * (S / 48)) = bs := ⟨_, rfl⟩
  have hbl : bs.length = E - 48 * (S / 48) := by rw [← hbs, List.length_drop, hsl]
  have h3 : strm now 0 40 (S / 48) = bs ++ zeros (48 * m - bs.length) := by
    refine strm_back m 39 (S / 48) bs (by rw [← hbs]; exact hsb.drop _) (by omega) (by omega) (by omega) (by omega) (fun k hk => ?_) ?_
    · show now.getD (0 + 1 + (S / 48 + k) % 39) [] = _
      rw [Nat.zero_add, hpc (S / 48 + k) (by omega) (by omega), ← hbs, List.drop_drop, show 48 * (S / 48) + 48 * k = 48 * (S / 48 + k) by omega]
    · show ¬ (pcOk (now.getD (0 + 1 + (S / 48 + m) % 39) []) = true ∧ pcNo (now.getD (0 + 1 + (S / 48 + m) % 39) []) = _)
      rw [Nat.zero_add]
      by_cases hw : S / 48 + m < 39
      · rw [Nat.mod_eq_of_lt hw, hrs _ hw (by omega), nought_not]
        simp
      · obtain ⟨x, hx⟩ : ∃ x, S / 48 + m = x + 39 := ⟨S / 48 + m - 39, by omega⟩
        rw [hx, Nat.add_mod_right, hpc x (by omega) (by omega)]
        obtain ⟨_, p2, _⟩ := pc_sec (no := x) (ps := ((str T i).drop (48 * x)).take 48) (by omega) ((hsb.drop _).take _) (by rw [List.length_take]; omega)
        rw [p2]
        omega
  obtain ⟨pad, hpad⟩ : ∃ pad, 48 * m - bs.length = pad := ⟨_, rfl⟩
  rw [hpad] at h3
  have hlen : (bs ++ zeros pad).length = 48 * m := by rw [List.length_append, zeros_len]; omega
  have h4 : strmB now 0 40 S = bs ++ zeros pad := by
    rw [strmB, h3, if_neg (by rw [hlen]; omega)]
  have hbd : bs.drop (S % 48) = framesL c (rcs T c (i + 1 - c)) := by rw [← hbs, List.drop_drop, ← hfr, show 48 * (S / 48) + S % 48 = S by omega]
  have hok := rcs_ok hT c (i + 1 - c)
  obtain ⟨pad2, hp2⟩ : ∃ pad2, strmZ now 0 40 S = framesL c (rcs T c (i + 1 - c)) ++ zeros pad2 := by
    refine ⟨min (48 * m) (S % 48 + 1536) - bs.length, ?_⟩
    rw [strmZ, h4, hlen]
    show List.drop (S % 48) (List.take (min (48 * m) (S % 48 + 1536)) (bs ++ zeros pad)) = _
    rw [List.take_append, List.take_of_length_le (by omega), zeros_take, List.drop_append_of_le_length (by omega), hbd]
    congr 2
    omega
  have h6 : recsP (strmZ now 0 40 S) ((c : Nat) : Int) = rcs T c (i + 1 - c) := by
    rw [hp2]
    exact recs_back _ c (zeros pad2) hok (by rw [rcs_len]; omega) (rc_zeros pad2 (by rw [rcs_len]; omega))
  have hbk : bulkOf (rcs T c (i + 1 - c)) = R := by rw [rcs_bulk, hR]
  rw [openG, h1, h2]
  simp only [readG, h6, hbk, h4, rcs_len, lgR, hS, hE]
  have e1 : S + R = E := hSR
  have e2 : c + (i + 1 - c) - 1 = i := by omega
  have e3 : ((bs ++ zeros pad).take (S % 48 + R)).drop ((S % 48 + R) / 48 * 48) = (str T i).drop (E / 48 * 48) := by
    rw [show S % 48 + R = bs.length by omega, List.take_left, ← hbs, List.drop_drop, List.length_drop, hsl]
    congr 1
    omega
  rw [e1, e2, e3]
/-- And nothing is to be cleared. -/
theorem ring_clear {T i : Nat} {now : List (List Int)} (hD : RgD T i now) (hT : T ≤ 255) (hi : i ≤ 1000) :
    ∀ j, 0 + 1 ≤ j → j < 0 + 40 → pcOk (now.getD j []) = false ∨ pcNo (now.getD j []) < ((i * (T + 16) / 48 : Nat) : Int) ∨ (((str T i).drop (i * (T + 16) / 48 * 48)).length ≤ 48 ∧ now.getD j [] = secL (i * (T + 16) / 48) ((str T i).drop (i * (T + 16) / 48 * 48))) := fun j h1 h2 => by
  have hsl := str_len hT hi
  have hsb := str_by hT hi
  have hEL : i * (T + 16) ≤ 1000 * 271 := Nat.mul_le_mul hi (by omega)
  have hpc := hD.pcs
  have hrs := hD.rest
  obtain ⟨E, hE⟩ : ∃ E, i * (T + 16) = E := ⟨_, rfl⟩
  rw [hE] at hpc hrs hsl hEL ⊢
  by_cases hr : E ≤ 48 * (j - 1)
  · refine .inl ?_
    have := hrs (j - 1) (by omega) hr
    rw [show 1 + (j - 1) = j by omega] at this
    rw [this]
    exact nought_not
  · obtain ⟨x, hx1, hx2, hx3⟩ : ∃ x, x % 39 = j - 1 ∧ 48 * x < E ∧ E ≤ 48 * (x + 39) := by
      refine ⟨j - 1 + 39 * (((E + 47) / 48 - 1 - (j - 1)) / 39), ?_, ?_, ?_⟩
      · rw [Nat.add_mul_mod_self_left, Nat.mod_eq_of_lt (by omega)]
      · omega
      · omega
    have := hpc x hx2 hx3
    rw [hx1, show 1 + (j - 1) = j by omega] at this
    rw [this]
    obtain ⟨_, p2, _⟩ := pc_sec (no := x) (ps := ((str T i).drop (48 * x)).take 48) (by omega) ((hsb.drop _).take _) (by rw [List.length_take]; omega)
    rw [p2]
    by_cases hlt : x < E / 48
    · exact .inr (.inl (by omega))
    · have hxe : x = E / 48 := by omega
      have hl : ((str T i).drop (E / 48 * 48)).length ≤ 48 := by rw [List.length_drop, hsl]; omega
      refine .inr (.inr ⟨hl, ?_⟩)
      rw [hxe, show 48 * (E / 48) = E / 48 * 48 by omega, List.take_of_length_le hl]
end Go.Proofs.YthhlbhnogcfnjaaDoor
