/-
  The plain mathematics of layer 4: a piece in its sector, the head, a record in its frame. Nothing of the program is named here.
-/
import Derived.Test.YtgnhalcdlligfaaDoorMA
import Derived.Test.YtgnhalcdlligfaaDoorWMem
namespace Go.Proofs.YtgnhalcdlligfaaDoor
open Go.RowKit Go.PlainAid

theorem dec_len : ∀ (zs : List Int) (X : Int) (k : Nat), (dec X k zs).2.2 = 0 → (k : Int) + 1 ≤ (dec X k zs).2.1 ∧ (dec X k zs).2.1 ≤ k + zs.length
  | [], X, k, h => by simp [dec] at h
  | c :: l, X, k, h => by
    unfold dec at h ⊢
    split at h
    · simp at h
    · rename_i h1
      rw [if_neg h1]
      split at h
      · rename_i h2
        rw [if_pos h2]
        have := dec_len l _ _ h
        simp only [List.length_cons]
        omega
      · rename_i h2
        rw [if_neg h2]
        split at h
        · simp at h
        · rename_i h3
          rw [if_neg h3]
          simp only [List.length_cons]
          omega
theorem dec_ten : ∀ (zs : List Int) (X : Int) (k : Nat), k ≤ 9 → (dec X k zs).2.2 = 0 → (dec X k zs).2.1 ≤ 10
  | [], X, k, _, h => by simp [dec] at h
  | c :: l, X, k, hk, h => by
    unfold dec at h ⊢
    split at h
    · simp at h
    · rename_i h1
      rw [if_neg h1]
      split at h
      · rename_i h2
        rw [if_pos h2]
        exact dec_ten l _ _ (by omega) h
      · rename_i h2
        rw [if_neg h2]
        split at h
        · simp at h
        · rename_i h3
          rw [if_neg h3]
          show (k : Int) + 1 ≤ 10
          omega
theorem openB_by {s : List Int} (h : By s) : By (openB s) := fun b hx => by
  unfold openB at hx
  split at hx
  · exact h b (List.mem_of_mem_take hx)
  · simp at hx
theorem openB_size {s : List Int} (h : openE s = 0) : (openB s).length = s.length - 4 := by
  unfold openB
  rw [if_pos h, List.length_take]
  omega
/-- A sector as a piece: is it sound, its number, its bytes. -/
def pcOk (s : List Int) : Bool := decide (openE s = 0 ∧ (dec 0 0 ((openB s).drop 48)).2.2 = 0)
def pcNo (s : List Int) : Int := if pcOk s then (dec 0 0 ((openB s).drop 48)).1 else 0
def pcBy (s : List Int) : List Int := if pcOk s then (openB s).take 48 else []
theorem pcBy_by {s : List Int} (h : By s) : By (pcBy s) := by
  unfold pcBy
  split
  · exact (openB_by h).take 48
  · exact fun x hx => by simp at hx
theorem pcBy_len {s : List Int} (hs : s.length = 64) (h : pcOk s = true) : (pcBy s).length = 48 := by
  have h1 : openE s = 0 := by simp [pcOk] at h; exact h.1
  unfold pcBy
  rw [if_pos h, List.length_take, openB_size h1, hs]
  rfl
theorem pcNo_nonneg (s : List Int) : 0 ≤ pcNo s := by
  unfold pcNo
  split
  · exact dec_nonneg _ _ _ (by omega)
  · omega
/-- A sector as the head. -/
def hdOk (s : List Int) : Bool := decide (pcOk s = true ∧ pcNo s = 18446744073709551615 ∧ (dec 0 0 (pcBy s)).2.2 = 0 ∧ 1 ≤ (dec 0 0 (pcBy s)).1 ∧ (dec 0 0 (pcBy s)).1 ≤ 4611686018427387904 ∧
  (dec 0 0 ((pcBy s).drop (dec 0 0 (pcBy s)).2.1.toNat)).2.2 = 0 ∧ (dec 0 0 ((pcBy s).drop (dec 0 0 (pcBy s)).2.1.toNat)).1 ≤ 4611686018427387904)
def hdFirst (s : List Int) : Int := if hdOk s then (dec 0 0 (pcBy s)).1 else 0
def hdFrom (s : List Int) : Int := if hdOk s then (dec 0 0 ((pcBy s).drop (dec 0 0 (pcBy s)).2.1.toNat)).1 else 0
/-- The record whose frame bytes begin with. -/
def rcSize (b : List Int) : Int := (dec 0 0 (b.drop (dec 0 0 b).2.1.toNat)).1
def rcOk (b : List Int) (lsn : Int) : Bool := decide ((dec 0 0 b).2.2 = 0 ∧ (dec 0 0 b).1 = lsn ∧ (dec 0 0 (b.drop (dec 0 0 b).2.1.toNat)).2.2 = 0 ∧ rcSize b ≤ 2000 ∧ rcSize b + 16 ≤ b.length ∧ openE (b.take (rcSize b + 16).toNat) = 0)
def rcBy (b : List Int) (lsn : Int) : List Int := if rcOk b lsn then (openB (b.take (rcSize b + 16).toNat)).drop 12 else []
theorem rcSize_nonneg (b : List Int) : 0 ≤ rcSize b := dec_nonneg _ _ _ (by omega)
theorem rcBy_len {b : List Int} {lsn : Int} (h : rcOk b lsn = true) : ((rcBy b lsn).length : Int) = rcSize b ∧ (rcBy b lsn).length + 16 ≤ b.length ∧ (rcBy b lsn).length ≤ 2000 := by
  have h0 := rcSize_nonneg b
  have h1 := h
  simp only [rcOk, decide_eq_true_eq] at h1
  obtain ⟨_, _, _, h2, h3, h4⟩ := h1
  have : (rcBy b lsn).length = (rcSize b).toNat := by
    unfold rcBy
    rw [if_pos h, List.length_drop, openB_size h4, List.length_take]
    omega
  omega
/-- The records that bytes begin with, one by one. -/
def recsF : Nat → List Int → Int → List (List Int)
  | 0, _, _ => []
  | f + 1, b, lsn => if rcOk b lsn then rcBy b lsn :: recsF f (b.drop ((rcBy b lsn).length + 16)) (lsn + 1) else []
def recsP (b : List Int) (lsn : Int) : List (List Int) := recsF (b.length + 1) b lsn
theorem recsF_enough : ∀ (f g : Nat) (b : List Int) (lsn : Int), b.length < f → b.length < g → recsF f b lsn = recsF g b lsn
  | 0, _, _, _, h, _ => by omega
  | _, 0, _, _, _, h => by omega
  | f + 1, g + 1, b, lsn, hf, hg => by
    unfold recsF
    by_cases h : rcOk b lsn = true
    · have := (rcBy_len h).2.1
      rw [if_pos h, if_pos h, recsF_enough f g _ _ (by rw [List.length_drop]; omega) (by rw [List.length_drop]; omega)]
    · rw [if_neg h, if_neg h]
theorem recsP_yes {b : List Int} {lsn : Int} (h : rcOk b lsn = true) : recsP b lsn = rcBy b lsn :: recsP (b.drop ((rcBy b lsn).length + 16)) (lsn + 1) := by
  have := (rcBy_len h).2.1
  rw [recsP, recsF, if_pos h, recsP]
  congr 1
  exact recsF_enough _ _ _ _ (by rw [List.length_drop]; omega) (by rw [List.length_drop]; omega)
theorem recsP_no {b : List Int} {lsn : Int} (h : rcOk b lsn = false) : recsP b lsn = [] := by
  rw [recsP, recsF, if_neg (by rw [h]; decide)]
/-- Bytes of the stream that records take. -/
def bulkOf (rs : List (List Int)) : Nat := (rs.map fun r => r.length + 16).sum
theorem bulk_nil : bulkOf [] = 0 := rfl
theorem bulk_cons (r : List Int) (rs : List (List Int)) : bulkOf (r :: rs) = r.length + 16 + bulkOf rs := by simp [bulkOf]
theorem bulk_app (a b : List (List Int)) : bulkOf (a ++ b) = bulkOf a + bulkOf b := by simp [bulkOf]
theorem bulk_len (rs : List (List Int)) : rs.length * 16 ≤ bulkOf rs := by
  induction rs with
  | nil => simp [bulkOf]
  | cons r l ih => rw [bulk_cons, List.length_cons]; omega
theorem recsF_bulk : ∀ (f : Nat) (b : List Int) (lsn : Int), bulkOf (recsF f b lsn) ≤ b.length
  | 0, b, lsn => by simp [recsF, bulkOf]
  | f + 1, b, lsn => by
    unfold recsF
    by_cases h : rcOk b lsn = true
    · have h1 := (rcBy_len h).2.1
      have h2 := recsF_bulk f (b.drop ((rcBy b lsn).length + 16)) (lsn + 1)
      rw [if_pos h, bulk_cons]
      rw [List.length_drop] at h2
      omega
    · rw [if_neg h]; simp [bulkOf]
theorem recsP_bulk (b : List Int) (lsn : Int) : bulkOf (recsP b lsn) ≤ b.length := recsF_bulk _ b lsn
/-- The pieces that follow each other from number 'no' on. -/
def strmF (rd : Nat → List Int) : Nat → Nat → List Int
  | 0, _ => []
  | f + 1, no => if pcOk (rd no) = true ∧ pcNo (rd no) = no then pcBy (rd no) ++ strmF rd f (no + 1) else []
end Go.Proofs.YtgnhalcdlligfaaDoor

namespace Go.Proofs.YtgnhalcdlligfaaDoor
open Go.RowKit Go.Shelf

/-- Bytes in new memory. -/
def NewBs (N : Nat) (w : World) (v : Value) (zs : List Int) : Prop := Bs w v zs ∧ ∀ b, v.ownBlock = some b → N ≤ b ∧ ∃ c, w.heap[b]? = some (.cells c 5 (0, 0))
theorem NewBs.nil (N : Nat) (w : World) : NewBs N w (.slice none 0 0) [] := ⟨⟨fun j => by simp, by simp, .inl ⟨none, 0, rfl, rfl, fun _ => rfl⟩⟩, fun b h => by simp [Value.ownBlock] at h⟩
theorem NewBs.same {N : Nat} {w w' : World} {v : Value} {zs : List Int} (h : NewBs N w v zs) (hk : ∀ (k : Nat) c, w.heap[k]? = some (.cells c 5 (0, 0)) → w'.heap[k]? = w.heap[k]?) : NewBs N w' v zs := by
  refine ⟨h.1.same fun b e => ?_, fun b e => ?_⟩
  · obtain ⟨h1, c, h3⟩ := h.2 b e
    exact hk b c h3
  · obtain ⟨h1, c, h3⟩ := h.2 b e
    exact ⟨h1, c, (hk b c h3).trans h3⟩
theorem NewBs.below {N : Nat} {w w' : World} {v : Value} {zs : List Int} (h : NewBs N w v zs) (hb : Below w.heap.size w w') : NewBs N w' v zs := h.same fun k _ hk => hb.block k (lt_of_heap hk)
theorem NewBs.mono {N M : Nat} {w : World} {v : Value} {zs : List Int} (h : NewBs N w v zs) (hm : M ≤ N) : NewBs M w v zs := ⟨h.1, fun b e => ⟨Nat.le_trans hm (h.2 b e).1, (h.2 b e).2⟩⟩
theorem newBs_own {N n : Nat} {w : World} {v : Value} {zs : List Int} (h : w.ownsRow N 5 1 v n (zs.map (Value.int .u8))) (hb : By zs) (hl : zs.length ≤ 140737488355328) : NewBs N w v zs := by
  refine ⟨bs_of_own h hb hl, fun b e => ?_⟩
  obtain ⟨c, hc⟩ := own_heap h e
  exact ⟨own_base h b e, c, hc⟩
/-- A part of it. -/
theorem NewBs.cut {N : Nat} {w : World} {b off n cap lo hi : Nat} {zs : List Int} (h : NewBs N w (.slice (some ⟨b, off, none⟩) n cap) zs) (h1 : lo ≤ hi) (h2 : hi ≤ zs.length) (h3 : lo < cap) : NewBs N w (.slice (some ⟨b, off + lo, none⟩) (hi - lo) (cap - lo)) ((zs.take hi).drop lo) := by
  refine ⟨?_, fun q e => h.2 q (by simpa [Value.ownBlock] using e)⟩
  have := h.1.cutAt h1 h2
  rw [if_neg (by omega)] at this
  simpa [Addr.add_lit] using this
theorem NewBs.head {N : Nat} {w : World} {ao : Option Addr} {n cap hi : Nat} {zs : List Int} (h : NewBs N w (.slice ao n cap) zs) (h2 : hi ≤ zs.length) : NewBs N w (.slice ao hi cap) (zs.take hi) :=
  ⟨h.1.head h2, fun q e => h.2 q (by cases ao with
    | none => simp [Value.ownBlock] at e
    | some a => simpa [Value.ownBlock] using e)⟩

/-- What an opened text gives, parted. -/
theorem opened {w : World} {v : Value} {s : List Int} (h : Bs w v s) (ht : TabOk w) (he : openE s = 0) (hs : 5 ≤ s.length) :
    Calls Tryd.prog 63 #[v] w fun e w' => ∃ b off cap, e = .returned (.tuple #[.slice (some ⟨b, off, none⟩) (s.length - 4) cap, .int .i64 0]) ∧ NewBs w.heap.size w' (.slice (some ⟨b, off, none⟩) (s.length - 4) cap) (openB s) ∧ s.length - 4 ≤ cap ∧ Below w.heap.size w w' := by
  have hb := h.byte
  have hl := h.2.1
  refine (open_own h ht).mono fun e w' ⟨v', e1, ho, hb'⟩ => ?_
  have hn := openB_size he
  have hN := newBs_own ho (openB_by hb) (by rw [hn]; omega)
  rcases ho.2 with ⟨_, h0⟩ | ⟨g, cap, cur, rfl, _, _, hc, _⟩
  · omega
  · rw [he] at e1
    rw [hn] at e1 hN hc
    exact ⟨g, 0, cap, e1, hN, hc, hb'⟩
theorem not_opened {w : World} {v : Value} {s : List Int} (h : Bs w v s) (ht : TabOk w) (he : openE s ≠ 0) :
    Calls Tryd.prog 63 #[v] w fun e w' => ∃ v' E, e = .returned (.tuple #[v', .int .i64 E]) ∧ E ≠ 0 ∧ Below w.heap.size w w' :=
  (open_own h ht).mono fun _e _w' ⟨v', e1, _, hb'⟩ => ⟨v', _, e1, he, hb'⟩

set_option maxHeartbeats 800000 in
theorem pieceIn_any {w : World} {v : Value} {s : List Int} (h : Bs w v s) (ht : TabOk w) (hs : s.length = 64) :
    Calls Tryd.prog 47 #[v] w fun e w' => ∃ v', e = .returned (.tuple #[.int .u64 (pcNo s), v', .bool (pcOk s)]) ∧ NewBs w.heap.size w' v' (pcBy s) ∧ Below w.heap.size w w' := by
  by_cases he : openE s = 0
  · have HO := hid (opened h ht he (by omega))
    have hn := openB_size he
    rw [hs] at HO hn
    clear h ht
    by_cases h2 : (dec 0 0 ((openB s).drop 48)).2.2 = 0
    · have hok : pcOk s = true := by simp [pcOk, he, h2]
      have e1 : pcNo s = (dec 0 0 ((openB s).drop 48)).1 := by rw [pcNo, if_pos hok]
      have e2 : pcBy s = (openB s).take 48 := by rw [pcBy, if_pos hok]
      rw [hok, e1, e2]
      clear hok e1 e2 he
      have HE := hid h2
      have HN := hid hn
      clear h2 hn
      obtain ⟨X, hX⟩ : ∃ X, X = (dec 0 0 ((openB s).drop 48)).1 := ⟨_, rfl⟩
      rw [← hX]
      have HX := hid hX
      clear hX
      go_enter Tryd.func47, Tryd.ntmps47
      go_wp2_with (first
        | (go_at_call 63; refine HO.out.mono ?_; rintro e w1 ⟨b, off, cap, rfl, hN1, hc1, hb1⟩; clear HO; have hcut := hN1.cut (lo := 48) (hi := 60) (by omega) (by rw [HN.out]; omega) (by omega); rw [List.take_of_length_le (by rw [HN.out]; omega)] at hcut; have HV := hid (var_bs hcut.1); have HH := hid (hN1.head (hi := 48) (by rw [HN.out]; omega)); rw [← HX.out, HE.out] at HV; clear hcut hN1)
        | (go_at_call 59; refine HV.out.mono ?_; rintro e wz ⟨rfl, hwz⟩; have hwz' := hwz.symm; clear hwz; subst hwz'; clear HV))
      go_quiet (fail)
      go_wp2
      go_ret3
      exact ⟨_, rfl, HH.out.below (below_drewN (Below.refl _ _) _), below_drewN hb1 _⟩
    · have hok : pcOk s = false := by simp [pcOk, h2]
      have e1 : pcNo s = 0 := by rw [pcNo, if_neg (by rw [hok]; decide)]
      have e2 : pcBy s = [] := by rw [pcBy, if_neg (by rw [hok]; decide)]
      rw [hok, e1, e2]
      clear hok e1 e2 he
      obtain ⟨E, hE⟩ : ∃ E, E = (dec 0 0 ((openB s).drop 48)).2.2 := ⟨_, rfl⟩
      rw [← hE] at h2
      have h2' : (E != 0) = true := by simpa using h2
      have HE := hid hE
      have HN := hid hn
      clear h2 hn hE
      go_enter Tryd.func47, Tryd.ntmps47
      go_wp2_with (first
        | (go_at_call 63; refine HO.out.mono ?_; rintro e w1 ⟨b, off, cap, rfl, hN1, hc1, hb1⟩; clear HO; have hcut := hN1.cut (lo := 48) (hi := 60) (by omega) (by rw [HN.out]; omega) (by omega); rw [List.take_of_length_le (by rw [HN.out]; omega)] at hcut; have HV := hid (var_bs hcut.1); rw [← HE.out] at HV; clear hcut hN1)
        | (go_at_call 59; refine HV.out.mono ?_; rintro e wz ⟨rfl, hwz⟩; have hwz' := hwz.symm; clear hwz; subst hwz'; clear HV))
      go_ret3
      exact ⟨_, rfl, NewBs.nil _ _, hb1⟩
  · have HO := hid (not_opened h ht he)
    have hok : pcOk s = false := by simp [pcOk, he]
    have e1 : pcNo s = 0 := by rw [pcNo, if_neg (by rw [hok]; decide)]
    have e2 : pcBy s = [] := by rw [pcBy, if_neg (by rw [hok]; decide)]
    rw [hok, e1, e2]
    clear h ht hok e1 e2 he
    go_enter Tryd.func47, Tryd.ntmps47
    go_wp2_with (go_at_call 63; refine HO.out.mono ?_; rintro e w1 ⟨v1, E, rfl, hE, hb1⟩; have hE' : (E != 0) = true := by simpa using hE)
    go_ret3
    exact ⟨_, rfl, NewBs.nil _ _, hb1⟩
end Go.Proofs.YtgnhalcdlligfaaDoor
