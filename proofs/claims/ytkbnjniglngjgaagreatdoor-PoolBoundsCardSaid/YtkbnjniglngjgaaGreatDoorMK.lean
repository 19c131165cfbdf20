/-
  Layer 4: what wal.pieceIn, headIn and recordIn give.
-/
import Derived.Test.YtkbnjniglngjgaaGreatDoorMF
import Derived.Test.YtkbnjniglngjgaaGreatDoorMJ
namespace Go.Proofs.YtkbnjniglngjgaaGreatDoor
open Go.RowKit Go.Shelf

/-- Bytes in new memory. -/
def NewBs (N : Nat) (w : World) (v : Value) (zs : List Int) : Prop := Bs w v zs ∧ ∀ b, v.ownBlock = some b → N ≤ b ∧ ∃ c, w.heap[b]? = some (.cells c 5 (0, 0))
theorem NewBs.nil (N : Nat) (w : World) : NewBs N w (.slice none 0 0) [] := ⟨⟨fun j => by simp, by simp, .inl ⟨none, 0, rfl, rfl, fun _ => rfl⟩⟩, fun b h => by simp [Value.ownBlock] at h⟩
theorem NewBs.same {N : Nat} {w w' : World} {v : Value} {zs : List Int} (h : NewBs N w v zs) (hk : ∀ (k : Nat) c, w.heap[k]? = some (.cells c 5 (0, 0)) → w'.heap[k]? = w.heap[k]?) : NewBs N w' v zs := by
  refine ⟨h.1.same fun b e => ?_, fun b e => ?_⟩
  · obtain ⟨h1, c, h3⟩ := h.2 b e
    exact hk b c h3
  · obtain ⟨h1, c, h3⟩ := h.2 b e
    exact ⟨h1, c, (hk b c h3).trans h3⟩
theorem NewBs.below {N : Nat} {w w' : World} {v : Value} {zs : List Int} (h : NewBs N w v zs) (hb : Below w.heap.size w w') : NewBs N w' v zs := h.same fun k _ hk => hb.block k (lt_of_heap hk)
theorem NewBs.mono {N M : Nat} {w : World} {v : Value} {zs : List Int} (h : NewBs N w v zs) (hm : M ≤ N) : NewBs M w v zs := ⟨h.1, fun b e => ⟨Nat.le_trans hm (h.2 b e).1, (h.2 b e).2⟩⟩
theorem newBs_own {N n : Nat} {w : World} {v : Value} {zs : List Int} (h : w.ownsRow N 5 1 v n (zs.map (Value.int .u8))) (hb : By zs) (hl : zs.length ≤ 140737488355328) : NewBs N w v zs := by
  refine ⟨bs_of_own h hb hl, fun b e => ?_⟩
  obtain ⟨c, hc⟩ := own_heap h e
  exact ⟨own_base h b e, c, hc⟩
/-- A part of it. -/
theorem NewBs.cut {N : Nat} {w : World} {b off n cap lo hi : Nat} {zs : List Int} (h : NewBs N w (.slice (some ⟨b, off, none⟩) n cap) zs) (h1 : lo ≤ hi) (h2 : hi ≤ zs.length) (h3 : lo < cap) : NewBs N w (.slice (some ⟨b, off + lo, none⟩) (hi - lo) (cap - lo)) ((zs.take hi).drop lo) := by
  refine ⟨?_, fun q e => h.2 q (by simpa [Value.ownBlock] using e)⟩
  have := h.1.cutAt h1 h2
  rw [if_neg (by omega)] at this
  simpa [Addr.add_lit] using this
theorem NewBs.head {N : Nat} {w : World} {ao : Option Addr} {n cap hi : Nat} {zs : List Int} (h : NewBs N w (.slice ao n cap) zs) (h2 : hi ≤ zs.length) : NewBs N w (.slice ao hi cap) (zs.take hi) :=
  ⟨h.1.head h2, fun q e => h.2 q (by cases ao with
    | none => simp [Value.ownBlock] at e
    | some a => simpa [Value.ownBlock] using e)⟩

/-- What an opened text gives, parted. -/
theorem opened {w : World} {v : Value} {s : List Int} (h : Bs w v s) (ht : TabOk w) (he : openE s = 0) (hs : 5 ≤ s.length) :
    Calls Tryz.prog 78 #[v] w fun e w' => ∃ b off cap, e = .returned (.tuple #[.slice (some ⟨b, off, none⟩) (s.length - 4) cap, .int .i64 0]) ∧ NewBs w.heap.size w' (.slice (some ⟨b, off, none⟩) (s.length - 4) cap) (openB s) ∧ s.length - 4 ≤ cap ∧ Below w.heap.size w w' := by
  have hb := h.byte
  have hl := h.2.1
  refine (open_own h ht).mono fun e w' ⟨v', e1, ho, hb'⟩ => ?_
  have hn := openB_size he
  have hN := newBs_own ho (openB_by hb) (by rw [hn]; omega)
  rcases ho.2 with ⟨_, h0⟩ | ⟨g, cap, cur, rfl, _, _, hc, _⟩
  · omega
  · rw [he] at e1
    rw [hn] at e1 hN hc
    exact ⟨g, 0, cap, e1, hN, hc, hb'⟩
theorem not_opened {w : World} {v : Value} {s : List Int} (h : Bs w v s) (ht : TabOk w) (he : openE s ≠ 0) :
    Calls Tryz.prog 78 #[v] w fun e w' => ∃ v' E, e = .returned (.tuple #[v', .int .i64 E]) ∧ E ≠ 0 ∧ Below w.heap.size w w' :=
  (open_own h ht).mono fun _e _w' ⟨v', e1, _, hb'⟩ => ⟨v', _, e1, he, hb'⟩

set_option maxHeartbeats 800000 in
theorem pieceIn_any {w : World} {v : Value} {s : List Int} (h : Bs w v s) (ht : TabOk w) (hs : s.length = 64) :
    Calls Tryz.prog 51 #[v] w fun e w' => ∃ v', e = .returned (.tuple #[.int .u64 (pcNo s), v', .bool (pcOk s)]) ∧ NewBs w.heap.size w' v' (pcBy s) ∧ Below w.heap.size w w' := by
  by_cases he : openE s = 0
  · have HO := hid (opened h ht he (by omega))
    have hn := openB_size he
    rw [hs] at HO hn
    clear h ht
    by_cases h2 : (dec 0 0 ((openB s).drop 48)).2.2 = 0
    · have hok : pcOk s = true := by simp [pcOk, he, h2]
      have e1 : pcNo s = (dec 0 0 ((openB s).drop 48)).1 := by rw [pcNo, if_pos hok]
      have e2 : pcBy s = (openB s).take 48 := by rw [pcBy, if_pos hok]
      rw [hok, e1, e2]
      clear hok e1 e2 he
      have HE := hid h2
      have HN := hid hn
      clear h2 hn
      obtain ⟨X, hX⟩ : ∃ X, X = (dec 0 0 ((openB s).drop 48)).1 := ⟨_, rfl⟩
      rw [← hX]
      have HX := hid hX
      clear hX
      go_enter Tryz.func51, Tryz.ntmps51
      go_wp2_with (first
        | (go_at_call 78; refine HO.out.mono ?_; rintro e w1 ⟨b, off, cap, rfl, hN1, hc1, hb1⟩; clear HO; have hcut := hN1.cut (lo := 48) (hi := 60) (by omega) (by rw [HN.out]; omega) (by omega); rw [List.take_of_length_le (by rw [HN.out]; omega)] at hcut; have HV := hid (var_bs hcut.1); have HH := hid (hN1.head (hi := 48) (by rw [HN.out]; omega)); rw [← HX.out, HE.out] at HV; clear hcut hN1)
        | (go_at_call 73; refine HV.out.mono ?_; rintro e wz ⟨rfl, hwz⟩; have hwz' := hwz.symm; clear hwz; subst hwz'; clear HV))
      go_quiet (fail)
      go_wp2
      go_ret3
      exact ⟨_, rfl, HH.out.below (below_drewN (Below.refl _ _) _), below_drewN hb1 _⟩
    · have hok : pcOk s = false := by simp [pcOk, h2]
      have e1 : pcNo s = 0 := by rw [pcNo, if_neg (by rw [hok]; decide)]
      have e2 : pcBy s = [] := by rw [pcBy, if_neg (by rw [hok]; decide)]
      rw [hok, e1, e2]
      clear hok e1 e2 he
      obtain ⟨E, hE⟩ : ∃ E, E = (dec 0 0 ((openB s).drop 48)).2.2 := ⟨_, rfl⟩
      rw [← hE] at h2
      have h2' : (E != 0) = true := by simpa using h2
      have HE := hid hE
      have HN := hid hn
      clear h2 hn hE
      go_enter Tryz.func51, Tryz.ntmps51
      go_wp2_with (first
        | (go_at_call 78; refine HO.out.mono ?_; rintro e w1 ⟨b, off, cap, rfl, hN1, hc1, hb1⟩; clear HO; have hcut := hN1.cut (lo := 48) (hi := 60) (by omega) (by rw [HN.out]; omega) (by omega); rw [List.take_of_length_le (by rw [HN.out]; omega)] at hcut; have HV := hid (var_bs hcut.1); rw [← HE.out] at HV; clear hcut hN1)
        | (go_at_call 73; refine HV.out.mono ?_; rintro e wz ⟨rfl, hwz⟩; have hwz' := hwz.symm; clear hwz; subst hwz'; clear HV))
      go_ret3
      exact ⟨_, rfl, NewBs.nil _ _, hb1⟩
  · have HO := hid (not_opened h ht he)
    have hok : pcOk s = false := by simp [pcOk, he]
    have e1 : pcNo s = 0 := by rw [pcNo, if_neg (by rw [hok]; decide)]
    have e2 : pcBy s = [] := by rw [pcBy, if_neg (by rw [hok]; decide)]
    rw [hok, e1, e2]
    clear h ht hok e1 e2 he
    go_enter Tryz.func51, Tryz.ntmps51
    go_wp2_with (go_at_call 78; refine HO.out.mono ?_; rintro e w1 ⟨v1, E, rfl, hE, hb1⟩; have hE' : (E != 0) = true := by simpa using hE)
    go_ret3
    exact ⟨_, rfl, NewBs.nil _ _, hb1⟩
end Go.Proofs.YtkbnjniglngjgaaGreatDoor

namespace Go.Proofs.YtkbnjniglngjgaaGreatDoor
open Go.RowKit Go.Shelf

set_option maxHeartbeats 1600000 in
theorem headIn_any {w : World} {v : Value} {s : List Int} (h : Bs w v s) (ht : TabOk w) (hs : s.length = 64) :
    Calls Tryz.prog 47 #[v] w fun e w' => e = .returned (.tuple #[.int .u64 (hdFirst s), .int .u64 (hdFrom s), .bool (hdOk s)]) ∧ Below w.heap.size w w' := by
  have hbad : hdOk s = false → hdFirst s = 0 ∧ hdFrom s = 0 := fun hx => by rw [hdFirst, hdFrom, if_neg (by rw [hx]; decide), if_neg (by rw [hx]; decide)]; exact ⟨rfl, rfl⟩
  have HP := hid (pieceIn_any h ht hs)
  by_cases c1 : pcOk s = true
  case neg =>
    have hx : hdOk s = false := by simp [hdOk, c1]
    rw [hx, (hbad hx).1, (hbad hx).2]
    have c1' : pcOk s = false := by simpa using c1
    rw [c1'] at HP
    clear h ht hbad hx c1 c1'
    go_enter Tryz.func47, Tryz.ntmps47
    go_wp2_with (go_at_call 51; refine HP.out.mono ?_; rintro e w1 ⟨v1, rfl, hN1, hb1⟩; clear HP; clear hN1)
    go_ret3
    exact ⟨rfl, hb1⟩
  have hlen := pcBy_len hs c1
  have HL := hid hlen
  have c1' : pcOk s = true := c1
  rw [c1'] at HP
  by_cases c2 : pcNo s = 18446744073709551615
  case neg =>
    have hx : hdOk s = false := by simp [hdOk, c2]
    rw [hx, (hbad hx).1, (hbad hx).2]
    have hP : (pcNo s != 18446744073709551615) = true := by simpa using c2
    generalize pcNo s = P at HP hP
    clear h ht hbad hx c1 c1' c2 hlen
    go_enter Tryz.func47, Tryz.ntmps47
    go_wp2_with (go_at_call 51; refine HP.out.mono ?_; rintro e w1 ⟨v1, rfl, hN1, hb1⟩; clear HP; clear hN1)
    go_ret3
    exact ⟨rfl, hb1⟩
  rw [c2] at HP
  obtain ⟨X1, N1, E1, hd1⟩ : ∃ X1 N1 E1, dec 0 0 (pcBy s) = (X1, N1, E1) := ⟨_, _, _, rfl⟩
  have HD1 := hid hd1
  by_cases c3 : E1 = 0
  case neg =>
    have hx : hdOk s = false := by simp [hdOk, hd1, c1, c2, c3]
    rw [hx, (hbad hx).1, (hbad hx).2]
    have h3 : (E1 != 0) = true := by simpa using c3
    clear h ht hbad hx c1 c1' c2 hlen hd1 c3
    go_enter Tryz.func47, Tryz.ntmps47
    go_wp2_with (first
      | (go_at_call 51; refine HP.out.mono ?_; rintro e w1 ⟨v1, rfl, hN1, hb1⟩; clear HP; obtain ⟨b, off, cap, rfl⟩ := hN1.1.shape (by rw [HL.out]; omega); have hlc := hN1.1.len_le.2; rw [HL.out] at hN1 hlc ⊢; have HV1 := hid (var_bs hN1.1); rw [HD1.out] at HV1; clear hN1)
      | (go_at_call 73; refine HV1.out.mono ?_; rintro e wz ⟨rfl, hwz⟩; have hwz' := hwz.symm; clear hwz; subst hwz'; clear HV1))
    go_ret3
    exact ⟨rfl, hb1⟩
  subst c3
  by_cases c4 : 1 ≤ X1
  case neg =>
    have hx : hdOk s = false := by simp [hdOk, hd1, c1, c2, c4]
    rw [hx, (hbad hx).1, (hbad hx).2]
    have h4 : X1 < 1 := by omega
    clear h ht hbad hx c1 c1' c2 hlen hd1 c4
    go_enter Tryz.func47, Tryz.ntmps47
    go_wp2_with (first
      | (go_at_call 51; refine HP.out.mono ?_; rintro e w1 ⟨v1, rfl, hN1, hb1⟩; clear HP; obtain ⟨b, off, cap, rfl⟩ := hN1.1.shape (by rw [HL.out]; omega); have hlc := hN1.1.len_le.2; rw [HL.out] at hN1 hlc ⊢; have HV1 := hid (var_bs hN1.1); rw [HD1.out] at HV1; clear hN1)
      | (go_at_call 73; refine HV1.out.mono ?_; rintro e wz ⟨rfl, hwz⟩; have hwz' := hwz.symm; clear hwz; subst hwz'; clear HV1))
    go_ret3
    exact ⟨rfl, hb1⟩
  by_cases c5 : X1 ≤ 4611686018427387904
  case neg =>
    have hx : hdOk s = false := by simp [hdOk, hd1, c1, c2, c4, c5]
    rw [hx, (hbad hx).1, (hbad hx).2]
    have h5 : 4611686018427387904 < X1 := by omega
    have h4 : decide (X1 < 1) = false := by simp; omega
    clear h ht hbad hx c1 c1' c2 hlen hd1 c4 c5
    go_enter Tryz.func47, Tryz.ntmps47
    go_wp2_with (first
      | (go_at_call 51; refine HP.out.mono ?_; rintro e w1 ⟨v1, rfl, hN1, hb1⟩; clear HP; obtain ⟨b, off, cap, rfl⟩ := hN1.1.shape (by rw [HL.out]; omega); have hlc := hN1.1.len_le.2; rw [HL.out] at hN1 hlc ⊢; have HV1 := hid (var_bs hN1.1); rw [HD1.out] at HV1; clear hN1)
      | (go_at_call 73; refine HV1.out.mono ?_; rintro e wz ⟨rfl, hwz⟩; have hwz' := hwz.symm; clear hwz; subst hwz'; clear HV1))
    go_ret3
    exact ⟨rfl, hb1⟩
  have hl1 := dec_len (pcBy s) 0 0 (by rw [hd1])
  have hl2 := dec_ten (pcBy s) 0 0 (by omega) (by rw [hd1])
  rw [hd1] at hl1 hl2
  dsimp only at hl1 hl2
  obtain ⟨N, rfl⟩ : ∃ N : Nat, N1 = (N : Int) := ⟨N1.toNat, by omega⟩
  have hN : 1 ≤ N ∧ N ≤ 10 := by omega
  have h4 : decide (X1 < 1) = false := by simp; omega
  have h5 : decide (4611686018427387904 < X1) = false := by simp; omega
  obtain ⟨X2, N2, E2, hd2⟩ : ∃ X2 N2 E2, dec 0 0 ((pcBy s).drop N) = (X2, N2, E2) := ⟨_, _, _, rfl⟩
  have HD2 := hid hd2
  by_cases c6 : E2 = 0
  case neg =>
    have hx : hdOk s = false := by simp [hdOk, hd1, c1, c2, hd2, c6]
    rw [hx, (hbad hx).1, (hbad hx).2]
    have h6 : (E2 != 0) = true := by simpa using c6
    clear h ht hbad hx c1 c1' c2 hlen hd1 c4 c5 c6 hl1 hl2 hd2
    go_enter Tryz.func47, Tryz.ntmps47
    go_wp2_with (first
      | (go_at_call 51; refine HP.out.mono ?_; rintro e w1 ⟨v1, rfl, hN1, hb1⟩; clear HP; obtain ⟨b, off, cap, rfl⟩ := hN1.1.shape (by rw [HL.out]; omega); have hlc := hN1.1.len_le.2; rw [HL.out] at hN1 hlc ⊢; have hcut := hN1.cut (lo := N) (hi := 48) (by omega) (by rw [HL.out]; omega) (by omega); rw [List.take_of_length_le (by rw [HL.out]; omega)] at hcut; have HV1 := hid (var_bs hN1.1); have HV2 := hid (var_bs hcut.1); rw [HD1.out] at HV1; rw [HD2.out] at HV2; clear hN1 hcut)
      | (go_at_call 73; refine HV1.out.mono ?_; rintro e wz ⟨rfl, hwz⟩; have hwz' := hwz.symm; clear hwz; subst hwz'; clear HV1)
      | (go_at_call 73; refine HV2.out.mono ?_; rintro e wz ⟨rfl, hwz⟩; have hwz' := hwz.symm; clear hwz; subst hwz'; clear HV2))
    go_ret3
    exact ⟨rfl, hb1⟩
  subst c6
  by_cases c7 : X2 ≤ 4611686018427387904
  case neg =>
    have hx : hdOk s = false := by simp [hdOk, hd1, c1, c2, hd2, c7]
    rw [hx, (hbad hx).1, (hbad hx).2]
    have h7 : 4611686018427387904 < X2 := by omega
    clear h ht hbad hx c1 c1' c2 hlen hd1 c4 c5 c7 hl1 hl2 hd2
    go_enter Tryz.func47, Tryz.ntmps47
    go_wp2_with (first
      | (go_at_call 51; refine HP.out.mono ?_; rintro e w1 ⟨v1, rfl, hN1, hb1⟩; clear HP; obtain ⟨b, off, cap, rfl⟩ := hN1.1.shape (by rw [HL.out]; omega); have hlc := hN1.1.len_le.2; rw [HL.out] at hN1 hlc ⊢; have hcut := hN1.cut (lo := N) (hi := 48) (by omega) (by rw [HL.out]; omega) (by omega); rw [List.take_of_length_le (by rw [HL.out]; omega)] at hcut; have HV1 := hid (var_bs hN1.1); have HV2 := hid (var_bs hcut.1); rw [HD1.out] at HV1; rw [HD2.out] at HV2; clear hN1 hcut)
      | (go_at_call 73; refine HV1.out.mono ?_; rintro e wz ⟨rfl, hwz⟩; have hwz' := hwz.symm; clear hwz; subst hwz'; clear HV1)
      | (go_at_call 73; refine HV2.out.mono ?_; rintro e wz ⟨rfl, hwz⟩; have hwz' := hwz.symm; clear hwz; subst hwz'; clear HV2))
    go_ret3
    exact ⟨rfl, hb1⟩
  have hx : hdOk s = true := by simp [hdOk, hd1, hd2, c1, c2, c4, c5, c7]
  have hF : hdFirst s = X1 := by rw [hdFirst, if_pos hx, hd1]
  have hG : hdFrom s = X2 := by rw [hdFrom, if_pos hx, hd1]; simp [hd2]
  have h7 : decide (4611686018427387904 < X2) = false := by simp; omega
  rw [hx, hF, hG]
  clear h ht hbad hx hF hG c1 c1' c2 hlen hd1 c4 c5 c7 hl1 hl2 hd2
  go_enter Tryz.func47, Tryz.ntmps47
  go_wp2_with (first
    | (go_at_call 51; refine HP.out.mono ?_; rintro e w1 ⟨v1, rfl, hN1, hb1⟩; clear HP; obtain ⟨b, off, cap, rfl⟩ := hN1.1.shape (by rw [HL.out]; omega); have hlc := hN1.1.len_le.2; rw [HL.out] at hN1 hlc ⊢; have hcut := hN1.cut (lo := N) (hi := 48) (by omega) (by rw [HL.out]; omega) (by omega); rw [List.take_of_length_le (by rw [HL.out]; omega)] at hcut; have HV1 := hid (var_bs hN1.1); have HV2 := hid (var_bs hcut.1); rw [HD1.out] at HV1; rw [HD2.out] at HV2; clear hN1 hcut)
    | (go_at_call 73; refine HV1.out.mono ?_; rintro e wz ⟨rfl, hwz⟩; have hwz' := hwz.symm; clear hwz; subst hwz'; clear HV1)
    | (go_at_call 73; refine HV2.out.mono ?_; rintro e wz ⟨rfl, hwz⟩; have hwz' := hwz.symm; clear hwz; subst hwz'; clear HV2))
  go_ret3
  exact ⟨rfl, hb1⟩
end Go.Proofs.YtkbnjniglngjgaaGreatDoor
