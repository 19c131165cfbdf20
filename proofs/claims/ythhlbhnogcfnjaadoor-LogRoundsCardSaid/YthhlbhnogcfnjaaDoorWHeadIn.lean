/-
  Layer 4: what wal.headIn and recordIn give.
-/
import Derived.Test.YthhlbhnogcfnjaaDoorWPiece
namespace Go.Proofs.YthhlbhnogcfnjaaDoor
open Go.RowKit Go.Shelf

set_option maxHeartbeats 1600000 in
theorem headIn_any {w : World} {v : Value} {s : List Int} (h : Bs w v s) (ht : TabOk w) (hs : s.length = 64) :
    Calls Tryd.prog 35 #[v] w fun e w' => e = .returned (.tuple #[.int .u64 (hdFirst s), .int .u64 (hdFrom s), .bool (hdOk s)]) ∧ Below w.heap.size w w' := by
  have hbad : hdOk s = false → hdFirst s = 0 ∧ hdFrom s = 0 := fun hx => by rw [hdFirst, hdFrom, if_neg (by rw [hx]; decide), if_neg (by rw [hx]; decide)]; exact ⟨rfl, rfl⟩
  have HP := hid (pieceIn_any h ht hs)
  by_cases c1 : pcOk s = true
  case neg =>
    have hx : hdOk s = false := by simp [hdOk, c1]
    rw [hx, (hbad hx).1, (hbad hx).2]
    have c1' : pcOk s = false := by simpa using c1
    rw [c1'] at HP
    clear h ht hbad hx c1 c1'
    go_enter Tryd.func35, Tryd.ntmps35
    go_wp2_with (go_at_call 38; refine HP.out.mono ?_; rintro e w1 ⟨v1, rfl, hN1, hb1⟩; clear HP; clear hN1)
    go_ret3
    exact ⟨rfl, hb1⟩
  have hlen := pcBy_len hs c1
  have HL := hid hlen
  have c1' : pcOk s = true := c1
  rw [c1'] at HP
  by_cases c2 : pcNo s = 18446744073709551615
  case neg =>
    have hx : hdOk s = false := by simp [hdOk, c2]
    rw [hx, (hbad hx).1, (hbad hx).2]
    have hP : (pcNo s != 18446744073709551615) = true := by simpa using c2
    generalize pcNo s = P at HP hP
    clear h ht hbad hx c1 c1' c2 hlen
    go_enter Tryd.func35, Tryd.ntmps35
    go_wp2_with (go_at_call 38; refine HP.out.mono ?_; rintro e w1 ⟨v1, rfl, hN1, hb1⟩; clear HP; clear hN1)
    go_ret3
    exact ⟨rfl, hb1⟩
  rw [c2] at HP
  obtain ⟨X1, N1, E1, hd1⟩ : ∃ X1 N1 E1, dec 0 0 (pcBy s) = (X1, N1, E1) := ⟨_, _, _, rfl⟩
  have HD1 := hid hd1
  by_cases c3 : E1 = 0
  case neg =>
    have hx : hdOk s = false := by simp [hdOk, hd1, c1, c2, c3]
    rw [hx, (hbad hx).1, (hbad hx).2]
    have h3 : (E1 != 0) = true := by simpa using c3
    clear h ht hbad hx c1 c1' c2 hlen hd1 c3
    go_enter Tryd.func35, Tryd.ntmps35
    go_wp2_with (first
      | (go_at_call 38; refine HP.out.mono ?_; rintro e w1 ⟨v1, rfl, hN1, hb1⟩; clear HP; obtain ⟨b, off, cap, rfl⟩ := hN1.1.shape (by rw [HL.out]; omega); have hlc := hN1.1.len_le.2; rw [HL.out] at hN1 hlc ⊢; have HV1 := hid (var_bs hN1.1); rw [HD1.out] at HV1; clear hN1)
      | (go_at_call 50; refine HV1.out.mono ?_; rintro e wz ⟨rfl, hwz⟩; have hwz' := hwz.symm; clear hwz; subst hwz'; clear HV1))
    go_ret3
    exact ⟨rfl, hb1⟩
  subst c3
  by_cases c4 : 1 ≤ X1
  case neg =>
    have hx : hdOk s = false := by simp [hdOk, hd1, c1, c2, c4]
    rw [hx, (hbad hx).1, (hbad hx).2]
    have h4 : X1 < 1 := by omega
    clear h ht hbad hx c1 c1' c2 hlen hd1 c4
    go_enter Tryd.func35, Tryd.ntmps35
    go_wp2_with (first
      | (go_at_call 38; refine HP.out.mono ?_; rintro e w1 ⟨v1, rfl, hN1, hb1⟩; clear HP; obtain ⟨b, off, cap, rfl⟩ := hN1.1.shape (by rw [HL.out]; omega); have hlc := hN1.1.len_le.2; rw [HL.out] at hN1 hlc ⊢; have HV1 := hid (var_bs hN1.1); rw [HD1.out] at HV1; clear hN1)
      | (go_at_call 50; refine HV1.out.mono ?_; rintro e wz ⟨rfl, hwz⟩; have hwz' := hwz.symm; clear hwz; subst hwz'; clear HV1))
    go_ret3
    exact ⟨rfl, hb1⟩
  by_cases c5 : X1 ≤ 4611686018427387904
  case neg =>
    have hx : hdOk s = false := by simp [hdOk, hd1, c1, c2, c4, c5]
    rw [hx, (hbad hx).1, (hbad hx).2]
    have h5 : 4611686018427387904 < X1 := by omega
    have h4 : decide (X1 < 1) = false := by simp; omega
    clear h ht hbad hx c1 c1' c2 hlen hd1 c4 c5
    go_enter Tryd.func35, Tryd.ntmps35
    go_wp2_with (first
      | (go_at_call 38; refine HP.out.mono ?_; rintro e w1 ⟨v1, rfl, hN1, hb1⟩; clear HP; obtain ⟨b, off, cap, rfl⟩ := hN1.1.shape (by rw [HL.out]; omega); have hlc := hN1.1.len_le.2; rw [HL.out] at hN1 hlc ⊢; have HV1 := hid (var_bs hN1.1); rw [HD1.out] at HV1; clear hN1)
      | (go_at_call 50; refine HV1.out.mono ?_; rintro e wz ⟨rfl, hwz⟩; have hwz' := hwz.symm; clear hwz; subst hwz'; clear HV1))
    go_ret3
    exact ⟨rfl, hb1⟩
  have hl1 := dec_len (pcBy s) 0 0 (by rw [hd1])
  have hl2 := dec_ten (pcBy s) 0 0 (by omega) (by rw [hd1])
  rw [hd1] at hl1 hl2
  dsimp only at hl1 hl2
  obtain ⟨N, rfl⟩ : ∃ N : Nat, N1 = (N : Int) := ⟨N1.toNat, by omega⟩
  have hN : 1 ≤ N ∧ N ≤ 10 := by omega
  have h4 : decide (X1 < 1) = false := by simp; omega
  have h5 : decide (4611686018427387904 < X1) = false := by simp; omega
  obtain ⟨X2, N2, E2, hd2⟩ : ∃ X2 N2 E2, dec 0 0 ((pcBy s).drop N) = (X2, N2, E2) := ⟨_, _, _, rfl⟩
  have HD2 := hid hd2
  by_cases c6 : E2 = 0
  case neg =>
    have hx : hdOk s = false := by simp [hdOk, hd1, c1, c2, hd2, c6]
    rw [hx, (hbad hx).1, (hbad hx).2]
    have h6 : (E2 != 0) = true := by simpa using c6
    clear h ht hbad hx c1 c1' c2 hlen hd1 c4 c5 c6 hl1 hl2 hd2
    go_enter Tryd.func35, Tryd.ntmps35
    go_wp2_with (first
      | (go_at_call 38; refine HP.out.mono ?_; rintro e w1 ⟨v1, rfl, hN1, hb1⟩; clear HP; obtain ⟨b, off, cap, rfl⟩ := hN1.1.shape (by rw [HL.out]; omega); have hlc := hN1.1.len_le.2; rw [HL.out] at hN1 hlc ⊢; have hcut := hN1.cut (lo := N) (hi := 48) (by omega) (by rw [HL.out]; omega) (by omega); rw [List.take_of_length_le (by rw [HL.out]; omega)] at hcut; have HV1 := hid (var_bs hN1.1); have HV2 := hid (var_bs hcut.1); rw [HD1.out] at HV1; rw [HD2.out] at HV2; clear hN1 hcut)
      | (go_at_call 50; refine HV1.out.mono ?_; rintro e wz ⟨rfl, hwz⟩; have hwz' := hwz.symm; clear hwz; subst hwz'; clear HV1)
      | (go_at_call 50; refine HV2.out.mono ?_; rintro e wz ⟨rfl, hwz⟩; have hwz' := hwz.symm; clear hwz; subst hwz'; clear HV2))
    go_ret3
    exact ⟨rfl, hb1⟩
  subst c6
  by_cases c7 : X2 ≤ 4611686018427387904
  case neg =>
    have hx : hdOk s = false := by simp [hdOk, hd1, c1, c2, hd2, c7]
    rw [hx, (hbad hx).1, (hbad hx).2]
    have h7 : 4611686018427387904 < X2 := by omega
    clear h ht hbad hx c1 c1' c2 hlen hd1 c4 c5 c7 hl1 hl2 hd2
    go_enter Tryd.func35, Tryd.ntmps35
    go_wp2_with (first
      | (go_at_call 38; refine HP.out.mono ?_; rintro e w1 ⟨v1, rfl, hN1, hb1⟩; clear HP; obtain ⟨b, off, cap, rfl⟩ := hN1.1.shape (by rw [HL.out]; omega); have hlc := hN1.1.len_le.2; rw [HL.out] at hN1 hlc ⊢; have hcut := hN1.cut (lo := N) (hi := 48) (by omega) (by rw [HL.out]; omega) (by omega); rw [List.take_of_length_le (by rw [HL.out]; omega)] at hcut; have HV1 := hid (var_bs hN1.1); have HV2 := hid (var_bs hcut.1); rw [HD1.out] at HV1; rw [HD2.out] at HV2; clear hN1 hcut)
      | (go_at_call 50; refine HV1.out.mono ?_; rintro e wz ⟨rfl, hwz⟩; have hwz' := hwz.symm; clear hwz; subst hwz'; clear HV1)
      | (go_at_call 50; refine HV2.out.mono ?_; rintro e wz ⟨rfl, hwz⟩; have hwz' := hwz.symm; clear hwz; subst hwz'; clear HV2))
    go_ret3
    exact ⟨rfl, hb1⟩
  have hx : hdOk s = true := by simp [hdOk, hd1, hd2, c1, c2, c4, c5, c7]
  have hF : hdFirst s = X1 := by rw [hdFirst, if_pos hx, hd1]
  have hG : hdFrom s = X2 := by rw [hdFrom, if_pos hx, hd1]; simp [hd2]
  have h7 : decide (4611686018427387904 < X2) = false := by simp; omega
  rw [hx, hF, hG]
  clear h ht hbad hx hF hG c1 c1' c2 hlen hd1 c4 c5 c7 hl1 hl2 hd2
  go_enter Tryd.func35, Tryd.ntmps35
  go_wp2_with (first
    | (go_at_call 38; refine HP.out.mono ?_; rintro e w1 ⟨v1, rfl, hN1, hb1⟩; clear HP; obtain ⟨b, off, cap, rfl⟩ := hN1.1.shape (by rw [HL.out]; omega); have hlc := hN1.1.len_le.2; rw [HL.out] at hN1 hlc ⊢; have hcut := hN1.cut (lo := N) (hi := 48) (by omega) (by rw [HL.out]; omega) (by omega); rw [List.take_of_length_le (by rw [HL.out]; omega)] at hcut; have HV1 := hid (var_bs hN1.1); have HV2 := hid (var_bs hcut.1); rw [HD1.out] at HV1; rw [HD2.out] at HV2; clear hN1 hcut)
    | (go_at_call 50; refine HV1.out.mono ?_; rintro e wz ⟨rfl, hwz⟩; have hwz' := hwz.symm; clear hwz; subst hwz'; clear HV1)
    | (go_at_call 50; refine HV2.out.mono ?_; rintro e wz ⟨rfl, hwz⟩; have hwz' := hwz.symm; clear hwz; subst hwz'; clear HV2))
  go_ret3
  exact ⟨rfl, hb1⟩
end Go.Proofs.YthhlbhnogcfnjaaDoor
