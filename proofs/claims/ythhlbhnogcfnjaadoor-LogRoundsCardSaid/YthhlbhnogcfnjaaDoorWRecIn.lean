/-
  Layer 4: what wal.recordIn gives.
-/
import Derived.Test.YthhlbhnogcfnjaaDoorWPiece
namespace Go.Proofs.YthhlbhnogcfnjaaDoor
open Go.RowKit Go.Shelf

set_option maxHeartbeats 1600000 in
theorem recordIn_any {w : World} {v : Value} {s : List Int} (h : Bs w v s) (ht : TabOk w) (lsn : Nat) :
    Calls Tryd.prog 53 #[v, .int .u64 lsn] w fun e w' => ∃ v', e = .returned (.tuple #[v', .bool (rcOk s lsn)]) ∧ NewBs w.heap.size w' v' (rcBy s lsn) ∧ Below w.heap.size w w' := by
  have hbad : rcOk s lsn = false → rcBy s lsn = [] := fun hx => by rw [rcBy, if_neg (by rw [hx]; decide)]
  have HV1 := hid (var_bs h)
  obtain ⟨X1, N1, E1, hd1⟩ : ∃ X1 N1 E1, dec 0 0 s = (X1, N1, E1) := ⟨_, _, _, rfl⟩
  rw [hd1] at HV1
  obtain ⟨ao, cap, rfl, hfo⟩ := h.open
  have hlc := h.len_le.2
  have hmx := h.2.1
  have H := hid h
  have HT := hid ht
  clear h ht
  by_cases c1 : E1 = 0
  case neg =>
    have hx : rcOk s lsn = false := by simp [rcOk, rcSize, hd1, c1]
    rw [hx, hbad hx]
    have h1 : (E1 != 0) = true := by simpa using c1
    clear hbad hx hd1 c1 hfo
    go_enter Tryd.func53, Tryd.ntmps53
    go_wp2_with (first
      | (go_at_call 50; refine HV1.out.mono ?_; rintro e wz ⟨rfl, hwz⟩; have hwz' := hwz.symm; clear hwz; subst hwz'; clear HV1))
    go_ret2
    exact ⟨_, rfl, NewBs.nil _ _, Below.refl _ _⟩
  subst c1
  by_cases c2 : X1 = lsn
  case neg =>
    have hx : rcOk s lsn = false := by simp [rcOk, rcSize, hd1, c2]
    rw [hx, hbad hx]
    have h2 : (X1 != (lsn : Int)) = true := by simpa using c2
    clear hbad hx hd1 c2 hfo
    go_enter Tryd.func53, Tryd.ntmps53
    go_wp2_with (first
      | (go_at_call 50; refine HV1.out.mono ?_; rintro e wz ⟨rfl, hwz⟩; have hwz' := hwz.symm; clear hwz; subst hwz'; clear HV1))
    go_ret2
    exact ⟨_, rfl, NewBs.nil _ _, Below.refl _ _⟩
  subst c2
  have hl1 := dec_len s 0 0 (by rw [hd1])
  have hl2 := dec_ten s 0 0 (by omega) (by rw [hd1])
  rw [hd1] at hl1 hl2
  dsimp only at hl1 hl2
  obtain ⟨N, rfl⟩ : ∃ N : Nat, N1 = (N : Int) := ⟨N1.toNat, by omega⟩
  have hN : 1 ≤ N ∧ N ≤ 10 := by omega
  have hNl : N ≤ s.length := by omega
  obtain ⟨b, off, rfl, _⟩ := hfo (by omega)
  obtain ⟨L, hL⟩ : ∃ L, L = s.length := ⟨_, rfl⟩
  have HL := hid hL
  rw [← hL] at HV1 H hlc hmx hNl hl1 ⊢
  have h2 : ((lsn : Int) != (lsn : Int)) = false := by simp
  have hNI : (N : Int) ≤ (L : Int) := by omega
  have hcut := H.out.cutAt (lo := N) (hi := L) (by omega) (by omega)
  rw [List.take_of_length_le (by omega)] at hcut
  obtain ⟨X2, N2, E2, hd2⟩ : ∃ X2 N2 E2, dec 0 0 (s.drop N) = (X2, N2, E2) := ⟨_, _, _, rfl⟩
  have HV2 := hid (var_bs hcut)
  rw [hd2] at HV2
  clear hcut hfo
  by_cases c3 : E2 = 0
  case neg =>
    have hx : rcOk s lsn = false := by simp [rcOk, rcSize, hd1, hd2, c3]
    rw [hx, hbad hx]
    have h3 : (E2 != 0) = true := by simpa using c3
    clear hbad hx hd1 hd2 c3 hL hl1 hl2
    by_cases hcn : cap = N
    · subst hcn
      rw [if_pos rfl, Nat.sub_self] at HV2
      obtain rfl : L = cap := by omega
      rw [Nat.sub_self] at HV2
      go_enter Tryd.func53, Tryd.ntmps53
      go_wp2_with (first
        | (go_at_call 50; refine HV1.out.mono ?_; rintro e wz ⟨rfl, hwz⟩; have hwz' := hwz.symm; clear hwz; subst hwz'; clear HV1)
        | (go_at_call 50; refine HV2.out.mono ?_; rintro e wz ⟨rfl, hwz⟩; have hwz' := hwz.symm; clear hwz; subst hwz'; clear HV2))
      go_ret2
      exact ⟨_, rfl, NewBs.nil _ _, Below.refl _ _⟩
    · rw [if_neg hcn] at HV2
      simp only [Option.map_some, Addr.add_lit] at HV2
      go_enter Tryd.func53, Tryd.ntmps53
      go_wp2_with (first
        | (go_at_call 50; refine HV1.out.mono ?_; rintro e wz ⟨rfl, hwz⟩; have hwz' := hwz.symm; clear hwz; subst hwz'; clear HV1)
        | (go_at_call 50; refine HV2.out.mono ?_; rintro e wz ⟨rfl, hwz⟩; have hwz' := hwz.symm; clear hwz; subst hwz'; clear HV2))
      go_ret2
      exact ⟨_, rfl, NewBs.nil _ _, Below.refl _ _⟩
  subst c3
  have hl3 := dec_len (s.drop N) 0 0 (by rw [hd2])
  rw [List.length_drop] at hl3
  have hcn : ¬ cap = N := by omega
  rw [if_neg hcn] at HV2
  simp only [Option.map_some, Addr.add_lit] at HV2
  have hx0 : 0 ≤ X2 := by have := dec_nonneg (s.drop N) 0 0 (by omega); rw [hd2] at this; exact this
  obtain ⟨S, rfl⟩ : ∃ S : Nat, X2 = (S : Int) := ⟨X2.toNat, by omega⟩
  by_cases c4 : (S : Int) ≤ 2000
  case neg =>
    have hx : rcOk s lsn = false := by simp [rcOk, rcSize, hd1, hd2, c4]
    rw [hx, hbad hx]
    have h4 : (2000 : Int) < (S : Int) := by omega
    clear hbad hx hd1 c4 hL hl1 hl2 hl3 hd2 hx0
    go_enter Tryd.func53, Tryd.ntmps53
    go_wp2_with (first
      | (go_at_call 50; refine HV1.out.mono ?_; rintro e wz ⟨rfl, hwz⟩; have hwz' := hwz.symm; clear hwz; subst hwz'; clear HV1)
      | (go_at_call 50; refine HV2.out.mono ?_; rintro e wz ⟨rfl, hwz⟩; have hwz' := hwz.symm; clear hwz; subst hwz'; clear HV2))
    go_ret2
    exact ⟨_, rfl, NewBs.nil _ _, Below.refl _ _⟩
  have h4 : decide ((2000 : Int) < (S : Int)) = false := by simp; omega
  have hw16 : IntKind.u64.wrap ((S : Int) + 16) = (S : Int) + 16 := PlainAid.u64_nonneg (by omega) (by omega)
  by_cases c5 : S + 16 ≤ L
  case neg =>
    have hx : rcOk s lsn = false := by simp [rcOk, rcSize, hd1, hd2, c4, ← hL]; omega
    rw [hx, hbad hx]
    have h5 : (L : Int) < (S : Int) + 16 := by omega
    clear hbad hx hd1 c4 c5 hL hl1 hl2 hl3 hd2 hx0
    go_enter Tryd.func53, Tryd.ntmps53
    go_wp2_with (first
      | (go_at_call 50; refine HV1.out.mono ?_; rintro e wz ⟨rfl, hwz⟩; have hwz' := hwz.symm; clear hwz; subst hwz'; clear HV1)
      | (go_at_call 50; refine HV2.out.mono ?_; rintro e wz ⟨rfl, hwz⟩; have hwz' := hwz.symm; clear hwz; subst hwz'; clear HV2))
    go_ret2
    exact ⟨_, rfl, NewBs.nil _ _, Below.refl _ _⟩
  have h5 : decide ((L : Int) < (S : Int) + 16) = false := by simp; omega
  have h5' : (S : Int) + 16 ≤ (L : Int) := by omega
  have hhead := H.out.head (hi := S + 16) (by omega)
  have hls : (s.take (S + 16)).length = S + 16 := by rw [List.length_take]; omega
  have hS16 : (((S : Int) + 16).toNat) = S + 16 := by omega
  by_cases c6 : openE (s.take (S + 16)) = 0
  case neg =>
    have HO := hid (not_opened hhead HT.out c6)
    have hx : rcOk s lsn = false := by simp [rcOk, rcSize, hd1, hd2, hS16, c6]
    rw [hx, hbad hx]
    clear hbad hx hd1 hd2 c4 c5 c6 hL hl1 hl2 hl3 hx0 hhead hls hS16
    go_enter Tryd.func53, Tryd.ntmps53
    go_wp2_with (first
      | (go_at_call 50; refine HV1.out.mono ?_; rintro e wz ⟨rfl, hwz⟩; have hwz' := hwz.symm; clear hwz; subst hwz'; clear HV1)
      | (go_at_call 50; refine HV2.out.mono ?_; rintro e wz ⟨rfl, hwz⟩; have hwz' := hwz.symm; clear hwz; subst hwz'; clear HV2)
      | (go_at_call 54; refine HO.out.mono ?_; rintro e w1 ⟨v1, E, rfl, hE, hb1⟩; clear HO; have hE' : (E != 0) = true := (by simpa using hE)))
    go_ret2
    exact ⟨_, rfl, NewBs.nil _ _, hb1⟩
  have HO := hid (opened hhead HT.out c6 (by omega))
  have hob := openB_size c6
  rw [hls] at HO hob
  have hx : rcOk s lsn = true := by simp [rcOk, rcSize, hd1, hd2, hS16, c6, c4, ← hL]; omega
  have hB : rcBy s lsn = (openB (s.take (S + 16))).drop 12 := by simp [rcBy, hx, rcSize, hd1, hd2, hS16]
  rw [hx, hB]
  have HOB := hid hob
  have hs12 : S + 16 - 4 = S + 12 := by omega
  rw [hs12] at HO HOB
  clear hbad hx hB hd1 hd2 c4 c5 c6 hL hl1 hl2 hl3 hx0 hhead hls hS16 hob hs12
  go_enter Tryd.func53, Tryd.ntmps53
  go_wp2_with (first
    | (go_at_call 50; refine HV1.out.mono ?_; rintro e wz ⟨rfl, hwz⟩; have hwz' := hwz.symm; clear hwz; subst hwz'; clear HV1)
    | (go_at_call 50; refine HV2.out.mono ?_; rintro e wz ⟨rfl, hwz⟩; have hwz' := hwz.symm; clear hwz; subst hwz'; clear HV2)
    | (go_at_call 54; refine HO.out.mono ?_; rintro e w1 ⟨b1, off1, cap1, rfl, hN1, hc1, hb1⟩; clear HO; have HN1 := hid hN1; clear hN1))
  · have hc0 : cap1 = 12 := by assumption
    obtain rfl : S = 0 := by omega
    go_ret2
    refine ⟨_, rfl, ?_, hb1⟩
    rw [List.drop_of_length_le (by rw [HOB.out]; omega)]
    exact ⟨⟨fun j => by simp, by simp, .inl ⟨_, _, rfl, rfl, fun e => by cases e⟩⟩, fun q e => HN1.out.2 q (by simpa [Value.ownBlock] using e)⟩
  · have hc0 : ¬ cap1 = 12 := by assumption
    go_ret2
    refine ⟨_, rfl, ?_, hb1⟩
    have := HN1.out.cut (lo := 12) (hi := S + 12) (by omega) (by rw [HOB.out]; omega) (by omega)
    rw [List.take_of_length_le (by rw [HOB.out]; omega)] at this
    simpa using this
end Go.Proofs.YthhlbhnogcfnjaaDoor
