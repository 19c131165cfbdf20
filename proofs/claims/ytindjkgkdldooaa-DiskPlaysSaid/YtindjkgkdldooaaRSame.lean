/-
  What terrierlaw2.Same gives.
-/
import Derived.Test.YtindjkgkdldooaaRNew
namespace Go.Proofs.Ytindjkgkdldooaa
open Go.RowKit

theorem conv_nil (w : World) : (convert 28 9 (.slice none 0 0)).run Try.prog w = .ok (.string (strOfNums [])) w :=
  run_convert_bytes_nil w 28 5 Try.underlying28 Try.underlying5 0 0 9 Try.underlying9

set_option maxRecDepth 8000 in
set_option maxHeartbeats 4000000 in
theorem same_any {w : World} {base B R n : Nat} {d : Dk} {f : Int} (hd : DiskIs w base B n d) (hr : RefIs w base R n d f) (hwl : d.wait.length ≤ 1000000) :
    Calls Try.prog 25 #[.pointer (some ⟨B, 0, none⟩), .pointer (some ⟨R, 0, none⟩)] w fun e w' => e = .returned (.bool true) ∧ Below w.heap.size w w' := by
  have hdrew : Below w.heap.size w w.drew := (Below.refl _ w).drew
  have HD := hid hd
  have HR := hid hr
  have HDD := hid (hd.below hdrew)
  have hn := hd.2.1
  obtain ⟨_, _, _, _, _, gs, cs, vw, hh, b1, b2⟩ := hr
  obtain ⟨aw, cw, rfl, _⟩ := slice_of b2
  rw [List.length_map] at hh
  obtain ⟨b, hb⟩ : ∃ b, (d.left == 0) = b := ⟨_, rfl⟩
  rw [hb] at hh
  have HBB := hid hb
  have HS := hid (And.intro (cell_of_row w.drew R 0 _ _ _ hh) (And.intro (cell_of_row w.drew R 1 _ _ _ hh) (And.intro (cell_of_row w.drew R 2 _ _ _ hh) (cell_of_row w.drew R 4 _ _ _ hh))))
  have HH := hid hh
  clear hd hb hh b1 b2 hdrew
  go_enter Try.func25, Try.ntmps25
  go_wp2
  go_region_held (fun w' => w'.cell? ⟨R, 0, none⟩ = some (.slice (some ⟨gs, 0, none⟩) n cs) ∧ w'.cell? ⟨R, 1, none⟩ = some (.slice aw d.wait.length cw) ∧ w'.cell? ⟨R, 2, none⟩ = some (.int .i64 d.writes) ∧ w'.cell? ⟨R, 4, none⟩ = some (.bool b)) (exact HS.out) (first
    | (go_at_call 14; refine (sectors_any HDD.out).mono ?_; rintro e w4 ⟨rfl, h4⟩; have h4' := h4; clear h4; subst h4')
    | (go_at_call 12; refine (writes_any HDD.out).mono ?_; rintro e w4 ⟨rfl, h4⟩; have h4' := h4; clear h4; subst h4')
    | (go_at_call 13; refine (waiting_any HDD.out).mono ?_; rintro e w4 ⟨rfl, h4⟩; have h4' := h4; clear h4; subst h4')
    | (go_at_call 27; refine (dead_any HDD.out).mono ?_; rintro e w4 ⟨rfl, h4⟩; have h4' := h4; clear h4; subst h4'; rw [HBB.out]))
  go_wp2
  by_cases hdead : d.left = 0
  · go_loopw [5, 6, 7, 8, 9] (fun i _ _ _ _ wr => ∃ k : Nat, k ≤ n ∧ i = .int .i64 k ∧ Below w.heap.size w wr) (fun i _ _ _ _ _ => n - (intOf i).toNat)
    case atStart => exact ⟨0, Nat.zero_le _, rfl, (Below.refl _ w).drew⟩
    case round =>
      obtain ⟨k, hkn, rfl, hbw⟩ := hrel
      have hc0 := cell_of_row wr R 0 _ _ _ ((hbw.block R HR.out.lt).trans HH.out)
      simp only [List.getElem?_toArray, List.getElem?_cons_zero] at hc0
      clear HS HDD
      by_cases hlt : k < n
      · have hltI : (k : Int) < (n : Int) := by omega
        have HRD := hid (read_dead (HD.out.below hbw) (i := (k : Int)) ⟨by omega, hltI⟩ hdead)
        have HRR := hid (rread_dead (HR.out.below hbw) (i := k) hlt hdead)
        have hcv := conv_nil wr
        unfold strV at HRR
        obtain ⟨E, hE⟩ : ∃ E, E = strOfNums [] := ⟨_, rfl⟩
        rw [← hE] at HRR hcv
        clear hE
        have HBW := hid hbw
        clear hbw
        go_wp2_with (first
          | (go_at_call 15; refine HRD.out.mono ?_; rintro e w4 ⟨rfl, h4⟩; have h4' := h4.symm; clear h4; subst h4')
          | (go_at_call 20; refine HRR.out.mono ?_; rintro e w4 ⟨rfl, h4⟩; have h4' := h4.symm; clear h4; subst h4'))
        go_roundw
        case rel => exact ⟨k + 1, by omega, by go_num, HBW.out⟩
        case measure => simp [intOf]; omega
      · obtain rfl : k = n := by omega
        go_wp2
        go_ret
        exact ⟨rfl, hbw⟩
  · go_loopw [5, 6, 7, 8, 9] (fun i _ _ _ _ wr => ∃ k : Nat, k ≤ n ∧ i = .int .i64 k ∧ Below w.heap.size w wr) (fun i _ _ _ _ _ => n - (intOf i).toNat)
    case atStart => exact ⟨0, Nat.zero_le _, rfl, (Below.refl _ w).drew⟩
    case round =>
      obtain ⟨k, hkn, rfl, hbw⟩ := hrel
      have hc0 := cell_of_row wr R 0 _ _ _ ((hbw.block R HR.out.lt).trans HH.out)
      simp only [List.getElem?_toArray, List.getElem?_cons_zero] at hc0
      clear HS HDD
      by_cases hlt : k < n
      · have hltI : (k : Int) < (n : Int) := by omega
        have HRD := hid (read_any (HD.out.below hbw) (i := k) hlt hdead)
        have HDE := hid hdead
        obtain ⟨S, hS⟩ : ∃ S, S = strOfNums (d.now.getD k []) := ⟨_, rfl⟩
        have HSS := hid hS
        have HBW := hid hbw
        clear hbw hS hdead
        go_wp2_with (first
          | (go_at_call 15; refine HRD.out.mono ?_; rintro e w4 ⟨v4, rfl, ho4, hb4⟩; have HB4 := hid (HBW.out.trans (hb4.mono HBW.out.size)); have hcv := (has_sec ho4).conv; rw [← HSS.out] at hcv; have HRR := hid (rread_any (HR.out.below HB4.out) (i := k) hlt HDE.out hwl); unfold strV at HRR; rw [← HSS.out] at HRR; clear HRD ho4 hb4)
          | (go_at_call 20; refine HRR.out.mono ?_; rintro e w5 ⟨rfl, h4⟩; have h4' := h4.symm; clear h4; subst h4'))
        go_roundw
        case rel => exact ⟨k + 1, by omega, by go_num, HB4.out⟩
        case measure => simp [intOf]; omega
      · obtain rfl : k = n := by omega
        go_wp2
        go_ret
        exact ⟨rfl, hbw⟩
end Go.Proofs.Ytindjkgkdldooaa
