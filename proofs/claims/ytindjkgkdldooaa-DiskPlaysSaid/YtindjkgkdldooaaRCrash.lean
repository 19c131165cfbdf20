/-
  What terrierref1's Crash gives.
-/
import Derived.Test.YtindjkgkdldooaaRFlush
namespace Go.Proofs.Ytindjkgkdldooaa
open Go.RowKit

set_option maxRecDepth 8000 in
set_option maxHeartbeats 2000000 in
theorem rcrash_any {w0 w : World} {R n : Nat} {d : Dk} {f : Int} (h : RefIs w w0.heap.size R n d f) (hwl : d.wait.length ≤ 1000000) {v : Value} {ks : List Int} (hk : Ints w0 v ks) (hb0 : Below w0.heap.size w0 w) (hkl : ks.length ≤ 140737488355328) :
    Calls Try.prog 22 #[.pointer (some ⟨R, 0, none⟩), v] w fun e w' => (∃ v', e = .returned v') ∧ (∃ f', RefIs w' w0.heap.size R n (d.crash ks) f') ∧ Kr w0.heap.size w w' := by
  have hbase := h.base_le
  obtain ⟨_, ak, ck, rfl, hc⟩ := hk
  have HC := hid hc
  obtain ⟨ho, hn, hR, hf, hf0, gs, cs, vw, hh, b1, b2⟩ := h
  obtain ⟨aw, cw, rfl, haw⟩ := slice_of b2
  rw [List.length_map] at hh b2 haw
  obtain ⟨b, hbb⟩ : ∃ b, b = (d.left == 0) := ⟨_, rfl⟩
  rw [← hbb] at hh
  have HR0 : Hid (Rf w w0.heap.size R n d f gs cs (.slice aw d.wait.length cw) b d.last w) := hid ⟨hh, b1, b2, Kr.refl _ _, ho.secs⟩
  have HP := hid (And.intro ho hn)
  have HB0 := hid hb0
  clear ho hn hf hf0 hh b1 b2 hc hbb hb0
  go_enter Try.func22, Try.ntmps22
  go_wp2
  go_loopw [4, 5] (fun v _ wr => ∃ k : Nat, k ≤ d.wait.length ∧ v = .int .i64 k ∧ Rf w w0.heap.size R n d f gs cs (.slice aw d.wait.length cw) b (app d.last (kept ks (d.wait.take k))) wr) (fun v _ _ => d.wait.length - (intOf v).toNat)
  case atStart => exact ⟨0, Nat.zero_le _, rfl, HR0.out⟩
  case round =>
    obtain ⟨k, hkl', rfl, hRf⟩ := hrel
    clear HR0
    have hd1 := cell_of_row wr R 1 _ _ _ hRf.str
    simp only [List.getElem?_toArray, List.getElem?_cons_succ, List.getElem?_cons_zero] at hd1
    by_cases hlt : k < d.wait.length
    · obtain ⟨gw, rfl⟩ := haw (by omega)
      have hx := HP.out.1.waits (d.wait[k]) (List.getElem_mem hlt)
      have hltI : (k : Int) < (d.wait.length : Int) := by omega
      have HRF := hid hRf
      obtain ⟨L, hL⟩ : ∃ L, L = app d.last (kept ks (d.wait.take k)) := ⟨_, rfl⟩
      rw [← hL] at HRF
      have htk : app d.last (kept ks (d.wait.take (k + 1))) = if (k : Int) ∈ ks then L.set (d.wait[k]).1 (d.wait[k]).2 else L := by
        rw [List.take_succ_eq_append_getElem hlt, kept_snoc, List.length_take, Nat.min_eq_left (by omega), hL]
        split
        · rw [app_snoc]
        · rw [List.append_nil]
      obtain ⟨x, hxx⟩ : ∃ x, x = d.wait[k] := ⟨_, rfl⟩
      rw [← hxx] at htk hx
      have HTK := hid htk
      have HXX := hid hxx
      have hx1 := hx.1
      have HX := hid hx.2
      clear hRf hL htk hxx hx
      go_wp2
      go_loopw [5] (fun j wr2 => ∃ m : Nat, m ≤ ks.length ∧ j = .int .i64 m ∧ Rf w w0.heap.size R n d f gs cs (.slice (some ⟨gw, 0, none⟩) d.wait.length cw) b (if (k : Int) ∈ ks.take m then L.set x.1 x.2 else L) wr2) (fun j _ => ks.length - (intOf j).toNat)
      case atStart => exact ⟨0, Nat.zero_le _, rfl, by simpa using HRF.out⟩
      case round =>
        obtain ⟨m, hml, rfl, hRm⟩ := hrel
        clear HRF hd1
        by_cases hlm : m < ks.length
        · obtain ⟨b2, off2, rfl, hce2⟩ := int_at HC.out (HB0.out.trans hRm.kr.below) hlm
          obtain ⟨z, hz⟩ : ∃ z, z = ks.getD m 0 := ⟨_, rfl⟩
          rw [← hz] at hce2
          have hts : ks.take (m + 1) = ks.take m ++ [z] := by rw [List.take_succ_eq_append_getElem hlm, hz]; simp [List.getD, hlm]
          have hlmI : (m : Int) < (ks.length : Int) := by omega
          have HTS := hid hts
          obtain ⟨M, hM⟩ : ∃ M, M = (if (k : Int) ∈ ks.take m then L.set x.1 x.2 else L) := ⟨_, rfl⟩
          rw [← hM] at hRm
          have HM := hid hM
          clear hz hts hM
          by_cases hzk : z = (k : Int)
          · subst hzk
            have hr0 := hRm.drew
            have hS0 := hr0.cells hlt rfl
            have hr1 := hr0.set hbase x.1 HX.out
            have hS1 := hr1.cells hlt rfl
            rw [← HXX.out] at hS0 hS1
            have hcp : wr.drew.cell? ⟨gs, x.1, none⟩ = some (strV (M.getD x.1 [])) := by
              rw [hr0.row.cellAt _ (by omega)]
              have := hr0.len
              simp [List.getD, this, hx1]
            have hfp := hr0.row.frozenAt x.1
            obtain ⟨T, hT⟩ : ∃ T, T = strOfNums x.2 := ⟨_, rfl⟩
            unfold strV at hS0 hS1 hr1 hcp
            rw [← hT] at hS0 hS1 hr1
            have hpn : (x.1 : Int) < (n : Int) := by omega
            have HR1 := hid hr1
            have HS0 := hid hS0
            have HS1 := hid hS1
            clear hRm hr0 hr1 hT hS0 hS1
            go_wp2
            first | (go_region_held (fun w' => w'.cell? ⟨R, 0, none⟩ = some (.slice (some ⟨gs, 0, none⟩) n cs) ∧ w'.cell? ⟨R, 1, none⟩ = some (.slice (some ⟨gw, 0, none⟩) d.wait.length cw) ∧ w'.cell? ⟨gw, k * 2, none⟩ = some (.int .i64 x.1) ∧ w'.cell? ⟨gw, k * 2 + 1, none⟩ = some (.string T)) (first | exact HS0.out | exact HS1.out) (fail)) | fail
            go_wp2
            go_roundw
            case rel =>
              refine ⟨m + 1, by omega, by go_num, ?_⟩
              have e : (if (k : Int) ∈ ks.take (m + 1) then L.set x.1 x.2 else L) = M.set x.1 x.2 := by
                rw [HTS.out, if_pos (by simp), HM.out]
                split <;> simp
              rw [e]
              exact HR1.out
            case measure => simp [intOf]; omega
          · have hzk' : (z == (k : Int)) = false := by simpa using hzk
            have HZ := hid hzk
            have HRM := hid hRm
            clear hzk hRm
            go_wp2
            go_roundw
            case rel =>
              refine ⟨m + 1, by omega, by go_num, ?_⟩
              have e : (if (k : Int) ∈ ks.take (m + 1) then L.set x.1 x.2 else L) = M := by
                rw [HTS.out, HM.out]
                have hz' : ¬ ((k : Int) = z) := fun e => HZ.out e.symm
                simp [hz']
              rw [e]
              exact HRM.out
            case measure => simp [intOf]; omega
        · obtain rfl : m = ks.length := by omega
          rw [List.take_of_length_le (Nat.le_refl _), ← HTK.out] at hRm
          have HRM := hid hRm
          clear hRm
          go_wp2
          go_roundw
          case rel => exact ⟨k + 1, by omega, by go_num, HRM.out⟩
          case measure => simp [intOf]; omega
    · obtain rfl : k = d.wait.length := by omega
      rw [List.take_of_length_le (Nat.le_refl _)] at hRf
      have hf1 := frozen_of_row wr R 1 _ _ hRf.str
      have hf3 := frozen_of_row wr R 3 _ _ hRf.str
      have hf4 := frozen_of_row wr R 4 _ _ hRf.str
      have hd3 := cell_of_row wr R 3 _ _ _ hRf.str
      have hd4 := cell_of_row wr R 4 _ _ _ hRf.str
      simp only [List.getElem?_toArray, List.getElem?_cons_succ, List.getElem?_cons_zero] at hd3 hd4
      have hclo : RefIs (((wr.setCell ⟨R, 1, none⟩ (.slice none 0 0)).setCell ⟨R, 4, none⟩ (.bool false)).setCell ⟨R, 3, none⟩ (.int .i64 (-1))) w0.heap.size R n (d.crash ks) (-1) ∧ Kr w0.heap.size w (((wr.setCell ⟨R, 1, none⟩ (.slice none 0 0)).setCell ⟨R, 4, none⟩ (.bool false)).setCell ⟨R, 3, none⟩ (.int .i64 (-1))) := by
        refine hRf.close HP.out.1 HP.out.2 hR ⟨by omega, by omega⟩ (fun _ => rfl) ⟨by omega, by omega⟩ (b' := false) (by decide) hbase (((grown_setCell _ _ _ _).trans (grown_setCell _ _ _ _)).trans (grown_setCell _ _ _ _)) ?_
        rw [heap_setCell_same _ R 3 _ _ _ (heap_setCell_same _ R 4 _ _ _ (heap_setCell_same _ R 1 _ _ _ hRf.str))]
        rfl
      have HK := hid hclo
      clear hRf hclo
      go_wp2
      go_end0
      exact ⟨⟨_, rfl⟩, ⟨_, HK.out.1⟩, HK.out.2⟩
end Go.Proofs.Ytindjkgkdldooaa
