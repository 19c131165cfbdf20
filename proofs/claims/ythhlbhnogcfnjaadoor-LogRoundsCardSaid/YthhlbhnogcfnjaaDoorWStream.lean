/-
  Layer 4: what wal.readStream gives.
-/
import Derived.Test.YthhlbhnogcfnjaaDoorWRead
namespace Go.Proofs.YthhlbhnogcfnjaaDoor
open Go.RowKit Go.Shelf

/-- The sector in which a Log at sector at' keeps its piece number no. -/
def sectAt (now : List (List Int)) (at' sc no : Nat) : List Int := now.getD (at' + 1 + no % (sc - 1)) []
/-- The stream that a Log finds on a disk. -/
def strm (now : List (List Int)) (at' sc no : Nat) : List Int := strmF (sectAt now at' sc) (sc - 1) no
theorem strmF_len {rd : Nat → List Int} (hs : ∀ no, (rd no).length = 64) : ∀ (f no : Nat), (strmF rd f no).length ≤ 48 * f
  | 0, _ => by simp [strmF]
  | f + 1, no => by
    unfold strmF
    split
    · rename_i h
      have := strmF_len hs f (no + 1)
      rw [List.length_append, pcBy_len (hs no) h.1]
      omega
    · simp
theorem strmF_by {rd : Nat → List Int} (hs : ∀ no, By (rd no)) : ∀ (f no : Nat), By (strmF rd f no)
  | 0, _ => fun x hx => by simp [strmF] at hx
  | f + 1, no => by
    unfold strmF
    split
    · exact (pcBy_by (hs no)).app (strmF_by hs f (no + 1))
    · exact fun x hx => by simp at hx
theorem sectAt_sec {d : Dk} {n at' sc : Nat} (h : d.Ok n) (hsc : 16 ≤ sc ∧ at' + sc ≤ n) (no : Nat) : Sec (sectAt d.now at' sc no) := by
  have hlt : no % (sc - 1) < sc - 1 := Nat.mod_lt _ (by omega)
  exact h.now_secs _ (by simp [sectAt, List.getD, h.now_len, show at' + 1 + no % (sc - 1) < n by omega])

set_option maxRecDepth 8000 in
set_option maxHeartbeats 3200000 in
theorem readStream_any {w : World} {base L B n at' sc : Nat} {d : Dk} {g : Lg} (h : LogIs w base L B n at' sc d g) (hl : d.left ≠ 0) (ht : TabOk w) :
    Calls Tryd.prog 36 #[.pointer (some ⟨L, 0, none⟩)] w fun e w' => ∃ v', e = .returned (.tuple #[v', .int .i64 0]) ∧ w'.ownsRow w.heap.size 5 1 v' (strm d.now at' sc (g.start / 48)).length ((strm d.now at' sc (g.start / 48)).map (Value.int .u8)) ∧ Below w.heap.size w w' := by
  obtain ⟨ra, rc, ta, tc, hh, _⟩ := h.form
  obtain ⟨c0, c1, c2, c3, c4, c5, c6, c7, c8⟩ := log_cells hh
  have hsc := h.2.2.1
  have hnum := h.2.2.2.1
  have hdn := h.1.2.1
  have HSEC := hid (fun no => sectAt_sec h.1.ok (at' := at') (sc := sc) ⟨hsc.1, hsc.2.2⟩ no)
  have H := hid h
  have HL := hid hl
  have HT := hid ht
  have HRI := hid (lring_any h)
  have hq : ((g.start : Int) / 48) = ((g.start / 48 : Nat) : Int) := by omega
  obtain ⟨P, hP⟩ : ∃ P, P = g.start / 48 := ⟨_, rfl⟩
  have hP1 : P ≤ 200000000000000000 := by omega
  rw [← hP] at hq ⊢
  have HQ := hid hq
  have h0 : (0 : Int) ≤ (g.start : Int) := by omega
  obtain ⟨G, hG⟩ : ∃ G, G = g.start := ⟨_, rfl⟩
  rw [← hG] at c5 HQ
  obtain ⟨rg, hrg⟩ : ∃ rg, rg = sc - 1 := ⟨_, rfl⟩
  have hrg1 : 15 ≤ rg ∧ rg ≤ 32767 := by omega
  rw [← hrg] at HRI
  have HRG := hid hrg
  obtain ⟨st, hst⟩ : ∃ st, st = strm d.now at' sc P := ⟨_, rfl⟩
  rw [← hst]
  have HST := hid hst
  clear h hl ht hh hq hP hG hrg hst
  go_enter Tryd.func36, Tryd.ntmps36
  go_wp2_with (go_at_call 51; refine HRI.out.mono ?_; rintro e w2 ⟨rfl, hw⟩; have hw' := hw.symm; clear hw HRI; subst hw')
  rename_i K0 hK0
  have HK0 := hid hK0
  clear hK0
  rw [HQ.out, wrap_u64 (by omega)]
  go_loopw [4, 5, 6, 7, 8, 9, 10, 18] (fun o no _ _ _ _ _ t wr => ∃ (k : Nat) (pre : List Int), k ≤ rg ∧ t = .int .i64 k ∧ no = .int .u64 ((P + k : Nat) : Int) ∧ pre.length = 48 * k ∧ By pre ∧ pre ++ strmF (sectAt d.now at' sc) (rg - k) (P + k) = st ∧ wr.ownsRow w.heap.size 5 1 o pre.length (pre.map (Value.int .u8)) ∧ Below w.heap.size w wr) (fun _ _ _ _ _ _ _ t _ => rg - (intOf t).toNat)
  case atStart => exact ⟨0, [], by omega, rfl, by simp, rfl, fun x hx => by simp at hx, by rw [HST.out, strm, HRG.out]; rfl, World.ownsRow_nil _ _ _ _, Below.refl _ _⟩
  case round =>
    obtain ⟨k, pre, hk, rfl, rfl, hpl, hpb, hps, hown, hbr⟩ := hrel
    have hbase : ∀ wx, Below w.heap.size w wx → wx.cell? ⟨L, 0, none⟩ = some (.pointer (some ⟨B, 0, none⟩)) := fun wx hb => by
      obtain ⟨ra2, rc2, ta2, tc2, hh2, _⟩ := (H.out.below hb).form
      exact (log_cells hh2).1
    have HC0 := hid hbase
    have HBR := hid hbr
    have HOWN := hid hown
    obtain ⟨ao, cao, rfl⟩ := slice_form hown
    have HPS := hid hps
    have HPB := hid hpb
    have HLN := hid hpl
    clear hbase hbr hown hps hpb hpl
    by_cases hlt : k < rg
    · have hkI : (k : Int) < (rg : Int) := by omega
      have hcD := HC0.out wr.drew HBR.out.drew
      have HPL := hid (lplace_any (H.out.below HBR.out.drew) (P + k) (by omega))
      obtain ⟨s, hs⟩ : ∃ s, s = sectAt d.now at' sc (P + k) := ⟨_, rfl⟩
      have hss : Sec s := hs ▸ HSEC.out _
      have HRDA : Hid (∀ wx, Below w.heap.size w wx → Calls Tryd.prog 34 #[.pointer (some ⟨B, 0, none⟩), .int .i64 ((at' + 1 + (P + k) % (sc - 1) : Nat) : Int)] wx fun e w3 => ∃ a3 k3, e = .returned (.tuple #[.slice a3 64 k3, .int .i64 0]) ∧ Hid (Calls Tryd.prog 38 #[.slice a3 64 k3] w3 fun e w' => ∃ v', e = .returned (.tuple #[.int .u64 (pcNo s), v', .bool (pcOk s)]) ∧ NewBs w3.heap.size w' v' (pcBy s) ∧ Below w3.heap.size w3 w') ∧ Hid (Below w.heap.size wx w3) ∧ Hid (Below wx.heap.size wx w3) ∧ w3.cell? ⟨L, 0, none⟩ = some (.pointer (some ⟨B, 0, none⟩))) := fun wx hb => by
        refine (read_any (H.out.1.below hb) (i := at' + 1 + (P + k) % (sc - 1)) (by have : (P + k) % (sc - 1) < sc - 1 := Nat.mod_lt _ (by omega); omega) HL.out).mono ?_
        rintro e w3 ⟨v3, rfl, hown3, hb3⟩
        obtain ⟨a3, k3, rfl⟩ := slice_form hown3
        have hb3' : Below w.heap.size w w3 := hb.trans (hb3.mono hb.size)
        have hown4 : w3.ownsRow wx.heap.size 5 1 (.slice a3 64 k3) 64 (s.map (Value.int .u8)) := by rw [hs]; exact hown3
        have hbs := bs_of_own hown4 hss.2 (by rw [hss.1]; omega)
        exact ⟨a3, k3, rfl, pieceIn_any hbs (HT.out.below hb3' (Nat.le_refl _)) hss.1, hb3.mono hb.size, hb3, HC0.out w3 hb3'⟩
      have HSS := hid hss
      have HS := hid hs
      obtain ⟨I, hI⟩ : ∃ I, I = at' + 1 + (P + k) % (sc - 1) := ⟨_, rfl⟩
      rw [← hI] at HPL HRDA
      clear hI hss hs
      have hstep : strmF (sectAt d.now at' sc) (rg - k) (P + k) = if pcOk s = true ∧ pcNo s = (P + k : Nat) then pcBy s ++ strmF (sectAt d.now at' sc) (rg - (k + 1)) (P + (k + 1)) else [] := by
        rw [show rg - k = rg - (k + 1) + 1 by omega, strmF, ← HS.out, Nat.add_assoc]
      have HSTEP := hid hstep
      clear hstep
      obtain ⟨Q, hQ⟩ : ∃ Q, Q = P + k := ⟨_, rfl⟩
      have hQ1 : Q ≤ 300000000000000000 := by omega
      have HQQ := hid hQ
      rw [← hQ] at HPL
      clear hQ
      by_cases hok : pcOk s = true
      · rw [hok] at HRDA
        by_cases hno : pcNo s = (Q : Int)
        · rw [hno] at HRDA
          have hne : ((Q : Int) != (Q : Int)) = false := by simp
          have HPY := hid (pcBy_len HSS.out.1 hok)
          have HPBY := hid (pcBy_by HSS.out.2)
          have hs' := HSTEP.out
          rw [if_pos ⟨hok, by rw [hno, HQQ.out]⟩] at hs'
          have HS' := hid hs'
          clear hs' HSTEP hok hno
          rw [← HQQ.out]
          go_wp2
          go_region_held (fun w' => w'.cell? ⟨L, 0, none⟩ = some (.pointer (some ⟨B, 0, none⟩))) (first | exact hcD | exact e0 | exact f0) (first
            | (go_at_call 47; refine HPL.out.mono ?_; rintro e w2 ⟨rfl, q, hw⟩; clear HPL; have hb2 : Below w.heap.size w w2 := (by rw [hw]; exact below_drewN HBR.out.drew q); have HB2 := hid hb2; have e0 := HC0.out w2 hb2; have hbw : Below wr.heap.size wr w2 := (by rw [hw]; exact below_drewN (Below.refl _ wr).drew q); have HOWN2 := hid (own_below HOWN.out hbw); have HRD := hid (HRDA.out w2 hb2); clear hw hb2 hbw)
            | (go_at_call 34; refine HRD.out.mono ?_; rintro e w3 ⟨a3, k3, rfl, hP3, hb3, hb3', f0⟩; clear HRD; have HB3 := hid (HB2.out.trans hb3.out); have HOWN3 := hid (own_below HOWN2.out (hb3'.out))))
          go_wp2_with (first
            | (go_at_call 38; refine hP3.out.mono ?_; rintro e w4 ⟨v4, rfl, hN4, hb4⟩; clear hP3; obtain ⟨b4, off4, cap4, rfl⟩ := hN4.1.shape (by rw [HPY.out]; omega); rw [HPY.out] at hN4 ⊢; have HN4 := hid hN4; have HB4 := hid (HB3.out.trans (hb4.mono HB3.out.size)); have HOWN4 := hid (own_below HOWN3.out hb4); clear hN4 hb4)
            | (at_builtin; refine wpList_append_bs rfl (.tmp 47) (.tmp 48) rfl w.heap.size _ _ _ rfl HOWN4.out _ (pcBy s) rfl HN4.out.1 (by rw [HPY.out, HLN.out]; omega) HB4.out.size ?_; intro v5 w5 hown5 hgrow5; have HB5 := hid (HB4.out.grown hgrow5 HB4.out.size (own_base HOWN4.out)); obtain ⟨a5, c5', rfl⟩ := slice_form hown5; have HOWN5 := hid hown5; clear hown5 hgrow5))
          go_roundw
          case rel =>
            refine ⟨k + 1, pre ++ pcBy s, by omega, by go_num, ?_, by rw [List.length_append, HPY.out, HLN.out]; omega, HPB.out.app HPBY.out, ?_, ?_, HB5.out⟩
            · rw [HQQ.out]; go_num
            · rw [List.append_assoc, ← HS'.out]; exact HPS.out
            · rw [List.map_append, List.length_append]; exact HOWN5.out
          case measure => simp [intOf]; omega
        · have hne : (pcNo s != (Q : Int)) = true := by simpa using hno
          have hs' := HSTEP.out
          rw [if_neg (fun hx => hno (by rw [hx.2, HQQ.out]))] at hs'
          have HS' := hid hs'
          generalize pcNo s = PN at HRDA hne
          clear hs' HSTEP hok hno
          rw [← HQQ.out]
          go_wp2
          go_region_held (fun w' => w'.cell? ⟨L, 0, none⟩ = some (.pointer (some ⟨B, 0, none⟩))) (first | exact hcD | exact e0 | exact f0) (first
            | (go_at_call 47; refine HPL.out.mono ?_; rintro e w2 ⟨rfl, q, hw⟩; clear HPL; have hb2 : Below w.heap.size w w2 := (by rw [hw]; exact below_drewN HBR.out.drew q); have HB2 := hid hb2; have e0 := HC0.out w2 hb2; have hbw : Below wr.heap.size wr w2 := (by rw [hw]; exact below_drewN (Below.refl _ wr).drew q); have HOWN2 := hid (own_below HOWN.out hbw); have HRD := hid (HRDA.out w2 hb2); clear hw hb2 hbw)
            | (go_at_call 34; refine HRD.out.mono ?_; rintro e w3 ⟨a3, k3, rfl, hP3, hb3, hb3', f0⟩; clear HRD; have HB3 := hid (HB2.out.trans hb3.out); have HOWN3 := hid (own_below HOWN2.out (hb3'.out))))
          go_wp2_with (go_at_call 38; refine hP3.out.mono ?_; rintro e w4 ⟨v4, rfl, hN4, hb4⟩; clear hP3; have HB4 := hid (HB3.out.trans (hb4.mono HB3.out.size)); have HOWN4 := hid (own_below HOWN3.out hb4); clear hN4 hb4)
          refine HK0.out _ _ ?_
          go_wp2
          go_ret2
          have hps := HPS.out
          rw [HS'.out, List.append_nil] at hps
          rw [← hps]
          exact ⟨_, rfl, HOWN4.out, HB4.out⟩
      · have hok' : pcOk s = false := by simpa using hok
        have hs' := HSTEP.out
        rw [if_neg (fun hx => hok hx.1)] at hs'
        have HS' := hid hs'
        rw [hok'] at HRDA
        clear hs' HSTEP hok hok'
        rw [← HQQ.out]
        go_wp2
        go_region_held (fun w' => w'.cell? ⟨L, 0, none⟩ = some (.pointer (some ⟨B, 0, none⟩))) (first | exact hcD | exact e0 | exact f0) (first
          | (go_at_call 47; refine HPL.out.mono ?_; rintro e w2 ⟨rfl, q, hw⟩; clear HPL; have hb2 : Below w.heap.size w w2 := (by rw [hw]; exact below_drewN HBR.out.drew q); have HB2 := hid hb2; have e0 := HC0.out w2 hb2; have hbw : Below wr.heap.size wr w2 := (by rw [hw]; exact below_drewN (Below.refl _ wr).drew q); have HOWN2 := hid (own_below HOWN.out hbw); have HRD := hid (HRDA.out w2 hb2); clear hw hb2 hbw)
          | (go_at_call 34; refine HRD.out.mono ?_; rintro e w3 ⟨a3, k3, rfl, hP3, hb3, hb3', f0⟩; clear HRD; have HB3 := hid (HB2.out.trans hb3.out); have HOWN3 := hid (own_below HOWN2.out (hb3'.out))))
        go_wp2_with (go_at_call 38; refine hP3.out.mono ?_; rintro e w4 ⟨v4, rfl, hN4, hb4⟩; clear hP3; have HB4 := hid (HB3.out.trans (hb4.mono HB3.out.size)); have HOWN4 := hid (own_below HOWN3.out hb4); clear hN4 hb4)
        refine HK0.out _ _ ?_
        go_wp2
        go_ret2
        have hps := HPS.out
        rw [HS'.out, List.append_nil] at hps
        rw [← hps]
        exact ⟨_, rfl, HOWN4.out, HB4.out⟩
    · obtain rfl : k = rg := by omega
      go_wp2
      refine HK0.out _ _ ?_
      go_wp2
      go_ret2
      have hps := HPS.out
      rw [Nat.sub_self, strmF, List.append_nil] at hps
      rw [← hps]
      exact ⟨_, rfl, HOWN.out, HBR.out⟩
end Go.Proofs.YthhlbhnogcfnjaaDoor
