/-
  PackParts: what the document's own Split and Join give, and pack.Join.
-/
import Derived.Test.YtongdccpoefnlaaDoorPartsPlain
import Derived.Test.YtongdccpoefnlaaDoorRefUvar
import Derived.Lib.Strings
import Derived.Deep.RegionWith
import Derived.Maps.AppendAt
namespace Go.Proofs.YtongdccpoefnlaaDoor
open Go.RowKit Go.PlainAid

theorem info9 : (Tryd.prog.info? 9).map (fun i => (i.zero, i.size, i.bytes)) = some (some (.string ⟨#[]⟩), 1, 16) := by kernel_rfl
def lenStr : Value → Nat
  | .string s => s.size
  | _ => 0
abbrev strV (p : List Int) : Value := .string (strOfNums p)
theorem str_cut (zs : List Int) (a b : Nat) : (strOfNums zs).extract a b = strOfNums ((zs.drop a).take (b - a)) := by
  apply Go.WideShapes.bytes_inj
  rw [Lib.extract_data]
  simp [strOfNums, List.map_take, List.map_drop]

set_option maxRecDepth 8000 in
set_option maxHeartbeats 1600000 in
theorem refSplit_any {s : ByteArray} {zs : List Int} (h : Str s zs) (hl : zs.length ≤ 1048576) (w : World) :
    Calls Tryd.prog 22 #[.string s] w fun e w' => ∃ v', e = .returned (.tuple #[v', .int .i64 (resE (seqOf zs))]) ∧ w'.ownsRow w.heap.size 9 1 v' (resL (seqOf zs)).length ((resL (seqOf zs)).map strV) ∧ Below w.heap.size w w' := by
  obtain ⟨i0, hi, hz0, hz1, hz2⟩ := info_parts info9
  have H := hid h
  clear h
  go_enter Tryd.func22, Tryd.ntmps22
  go_wp2
  go_loopw [0, 4] (fun b v wr => ∃ (zs' : List Int) (pre : List (List Int)), b = .string (strOfNums zs') ∧ (∀ x ∈ zs', 0 ≤ x ∧ x ≤ 255) ∧ pre.length + zs'.length ≤ 1048576 ∧ seqOf zs = (pre.map fun p => (p, (0 : Int))) ++ seqOf zs' ∧
      wr.ownsRow w.heap.size 9 1 v pre.length (pre.map strV) ∧ Below w.heap.size w wr) (fun b _ _ => lenStr b)
  case atStart => exact ⟨zs, [], by rw [H.out.1], H.out.2.1, by simpa using hl, rfl, World.ownsRow_nil _ _ _ _, Below.refl _ _⟩
  case round =>
    obtain ⟨zs', pre, rfl, hby, hcnt, hseq, hown, hbr⟩ := hrel
    have hsz : (strOfNums zs').size = zs'.length := strOfNums_size zs'
    have HV := hid (refVar_any (s := strOfNums zs') ⟨rfl, hby, by omega⟩ wr)
    have hz : resE (pre.map fun p => (p, (0 : Int))) = 0 := (res_join pre).1
    have hE : resE (seqOf zs) = resE (seqOf zs') := by rw [hseq, resE_append _ _ hz]
    have hdb := dec_bounds zs' 0 0 (by omega) (by decide) (by omega) (fun b hx => (hby b hx).1)
    by_cases hz' : zs' = []
    · subst hz'
      have hr : resE (seqOf zs) = 0 := by rw [hE]; rfl
      have hL : resL (seqOf zs) = pre := by rw [hseq, seqOf_nil, List.append_nil]; exact (res_join pre).2
      have HR := hid hr
      have HL := hid hL
      clear hr hL hE hz hseq
      go_wp2
      go_ret2
      rw [HR.out, HL.out]
      exact ⟨_, rfl, hown, hbr⟩
    · have hsq := seqOf_cons hby hz'
      have hl1 : 1 ≤ zs'.length := by
        cases zs' with
        | nil => exact absurd rfl hz'
        | cons a t => simp
      by_cases hcE : cutE zs' = 0
      · obtain ⟨n, x, hd, h1, h2, hP, hR⟩ := cut_ok hby hcE
        rw [hd] at HV
        rw [if_pos hcE, hcE] at hsq
        have HSQ := hid hsq
        have HQ := hid hseq
        have HP := hid hP
        have HRR := hid hR
        have HBY := hid (cutR_byte hby)
        have HO := hid hown
        obtain ⟨sz, hszz⟩ : ∃ s, s = strOfNums zs' := ⟨_, rfl⟩
        rw [← hszz] at HV hsz ⊢
        have HZ := hid hszz
        clear hsq hseq hP hR hE hz hd hdb hown hszz hcE hz' hby
        have g0 : (0 : Int) < (sz.size : Int) := by omega
        have g1 : n ≤ sz.size := by omega
        have g2 : n + x ≤ sz.size := by omega
        have g3 : ¬ (sz.size : Int) - (n : Int) < (x : Int) := by omega
        have g4 : sz.size ≤ 1048576 := by omega
        have g5 : pre.length + 1 ≤ 1048577 := by omega
        have HSZ := hid hsz
        have HC := hid hcnt
        have HH2 := hid h2
        clear hsz hcnt hl1 h2
        have hbs := hbr.size
        have hsl : ∀ wx : World, (Instr.slice 9 (.string sz) (some (.int .i64 (n : Int))) (some (.int .i64 ((n : Int) + (x : Int)))) none).run Tryd.prog wx = .ok (.string (sz.extract n (n + x))) wx := fun wx => by
          have := run_slice_string (P := Tryd.prog) wx 9 sz .i64 .i64 (n : Int) ((n : Int) + (x : Int)) Tryd.underlying9 (by omega) (by omega) (by omega)
          rw [show ((n : Int)).toNat = n by omega, show ((n : Int) + (x : Int)).toNat = n + x by omega] at this
          exact this
        have hsr : ∀ wx : World, (Instr.slice 9 (.string sz) (some (.int .i64 ((n : Int) + (x : Int)))) none none).run Tryd.prog wx = .ok (.string (sz.extract (n + x) sz.size)) wx := fun wx => by
          have := run_slice_string_l (P := Tryd.prog) wx 9 sz Tryd.underlying9 .i64 ((n : Int) + (x : Int)) (by omega) (by omega)
          rw [show ((n : Int) + (x : Int)).toNat = n + x by omega] at this
          exact this
        go_wp2_with (first | (go_at_call 17; refine HV.out.mono ?_; rintro e wz ⟨rfl, hwz⟩; have hwz' := hwz.symm; clear hwz; subst hwz') | (at_builtin; refine wpList_append_own _ rfl (.tmp 27) (.tmp 35) 47 rfl w.heap.size 9 i0 (.string ⟨#[]⟩) 1 16 Tryd.underlying47 hi hz0 hz1 hz2 rfl (by decide) u4 _ _ rfl (HO.out.alloc _) ⟨wr.heap.size, 0, none⟩ 1 1 [.string (sz.extract n (n + x))] rfl rfl (cell_one_new _ _ _) (by intro u hu; simp at hu; subst hu; rfl) (by unfold maxLen; omega) (by omega) (by simp; omega) ?_; intro v4 w4 hown4 hgrow4 _; have hB4 := (hbr.alloc hbs _).grown hgrow4 (by simp; omega) (own_base HO.out)))
        go_roundw
        case rel =>
          have e1 : sz.extract n (n + x) = strOfNums (cutP zs') := by rw [HZ.out, str_cut, HP.out, Nat.add_sub_cancel_left]
          have e2 : sz.extract (n + x) sz.size = strOfNums (cutR zs') := by
            rw [HZ.out, str_cut, HRR.out, List.take_of_length_le (by rw [strOfNums_size]; simp), List.drop_drop]
          refine ⟨cutR zs', pre ++ [cutP zs'], by rw [e2], HBY.out, ?_, ?_, ?_, hB4⟩
          · have := HC.out; have := HH2.out; rw [HRR.out]; simp; omega
          · rw [HQ.out, HSQ.out]; simp
          · rw [e1] at hown4; simpa using hown4
        case measure =>
          simp [lenStr]
          omega
      · rw [if_neg hcE] at hsq
        have hr : resE (seqOf zs) = cutE zs' := by rw [hE, hsq]; simp [resE, hcE]
        have hL : resL (seqOf zs) = [] := by unfold resL; rw [hr, if_neg hcE]
        have HL := hid hL
        have hcD : cutE zs' = if (dec 0 0 zs').2.2 ≠ 0 then (dec 0 0 zs').2.2 else if (zs'.length : Int) - (dec 0 0 zs').2.1 < (dec 0 0 zs').1 then 4 else 0 := rfl
        by_cases h0 : (dec 0 0 zs').2.2 = 0
        · obtain ⟨m, hm, hm1, hm2⟩ := dec_count zs' 0 0 h0
          have hm' : (dec 0 0 zs').2.1 = (m : Int) := by rw [hm]; simp
          rw [hm', h0] at HV hcD
          simp only [ne_eq, not_true_eq_false, if_false] at hcD
          have hlt : (zs'.length : Int) - (m : Int) < (dec 0 0 zs').1 := by
            by_cases hq : (zs'.length : Int) - (m : Int) < (dec 0 0 zs').1
            · exact hq
            · rw [if_neg hq] at hcD; exact absurd hcD hcE
          rw [if_pos hlt] at hcD
          have HR := hid (hr.trans hcD)
          generalize (dec 0 0 zs').1 = x at *
          obtain ⟨sz, hszz⟩ : ∃ s, s = strOfNums zs' := ⟨_, rfl⟩
          rw [← hszz] at HV hsz ⊢
          have g0 : (0 : Int) < (sz.size : Int) := by omega
          have g1 : (sz.size : Int) - (m : Int) < x := by omega
          have g2 : m ≤ sz.size := by omega
          have g4 : sz.size ≤ 1048576 := by omega
          clear hcD hr hL hE hz hseq hsq hm hm' hlt hsz hszz hcE hz' hby h0 hl1 hm2 hcnt hown
          go_wp2_with (go_at_call 17; refine HV.out.mono ?_; rintro e wz ⟨rfl, hwz⟩; have hwz' := hwz.symm; clear hwz; subst hwz')
          go_ret2
          rw [HR.out, HL.out]
          exact ⟨_, rfl, World.ownsRow_nil _ _ _ _, hbr⟩
        · rw [if_pos h0] at hcD
          have HR := hid (hr.trans hcD)
          generalize (dec 0 0 zs').2.2 = er at *
          generalize (dec 0 0 zs').1 = x at *
          generalize (dec 0 0 zs').2.1 = k at *
          have hne : (er != 0) = true := by simpa using h0
          obtain ⟨sz, hszz⟩ : ∃ s, s = strOfNums zs' := ⟨_, rfl⟩
          rw [← hszz] at HV hsz ⊢
          have g0 : (0 : Int) < (sz.size : Int) := by omega
          clear hcD hr hL hE hz hseq hsq hsz hszz hcE hz' hby h0 hl1 hcnt hown
          go_wp2_with (go_at_call 17; refine HV.out.mono ?_; rintro e wz ⟨rfl, hwz⟩; have hwz' := hwz.symm; clear hwz; subst hwz')
          go_ret2
          rw [HR.out, HL.out]
          exact ⟨_, rfl, World.ownsRow_nil _ _ _ _, hbr⟩
end Go.Proofs.YtongdccpoefnlaaDoor
