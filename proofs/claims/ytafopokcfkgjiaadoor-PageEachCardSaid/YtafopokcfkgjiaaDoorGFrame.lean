/-
  Layer 3: what page.load, frameOf, pageOf give.
-/
import Derived.Test.YtafopokcfkgjiaaDoorGOps
namespace Go.Proofs.YtafopokcfkgjiaaDoor
open Go.RowKit

theorem wpList_exec {P : Program} {ops : Array Oper} {rest : List Oper} {o : Oper} {a : Act} {w w' : World} {Q : Exit → Act → World → Prop} {v : Value} (hgd : o.guard = none) (hrun : (execOp a.eval o).run P w = .ok (.value v) w')
    (h : wpList P ops Q rest (a.put o.dst v) w') : wpList P ops Q (o :: rest) a w :=
  wpList_plain hgd fun K hK => by
    unfold Oper.wp
    rw [hrun]
    exact hK _ _ h

theorem secV_app (a b : List Int) : secV (a ++ b) = secV a ++ secV b := by simp [secV]
theorem bs_own {w : World} {base n : Nat} {v : Value} {l : List Int} (h : w.ownsRow base 5 1 v n (secV l)) (hb : By l) (hl : l.length ≤ 65536) : Bs w v l := bs_of_own h hb (by omega)
theorem Bs.kd {w w' : World} {_base : Nat} {v : Value} {zs : List Int} (h : Bs w v zs) (hk : ∀ b o x, w.cell? ⟨b, o, none⟩ = some (.int .u8 x) → w'.cell? ⟨b, o, none⟩ = some (.int .u8 x)) : Bs w' v zs := by
  refine ⟨h.1, h.2.1, ?_⟩
  rcases h.2.2 with h' | ⟨b, off, cap, rfl, hcap, hc⟩
  · exact .inl h'
  · exact .inr ⟨b, off, cap, rfl, hcap, fun j hj => hk _ _ _ (hc j hj)⟩

set_option maxRecDepth 8000 in
theorem load_any {w : World} {base n F B p0 np : Nat} {d : Dk} {half : Bool} (hd : DiskIs w base B n d) (hf : FileIs w base F B p0 np half) (hl : d.left ≠ 0) {i K : Nat} (hi : i + K ≤ n) (hK : K ≤ 64) :
    Calls Tryd.prog 45 #[.pointer (some ⟨F, 0, none⟩), .int .i64 i, .int .i64 K] w fun e w' => ∃ v, e = .returned (.tuple #[v, .int .i64 0]) ∧ w'.ownsRow w.heap.size 5 1 v (64 * K) (secV (secs d.now i K)) ∧ Below w.heap.size w w' := by
  obtain ⟨i0, hi0, hz0, hz1, hz2⟩ := info_parts info5
  have hn := hd.2.1
  have HN := hid hd.ok.now_len
  have HS := hid hd.ok.now_secs
  have HD := hid hd
  have HF := hid hf
  have HL := hid hl
  clear hd hf hl
  go_enter Tryd.func45, Tryd.ntmps45
  go_wp2_with (at_make; refine wpList_make_own _ rfl _ _ 31 rfl w.heap.size 5 i0 (.int .u8 0) 1 Tryd.underlying31 hi0 hz0 hz1 _ _ _ (K * 64) rfl rfl (by omega) (by rw [hz2]; omega) (by unfold maxLen; omega) (Nat.le_refl _) ?_; intro w1 hown1 hgrow1; have HB1 := hid (show Below w.heap.size w w1 from (Below.refl _ _).grown hgrow1 (Nat.le_refl _) (by intro k hk; cases hk)); have HO1 := hid hown1; clear hown1 hgrow1)
  go_loopw [8, 9, 10, 11, 16] (fun u _ _ _ t wr => ∃ k : Nat, k ≤ K ∧ t = .int .i64 k ∧ wr.ownsRow w.heap.size 5 1 u (64 * k) (secV (secs d.now i k)) ∧ Below w.heap.size w wr) (fun _ _ _ _ t _ => K - (intOf t).toNat)
  case atStart => exact ⟨0, by omega, rfl, by rw [secs_zero]; exact HO1.out, HB1.out⟩
  case round =>
    obtain ⟨k, hk, rfl, hown, hbr⟩ := hrel
    by_cases hlt : k < K
    · have hrd := read_any (HD.out.below hbr) (i := i + k) (by omega) HL.out
      rw [show ((i + k : Nat) : Int) = (i : Int) + (k : Int) by omega] at hrd
      have HR := hid hrd
      clear hrd
      obtain ⟨c0, _, _, _⟩ := (HF.out.below hbr).cells
      have HO := hid hown
      have HB := hid hbr
      have hkI : (k : Int) < (K : Int) := by omega
      have HSE := hid (show Sec (d.now.getD (i + k) []) from HS.out _ (by have := HN.out; simp [List.getD, show i + k < d.now.length by omega]))
      clear hown hbr
      go_wp2_with (first
        | (go_at_call 41; refine HR.out.mono ?_; rintro e w2 ⟨v2, rfl, hown2, hb2⟩; have HO2 := hid hown2; have HB2 := hid (HB.out.trans (hb2.mono HB.out.size)); have HOK := hid (own_below HO.out hb2); clear hown2 hb2)
        | (at_builtin; refine wpList_append_bs rfl (.tmp 33) (.tmp 34) rfl w.heap.size _ _ _ rfl HOK.out _ _ rfl (bs_own HO2.out HSE.out.2 (by rw [HSE.out.1]; omega)) (by rw [HSE.out.1]; omega) HB2.out.size ?_; intro v3 w3 hown3 hgrow3; have HB3 := hid (HB2.out.grown hgrow3 HB2.out.size (own_base HOK.out)); have HO3 := hid hown3; clear hown3 hgrow3))
      go_roundw
      case rel =>
        refine ⟨k + 1, by omega, by go_num, ?_, HB3.out⟩
        have h3 := HO3.out
        rw [HSE.out.1] at h3
        rw [secs_succ (by have := HN.out; omega), secV_app, show 64 * (k + 1) = 64 * k + 64 by omega]
        exact h3
      case measure => simp [intOf]; omega
    · obtain rfl : k = K := by omega
      have HO := hid hown
      have HB := hid hbr
      clear hown hbr
      go_wp2
      go_ret2
      exact ⟨_, rfl, HO.out, HB.out⟩
set_option maxRecDepth 8000 in
theorem load_dead {w : World} {base n F B p0 np : Nat} {d : Dk} {half : Bool} (hd : DiskIs w base B n d) (hf : FileIs w base F B p0 np half) (hl : d.left = 0) {i K : Nat} (hi : i + K ≤ n) (hK : 1 ≤ K) (hK2 : K ≤ 64) :
    Calls Tryd.prog 45 #[.pointer (some ⟨F, 0, none⟩), .int .i64 i, .int .i64 K] w fun e w' => e = .returned (.tuple #[.slice none 0 0, .int .i64 50]) ∧ Below w.heap.size w w' := by
  obtain ⟨i0, hi0, hz0, hz1, hz2⟩ := info_parts info5
  have hn := hd.2.1
  have HD := hid hd
  have HF := hid hf
  have HL := hid hl
  have h0K : (0 : Int) < (K : Int) := by omega
  clear hd hf hl
  go_enter Tryd.func45, Tryd.ntmps45
  go_wp2_with (at_make; refine wpList_make_own _ rfl _ _ 31 rfl w.heap.size 5 i0 (.int .u8 0) 1 Tryd.underlying31 hi0 hz0 hz1 _ _ _ (K * 64) rfl rfl (by omega) (by rw [hz2]; omega) (by unfold maxLen; omega) (Nat.le_refl _) ?_; intro w1 hown1 hgrow1; have HB1 := hid (show Below w.heap.size w w1 from (Below.refl _ _).grown hgrow1 (Nat.le_refl _) (by intro k hk; cases hk)); clear hown1 hgrow1)
  have HR := hid (read_dead (HD.out.below HB1.out) (i := i) (by omega) HL.out)
  obtain ⟨c0, _, _, _⟩ := (HF.out.below HB1.out).cells
  refine wp_loop_rounds 1 ?_
  rw [rounds_succ]
  go_wp2_with (go_at_call 41; refine HR.out.mono ?_; rintro e w2 ⟨rfl, hw⟩; have hw' := hw.symm; clear hw; subst hw')
  go_ret2
  exact ⟨rfl, HB1.out⟩
end Go.Proofs.YtafopokcfkgjiaaDoor
