/-
  PackParts: what pack.cutPart gives.
-/
import Derived.Test.YtongdccpoefnlaaDoorPartsPlain
import Derived.Deep.QuietTactic
import Derived.BigQuiet
namespace Go.Proofs.YtongdccpoefnlaaDoor
open Go.RowKit Go.PlainAid

theorem has_nil (w : World) : Has w (.slice none 0 0) [] := ⟨fun j => by simp, by simp, .inl ⟨none, 0, rfl, rfl, fun _ => rfl⟩⟩
theorem Has.drewN {w : World} {v : Value} {zs : List Int} (h : Has w v zs) (m : Nat) : Has (w.drewN m) v zs := h.below (below_drewN (Below.refl _ _) m)

set_option maxRecDepth 8000 in
set_option maxHeartbeats 1600000 in
theorem cutPart_any {w0 w : World} {v : Value} {zs : List Int} (h : Has w0 v zs) (hb : Below w0.heap.size w0 w) :
    Calls Tryd.prog 32 #[v] w fun e w' => ∃ p r, e = .returned (.tuple #[p, r, .int .i64 (cutE zs)]) ∧ Has w0 p (cutP zs) ∧ Has w0 r (cutR zs) ∧ ∃ m, w' = w.drewN m := by
  obtain ⟨ao, cap, rfl, hfo⟩ := h.open
  have H := hid h
  have HV := hid (var_has (h.below hb))
  have hby := h.byte
  have hln := h.len_le
  have hmx := h.2.1
  clear h hb
  by_cases hE : cutE zs = 0
  · obtain ⟨n, x, hd, h1, h2, hP, hR⟩ := cut_ok hby hE
    obtain ⟨b, off, rfl, _⟩ := hfo (by omega)
    rw [hd] at HV
    obtain ⟨L, hL⟩ : ∃ L, L = zs.length := ⟨_, rfl⟩
    rw [← hL] at H HV hln hmx h2 ⊢
    have hA := H.out.cutAt (lo := n) (hi := L) (by omega) (by omega)
    rw [List.take_of_length_le (by omega)] at hA
    have hdl : (zs.drop n).length = L - n := by simp; omega
    rw [hE, hP, hR]
    have HL := hid hL
    clear hL hE hP hR hd hfo hby
    obtain ⟨o1, ho1⟩ : ∃ o1, o1 = if cap = n then off else off + n := ⟨_, rfl⟩
    have hA' : Has w0 (.slice (some ⟨b, o1, none⟩) (L - n) (cap - n)) (zs.drop n) := by
      by_cases hcn : cap = n
      · rw [ho1, if_pos hcn]; rw [if_pos hcn] at hA; exact hA
      · rw [ho1, if_neg hcn]; rw [if_neg hcn] at hA; simpa [Addr.add_lit] using hA
    obtain ⟨o2, ho2⟩ : ∃ o2, o2 = if cap - n = x then o1 else o1 + x := ⟨_, rfl⟩
    have hr := hA'.cutAt (lo := x) (hi := L - n) (by omega) (by omega)
    rw [List.take_of_length_le (by omega)] at hr
    have hr' : Has w0 (.slice (some ⟨b, o2, none⟩) (L - n - x) (cap - n - x)) ((zs.drop n).drop x) := by
      by_cases hcx : cap - n = x
      · rw [ho2, if_pos hcx]; rw [if_pos hcx] at hr; exact hr
      · rw [ho2, if_neg hcx]; rw [if_neg hcx] at hr; simpa [Addr.add_lit] using hr
    have hp := hA'.head (hi := x) (by omega)
    have HP := hid hp
    have HR := hid hr'
    have i1 : (n : Int) ≤ (L : Int) := by omega
    have i2 : ¬ ((L - n : Nat) : Int) < (x : Int) := by omega
    have i3 : (x : Int) ≤ ((L - n : Nat) : Int) := by omega
    have i4 : (x : Int) ≤ ((cap - n : Nat) : Int) := by omega
    clear hA hA' hp hr hr' hdl
    have hLc : L ≤ cap := hln.2
    clear hln
    rcases (show cap = n ∨ (¬ cap = n ∧ cap - n = x) ∨ (¬ cap = n ∧ ¬ cap - n = x) by omega) with hcn | ⟨hcn, hcx⟩ | ⟨hcn, hcx⟩
    · obtain rfl : x = 0 := by omega
      obtain rfl : L = n := by omega
      subst hcn
      rw [if_pos rfl] at ho1
      rw [if_pos (by omega), ho1] at ho2
      rw [ho1] at HP
      rw [ho2] at HR
      clear ho1 ho2
      go_enter Tryd.func32, Tryd.ntmps32
      go_wp2_with (go_at_call 16; refine HV.out.mono ?_; rintro e wz ⟨rfl, hwz⟩; have hwz' := hwz.symm; clear hwz; subst hwz')
      go_quiet (fail)
      go_wp2
      go_ret3
      exact ⟨_, _, rfl, by have := HP.out; first | exact this | (rw [Nat.sub_self] at this; exact this), by have := HR.out; first | exact this | (simp only [Nat.sub_self] at this; exact this), _, rfl⟩
    · subst hcx
      rw [if_neg hcn] at ho1
      rw [if_pos rfl, ho1] at ho2
      rw [ho1] at HP
      rw [ho2] at HR
      clear ho1 ho2
      go_enter Tryd.func32, Tryd.ntmps32
      go_wp2_with (go_at_call 16; refine HV.out.mono ?_; rintro e wz ⟨rfl, hwz⟩; have hwz' := hwz.symm; clear hwz; subst hwz')
      go_quiet (fail)
      go_wp2
      go_ret3
      exact ⟨_, _, rfl, by have := HP.out; first | exact this | (rw [Nat.sub_self] at this; exact this), by have := HR.out; first | exact this | (simp only [Nat.sub_self] at this; exact this), _, rfl⟩
    · rw [if_neg hcn] at ho1
      rw [if_neg hcx, ho1] at ho2
      rw [ho1] at HP
      rw [ho2] at HR
      clear ho1 ho2
      go_enter Tryd.func32, Tryd.ntmps32
      go_wp2_with (go_at_call 16; refine HV.out.mono ?_; rintro e wz ⟨rfl, hwz⟩; have hwz' := hwz.symm; clear hwz; subst hwz')
      go_quiet (fail)
      go_wp2
      go_ret3
      exact ⟨_, _, rfl, by have := HP.out; first | exact this | (rw [Nat.sub_self] at this; exact this), by have := HR.out; first | exact this | (simp only [Nat.sub_self, Nat.sub_zero] at this; exact this), _, rfl⟩
  · have hB := hid hE
    have hPn : cutP zs = [] := by unfold cutP; rw [if_neg hE]
    have hRn : cutR zs = [] := by unfold cutR; rw [if_neg hE]
    rw [hPn, hRn]
    clear hPn hRn
    have hdb := dec_bounds zs 0 0 (by omega) (by decide) (by omega) (fun b hx => (hby b hx).1)
    have hcE : cutE zs = if (dec 0 0 zs).2.2 ≠ 0 then (dec 0 0 zs).2.2 else if (zs.length : Int) - (dec 0 0 zs).2.1 < (dec 0 0 zs).1 then 4 else 0 := rfl
    by_cases h0 : (dec 0 0 zs).2.2 = 0
    · obtain ⟨m, hm, hm1, hm2⟩ := dec_count zs 0 0 h0
      have hm' : (dec 0 0 zs).2.1 = (m : Int) := by rw [hm]; simp
      rw [hm'] at HV hcE
      rw [h0] at HV hcE
      simp only [ne_eq, not_true_eq_false, if_false] at hcE
      obtain ⟨b, off, rfl, _⟩ := hfo (by omega)
      generalize (dec 0 0 zs).1 = x at *
      obtain ⟨L, hL⟩ : ∃ L, L = zs.length := ⟨_, rfl⟩
      rw [← hL] at H HV hln hmx hm2 hcE ⊢
      have hlt : ((L : Int) - (m : Int)) < x := by
        by_cases hq : ((L : Int) - (m : Int)) < x
        · exact hq
        · rw [if_neg hq] at hcE; exact absurd hcE hE
      rw [if_pos hlt] at hcE
      rw [hcE]
      have i1 : (m : Int) ≤ (L : Int) := by omega
      have i2 : ((L - m : Nat) : Int) < x := by omega
      clear hcE hB hE h0 hm hm' hfo hby hL hlt
      go_enter Tryd.func32, Tryd.ntmps32
      go_wp2_with (go_at_call 16; refine HV.out.mono ?_; rintro e wz ⟨rfl, hwz⟩; have hwz' := hwz.symm; clear hwz; subst hwz')
      all_goals go_ret3
      all_goals exact ⟨_, _, rfl, has_nil _, has_nil _, 0, rfl⟩
    · rw [if_pos h0] at hcE
      rw [hcE]
      generalize (dec 0 0 zs).2.2 = er at *
      generalize (dec 0 0 zs).1 = x at *
      generalize (dec 0 0 zs).2.1 = k at *
      have hne : (er != 0) = true := by simpa using h0
      clear hcE hB hE h0 hfo hby
      go_enter Tryd.func32, Tryd.ntmps32
      go_wp2_with (go_at_call 16; refine HV.out.mono ?_; rintro e wz ⟨rfl, hwz⟩; have hwz' := hwz.symm; clear hwz; subst hwz')
      go_ret3
      exact ⟨_, _, rfl, has_nil _, has_nil _, 0, rfl⟩
end Go.Proofs.YtongdccpoefnlaaDoor
