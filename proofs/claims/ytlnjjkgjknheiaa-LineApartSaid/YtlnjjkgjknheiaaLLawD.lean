/-
  LineApart, given what line answers.
-/
import Derived.Test.YtlnjjkgjknheiaaLApartP
import Derived.Test.YtlnjjkgjknheiaaLLaw
namespace Go.Proofs.Ytlnjjkgjknheiaa
open Go.RowKit Go.Sort


set_option maxRecDepth 100000 in
set_option maxHeartbeats 3200000 in
theorem lineApart_core (H : LineC) (w : World) (u v : Value) (ps qs : List Pp) (hu : Src w u ps) (hv : Src w v qs) (hlp : ps.length ≤ 140737488355328) (hlq : qs.length ≤ 140737488355328) :
    Calls Try.prog 4 #[u, v] w fun e w' => e = .returned (.bool true) ∧ Below w.heap.size w w' := by
  have HU := hid hu
  have HV := hid hv
  have HB := hid (Below.refl w.heap.size w)
  have F1 := hid (fun W h => refOk12_any u ps W h hlp)
  have F2 := hid (fun W h => refOk12_any v qs W h hlq)
  obtain ⟨O1, hO1⟩ : ∃ O, okL ps = O := ⟨_, rfl⟩
  obtain ⟨O2, hO2⟩ : ∃ O, okL qs = O := ⟨_, rfl⟩
  rw [hO1] at F1
  rw [hO2] at F2
  have HO1 := hid hO1
  have HO2 := hid hO2
  clear hu hv hO1 hO2
  cases O1 with
  | false =>
    go_enter Try.func4, Try.ntmps4
    go_wp2_with (first
      | (go_at_call 7; refine (F1.out _ HU.out.pts).mono ?_; rintro e w1 ⟨rfl, hb1⟩; replace HU := hid (HU.out.below hb1); replace HV := hid (HV.out.below hb1); replace HB := hid (HB.out.trans (hb1.mono HB.out.size)); clear F1; clear hb1)
      | (go_at_call 6; refine (lineAwake_any H _).mono ?_; rintro e w9 ⟨rfl, hb9⟩; replace HB := hid (HB.out.trans (hb9.mono HB.out.size)); clear hb9))
    go_ret
    exact ⟨rfl, HB.out⟩
  | true =>
    cases O2 with
    | false =>
      go_enter Try.func4, Try.ntmps4
      go_wp2_with (first
        | (go_at_call 7; refine (F1.out _ HU.out.pts).mono ?_; rintro e w1 ⟨rfl, hb1⟩; replace HU := hid (HU.out.below hb1); replace HV := hid (HV.out.below hb1); replace HB := hid (HB.out.trans (hb1.mono HB.out.size)); clear F1; clear hb1)
        | (go_at_call 7; refine (F2.out _ HV.out.pts).mono ?_; rintro e w2 ⟨rfl, hb2⟩; replace HU := hid (HU.out.below hb2); replace HV := hid (HV.out.below hb2); replace HB := hid (HB.out.trans (hb2.mono HB.out.size)); clear F2; clear hb2)
        | (go_at_call 6; refine (lineAwake_any H _).mono ?_; rintro e w9 ⟨rfl, hb9⟩; replace HB := hid (HB.out.trans (hb9.mono HB.out.size)); clear hb9))
      go_ret
      exact ⟨rfl, HB.out⟩
    | true =>
      have F3 := hid (fun W h h' => H.apart u v ps qs W h h' HO1.out HO2.out)
      have F4 := hid (fun W h h' => refApart_any u v ps qs W h h' (by have := okL_len HO1.out; omega) (by have := okL_len HO2.out; omega))
      have F5 := hid (fun W h h' => H.apart v u qs ps W h h' HO2.out HO1.out)
      have F6 := hid (fun W h => refReverse_any u ps W h (by have := okL_len HO1.out; omega))
      have F7 := hid (fun r W h h' => H.apart r v ps.reverse qs W h h' (by rw [okL_rev]; exact HO1.out) HO2.out)
      rw [apartL_comm] at F5
      rw [apartL_rev] at F7
      generalize apartL ps qs = AP at *
      go_enter Try.func4, Try.ntmps4
      go_wp2_with (first
        | (go_at_call 7; refine (F1.out _ HU.out.pts).mono ?_; rintro e w1 ⟨rfl, hb1⟩; replace HU := hid (HU.out.below hb1); replace HV := hid (HV.out.below hb1); replace HB := hid (HB.out.trans (hb1.mono HB.out.size)); clear F1; clear hb1)
        | (go_at_call 7; refine (F2.out _ HV.out.pts).mono ?_; rintro e w2 ⟨rfl, hb2⟩; replace HU := hid (HU.out.below hb2); replace HV := hid (HV.out.below hb2); replace HB := hid (HB.out.trans (hb2.mono HB.out.size)); clear F2; clear hb2)
        | (go_at_call 5; refine (F3.out _ HU.out HV.out).mono ?_; rintro e w3 ⟨rfl, hb3⟩; replace HU := hid (HU.out.below hb3); replace HV := hid (HV.out.below hb3); replace HB := hid (HB.out.trans (hb3.mono HB.out.size)); clear F3; clear hb3)
        | (go_at_call 8; refine (F4.out _ HU.out.pts HV.out.pts).mono ?_; rintro e w4 ⟨rfl, hb4⟩; replace HU := hid (HU.out.below hb4); replace HV := hid (HV.out.below hb4); replace HB := hid (HB.out.trans (hb4.mono HB.out.size)); clear F4; clear hb4)
        | (go_at_call 5; refine (F5.out _ HV.out HU.out).mono ?_; rintro e w5 ⟨rfl, hb5⟩; replace HU := hid (HU.out.below hb5); replace HV := hid (HV.out.below hb5); replace HB := hid (HB.out.trans (hb5.mono HB.out.size)); clear F5; clear hb5)
        | (go_at_call 9; refine (F6.out _ HU.out.pts).mono ?_; rintro e w6 ⟨⟨r, rfl, hr⟩, hb6⟩; replace HU := hid (HU.out.below hb6); replace HV := hid (HV.out.below hb6); replace HB := hid (HB.out.trans (hb6.mono HB.out.size)); have HR := hid hr; clear hr F6; clear hb6)
        | (go_at_call 5; refine (F7.out _ _ HR.out HV.out).mono ?_; rintro e w7 ⟨rfl, hb7⟩; replace HB := hid (HB.out.trans (hb7.mono HB.out.size)); clear F7; clear hb7)
        | (go_at_call 6; refine (lineAwake_any H _).mono ?_; rintro e w8 ⟨rfl, hb8⟩; replace HB := hid (HB.out.trans (hb8.mono HB.out.size)); clear hb8))
      go_ret
      exact ⟨rfl, HB.out⟩

end Go.Proofs.Ytlnjjkgjknheiaa
