/-
  line's Same.
-/
import Derived.Test.YtjokpahlpkoopaaLLaw
namespace Go.Proofs.Ytjokpahlpkoopaa
open Go.RowKit Go.Sort


set_option maxHeartbeats 1600000 in
theorem equal_any (u v : Value) (ps qs : List Pp) (w : World) (hp : Pts w u ps) (hq : Pts w v qs) (hl : ps.length ≤ 100000) :
    Calls Try.prog 42 #[u, v] w fun e w' => e = .returned (.bool (decide (ps = qs))) ∧ Below w.heap.size w w' := by
  obtain ⟨a, ca, rfl, hx⟩ := hp
  obtain ⟨b, cb, rfl, hy⟩ := hq
  have HX := hid hx
  have HY := hid hy
  obtain ⟨n, hn⟩ : ∃ n, ps.length = n := ⟨_, rfl⟩
  obtain ⟨m, hm⟩ : ∃ m, qs.length = m := ⟨_, rfl⟩
  have HN := hid hn
  have HM := hid hm
  rw [hn] at hl ⊢
  rw [hm]
  clear hx hy hn hm
  by_cases hnm : n = m
  · subst hnm
    go_enter Try.func42, Try.ntmps42
    go_wp2
    go_loopw [13] (fun iv wr => ∃ k : Nat, k ≤ n ∧ iv = .int .i64 k ∧ ps.take k = qs.take k ∧ Below w.heap.size w wr) (fun iv _ => n - (intOf iv).toNat)
    case atStart => exact ⟨0, by omega, rfl, rfl, Below.refl _ _⟩
    case round =>
      obtain ⟨k, hk, rfl, hsame, hbr⟩ := hrel
      have HBR := hid hbr
      have HSM := hid hsame
      clear hsame
      by_cases hlt : k < n
      · have hkI : (k : Int) < (n : Int) := by omega
        obtain ⟨b1, o1, rfl, hc⟩ := HX.out (by rw [HN.out]; omega)
        obtain ⟨b2, o2, rfl, hd⟩ := HY.out (by rw [HM.out]; omega)
        obtain ⟨⟨px, py⟩, hP⟩ : ∃ p, ps[k]? = some p := ⟨_, List.getElem?_eq_getElem (by rw [HN.out]; exact hlt)⟩
        obtain ⟨⟨qx, qy⟩, hQ⟩ : ∃ p, qs[k]? = some p := ⟨_, List.getElem?_eq_getElem (by rw [HM.out]; exact hlt)⟩
        obtain ⟨z0, z1⟩ := hc k _ hP
        obtain ⟨x0, x1⟩ := hd k _ hQ
        have h1 : b1 < w.heap.size := World.block_lt_of_cell? w _ z0
        have h2 : b2 < w.heap.size := World.block_lt_of_cell? w _ x0
        have y0 := (hbr.cell (p := ⟨b1, o1 + k * 2, none⟩) h1).trans z0
        have y1 := (hbr.cell (p := ⟨b1, o1 + k * 2 + 1, none⟩) h1).trans z1
        have v0 := (hbr.cell (p := ⟨b2, o2 + k * 2, none⟩) h2).trans x0
        have v1 := (hbr.cell (p := ⟨b2, o2 + k * 2 + 1, none⟩) h2).trans x1
        dsimp only at y0 y1 v0 v1
        have HP := hid hP
        have HQ := hid hQ
        clear hc hd z0 z1 x0 x1 hbr HX HY hP hQ
        by_cases he : px = qx
        · subst he
          by_cases he' : py = qy
          · subst he'
            go_wp2
            go_region
            all_goals
              go_wp2
              go_roundw
              case rel => exact ⟨k + 1, by omega, by go_num, same_take HSM.out HP.out HQ.out rfl, HBR.out.drew⟩
              case measure => simp [intOf]; omega
          · have HE := hid he'
            go_wp2
            go_region
            all_goals
              go_wp2
              go_ret
              refine ⟨?_, HBR.out.drew⟩
              rw [decide_eq_false (fun e => by have h := HP.out; rw [e, HQ.out] at h; simp only [Option.some.injEq, Prod.mk.injEq] at h; exact HE.out h.2.symm)]
              rfl
        · have HE := hid he
          go_wp2
          go_region
          all_goals
            go_wp2
            go_ret
            refine ⟨?_, HBR.out.drew⟩
            rw [decide_eq_false (fun e => by have h := HP.out; rw [e, HQ.out] at h; simp only [Option.some.injEq, Prod.mk.injEq] at h; exact HE.out h.1.symm)]
            rfl
      · have hkI : ¬ (k : Int) < (n : Int) := by omega
        obtain rfl : k = n := by omega
        clear hbr
        go_wp2
        go_ret
        refine ⟨?_, HBR.out⟩
        have h := HSM.out
        rw [List.take_of_length_le (by rw [HN.out]; exact Nat.le_refl _), List.take_of_length_le (by rw [HM.out]; exact Nat.le_refl _)] at h
        rw [decide_eq_true h]
        rfl
  · have hnB : ((n : Int) != (m : Int)) = true := by simpa using fun h => hnm (by omega)
    go_enter Try.func42, Try.ntmps42
    go_wp2
    go_ret
    refine ⟨?_, Below.refl _ _⟩
    rw [decide_eq_false (fun e => hnm (by rw [← HN.out, ← HM.out, e]))]
    rfl

set_option maxHeartbeats 1600000 in
theorem lineSame_any (u v : Value) (ps qs : List Pp) (w : World) (hp : Pts w u ps) (hq : Pts w v qs) (hl : ps.length ≤ 100000) :
    Calls Try.prog 25 #[u, v] w fun e w' => e = .returned (.bool (decide (ps = qs))) ∧ Below w.heap.size w w' := by
  have H := hid (equal_any u v ps qs w hp hq hl)
  generalize decide (ps = qs) = R at *
  clear hp hq
  go_enter Try.func25, Try.ntmps25
  go_wp2_with (go_at_call 42; refine H.out.mono ?_; rintro e w1 ⟨rfl, hb1⟩; have HB := hid hb1; clear hb1)
  go_ret
  exact ⟨rfl, HB.out⟩

end Go.Proofs.Ytjokpahlpkoopaa
