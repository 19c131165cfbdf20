/-
  What terrierref1's Flush and Crash give.
-/
import Derived.Test.YtindjkgkdldooaaRWrite
import Derived.Test.YtindjkgkdldooaaLastsMem
namespace Go.Proofs.Ytindjkgkdldooaa
open Go.RowKit

/-- In the midst of a Flush or Crash: the sectors stand as L. -/
structure Rf (w : World) (base R n : Nat) (d : Dk) (f : Int) (gs cs : Nat) (vw : Value) (b : Bool) (L : List (List Int)) (W : World) : Prop where
  str : W.heap[R]? = some (.cells #[.slice (some ⟨gs, 0, none⟩) n cs, vw, .int .i64 d.writes, .int .i64 f, .bool b] 76 (0, 0))
  row : W.ownsRow base 9 1 (.slice (some ⟨gs, 0, none⟩) n cs) n (L.map strV)
  wt : Blocks W base 78 2 vw (d.wait.map oneV)
  kr : Kr base w W
  secs : ∀ s ∈ L, Sec s
theorem Rf.drew {w : World} {base R n : Nat} {d : Dk} {f : Int} {gs cs : Nat} {vw : Value} {b : Bool} {L : List (List Int)} {W : World} (h : Rf w base R n d f gs cs vw b L W) : Rf w base R n d f gs cs vw b L W.drew :=
  ⟨h.str, own_below h.row (Below.refl _ W).drew, h.wt.below (Below.refl _ W).drew, h.kr.drew, h.secs⟩
theorem Rf.len {w : World} {base R n : Nat} {d : Dk} {f : Int} {gs cs : Nat} {vw : Value} {b : Bool} {L : List (List Int)} {W : World} (h : Rf w base R n d f gs cs vw b L W) : L.length = n := by
  have := h.row.1
  simpa using this
theorem Rf.set {w : World} {base R n : Nat} {d : Dk} {f : Int} {gs cs : Nat} {vw : Value} {b : Bool} {L : List (List Int)} {W : World} (h : Rf w base R n d f gs cs vw b L W) (hs : base ≤ w.heap.size) (p : Nat) {s : List Int} (hsec : Sec s) : Rf w base R n d f gs cs vw b (L.set p s) (W.setCell ⟨gs, p, none⟩ (strV s)) := by
  obtain ⟨c, hc⟩ := own_heap h.row (k := gs) rfl
  have hg := grown_setCell W gs p (strV s)
  have hW : base ≤ W.heap.size := by have := h.kr.below.size; omega
  refine ⟨?_, ?_, h.wt.same fun k hk => ?_, h.kr.trans (Kr.row hg (own_base h.row gs rfl) hW hc (.inr (.inl rfl))), fun x hx => ?_⟩
  · rw [hg.block R (lt_of_heap h.str) (fun e => by injection e with e; exact ne_of_type h.str hc (by decide) e)]
    exact h.str
  · rw [List.map_set]
    exact (h.row.stored p (strV s)).1
  · obtain ⟨c', hc'⟩ := own_heap h.wt.2 hk
    exact hg.block k (lt_of_heap hc') (fun e => by injection e with e; exact ne_of_type hc' hc (by decide) e)
  · rcases List.mem_or_eq_of_mem_set hx with hx | hx
    · exact h.secs x hx
    · subst hx; exact hsec
theorem Rf.cells {w : World} {base R n : Nat} {d : Dk} {f : Int} {gs cs : Nat} {aw : Option Addr} {cw : Nat} {b : Bool} {L : List (List Int)} {W : World} (h : Rf w base R n d f gs cs (.slice aw d.wait.length cw) b L W) {k : Nat} (hk : k < d.wait.length) {gw : Nat} (haw : aw = some ⟨gw, 0, none⟩) :
    W.cell? ⟨R, 0, none⟩ = some (.slice (some ⟨gs, 0, none⟩) n cs) ∧ W.cell? ⟨R, 1, none⟩ = some (.slice aw d.wait.length cw) ∧ W.cell? ⟨gw, k * 2, none⟩ = some (.int .i64 (d.wait[k]).1) ∧ W.cell? ⟨gw, k * 2 + 1, none⟩ = some (strV (d.wait[k]).2) := by
  subst haw
  have hr := h.wt.range (by simp) (i := k) (by simpa using hk)
  have e : (d.wait.map oneV).getD k [] = oneV (d.wait[k]) := by simp [List.getD, hk]
  rw [e] at hr
  exact ⟨cell_of_row W R 0 _ _ _ h.str, cell_of_row W R 1 _ _ _ h.str, hr 0 _ rfl, hr 1 _ rfl⟩
/-- The end: nothing waits. -/
theorem Rf.close {w W' : World} {base R n : Nat} {d : Dk} {f f' : Int} {gs cs : Nat} {vw : Value} {b b' : Bool} {L : List (List Int)} {W : World} (h : Rf w base R n d f gs cs vw b L W) (ho : d.Ok n) (hn : 8 ≤ n ∧ n ≤ 65536) (hR : base ≤ R) {x : Int} (hx : -1 ≤ x ∧ x ≤ 9223372036854775807) (hf : x ≠ 0 → f' = x) (hf0 : -1 ≤ f' ∧ f' ≤ 9223372036854775807) (hb : b' = (x == 0)) (hs : base ≤ w.heap.size)
    (hg : W.grownBy W' (some R)) (hW' : W'.heap[R]? = some (.cells #[.slice (some ⟨gs, 0, none⟩) n cs, .slice none 0 0, .int .i64 d.writes, .int .i64 f', .bool b'] 76 (0, 0))) : RefIs W' base R n ⟨L, [], d.writes, x⟩ f' ∧ Kr base w W' := by
  have hW : base ≤ W.heap.size := by have := h.kr.below.size; omega
  refine ⟨⟨⟨h.len, h.secs, fun y hy => by simp at hy, hx.1, hx.2, ho.w0⟩, hn, hR, hf, hf0, gs, cs, .slice none 0 0, by rw [hW', hb], own_same h.row fun k hk => ?_, ⟨fun b hb => by simp at hb, by simpa using World.ownsRow_nil _ _ _ _⟩⟩, h.kr.trans (Kr.row hg hR hW h.str (.inl rfl))⟩
  obtain ⟨c, hc⟩ := own_heap h.row hk
  exact hg.block k (lt_of_heap hc) (fun e => by injection e with e; exact ne_of_type hc h.str (by decide) e)

theorem rflush_dead {w : World} {base R n : Nat} {d : Dk} {f : Int} (h : RefIs w base R n d f) (hd : d.left = 0) :
    Calls Try.prog 21 #[.pointer (some ⟨R, 0, none⟩)] w fun e w' => e = .returned (.int .i64 50) ∧ w' = w := by
  obtain ⟨ho, hn, hR, hf, hf0, gs, cs, vw, hh, b1, b2⟩ := h
  have hdd : (d.left == 0) = true := by simp [hd]
  rw [hdd] at hh
  have hc4 := cell_of_row w R 4 _ _ _ hh
  simp only [List.getElem?_toArray, List.getElem?_cons_succ, List.getElem?_cons_zero] at hc4
  clear ho hn hR hf hf0 hh b1 b2 hd hdd
  go_enter Try.func21, Try.ntmps21
  go_wp2
  go_ret
  exact ⟨rfl, rfl⟩

set_option maxRecDepth 8000 in
set_option maxHeartbeats 2000000 in
theorem rflush_any {w : World} {base R n : Nat} {d : Dk} {f : Int} (h : RefIs w base R n d f) (hd : d.left ≠ 0) (hwl : d.wait.length ≤ 1000000) :
    Calls Try.prog 21 #[.pointer (some ⟨R, 0, none⟩)] w fun e w' => e = .returned (.int .i64 0) ∧ (∃ f', RefIs w' base R n d.flush f') ∧ Kr base w w' := by
  have hbase := h.base_le
  obtain ⟨ho, hn, hR, hf, hf0, gs, cs, vw, hh, b1, b2⟩ := h
  obtain ⟨aw, cw, rfl, haw⟩ := slice_of b2
  rw [List.length_map] at hh b2 haw
  have hdd : (d.left == 0) = false := by simpa using hd
  rw [hdd] at hh
  have HR0 : Hid (Rf w base R n d f gs cs (.slice aw d.wait.length cw) false d.last w) := hid ⟨hh, b1, b2, Kr.refl _ _, ho.secs⟩
  have HP := hid (And.intro ho (And.intro hn (And.intro hf hf0)))
  have hc4 := cell_of_row w R 4 _ _ _ hh
  simp only [List.getElem?_toArray, List.getElem?_cons_succ, List.getElem?_cons_zero] at hc4
  have HD := hid hd
  clear ho hn hf hf0 hh b1 b2 hd hdd
  go_enter Try.func21, Try.ntmps21
  go_wp2
  go_loopw [3] (fun v wr => ∃ k : Nat, k ≤ d.wait.length ∧ v = .int .i64 k ∧ Rf w base R n d f gs cs (.slice aw d.wait.length cw) false (app d.last (d.wait.take k)) wr) (fun v _ => d.wait.length - (intOf v).toNat)
  case atStart => exact ⟨0, Nat.zero_le _, rfl, HR0.out⟩
  case round =>
    obtain ⟨k, hkl, rfl, hRf⟩ := hrel
    clear HR0 hc4
    have hd1 := cell_of_row wr R 1 _ _ _ hRf.str
    simp only [List.getElem?_toArray, List.getElem?_cons_succ, List.getElem?_cons_zero] at hd1
    by_cases hlt : k < d.wait.length
    · obtain ⟨gw, rfl⟩ := haw (by omega)
      have hx := HP.out.1.waits (d.wait[k]) (List.getElem_mem hlt)
      have hr0 := hRf.drew
      have hS0 := hr0.cells hlt rfl
      have hr1 := hr0.set hbase (d.wait[k]).1 hx.2
      have hS1 := hr1.cells hlt rfl
      have htk : app d.last (d.wait.take (k + 1)) = (app d.last (d.wait.take k)).set (d.wait[k]).1 (d.wait[k]).2 := by rw [List.take_succ_eq_append_getElem hlt, app_snoc]
      rw [← htk] at hr1
      have hcp : wr.drew.cell? ⟨gs, (d.wait[k]).1, none⟩ = some (strV ((app d.last (d.wait.take k)).getD (d.wait[k]).1 [])) := by
        rw [hr0.row.cellAt _ (by omega)]
        have := hr0.len
        simp [List.getD, this, hx.1]
      have hfp := hr0.row.frozenAt (d.wait[k]).1
      obtain ⟨p, hp⟩ : ∃ p, p = (d.wait[k]).1 := ⟨_, rfl⟩
      obtain ⟨T, hT⟩ : ∃ T, T = strOfNums (d.wait[k]).2 := ⟨_, rfl⟩
      unfold strV at hS0 hS1 hr1 hcp
      rw [← hp, ← hT] at hS0 hS1 hr1
      rw [← hp] at hcp hfp hx
      have hpn : (p : Int) < (n : Int) := by have := hx.1; omega
      have HR1 := hid hr1
      have HS0 := hid hS0
      have HS1 := hid hS1
      have hltI : (k : Int) < (d.wait.length : Int) := by omega
      clear hRf hr0 hr1 hp hT hx htk hS0 hS1
      go_wp2
      first | (go_region_held (fun w' => w'.cell? ⟨R, 0, none⟩ = some (.slice (some ⟨gs, 0, none⟩) n cs) ∧ w'.cell? ⟨R, 1, none⟩ = some (.slice (some ⟨gw, 0, none⟩) d.wait.length cw) ∧ w'.cell? ⟨gw, k * 2, none⟩ = some (.int .i64 p) ∧ w'.cell? ⟨gw, k * 2 + 1, none⟩ = some (.string T)) (first | exact HS0.out | exact HS1.out) (fail)) | fail
      go_wp2
      go_roundw
      case rel => exact ⟨k + 1, by omega, by go_num, HR1.out⟩
      case measure => simp [intOf]; omega
    · obtain rfl : k = d.wait.length := by omega
      rw [List.take_of_length_le (Nat.le_refl _)] at hRf
      have hf1 := frozen_of_row wr R 1 _ _ hRf.str
      have hclo : RefIs (wr.setCell ⟨R, 1, none⟩ (.slice none 0 0)) base R n ⟨d.now, [], d.writes, d.left⟩ f ∧ Kr base w (wr.setCell ⟨R, 1, none⟩ (.slice none 0 0)) := by
        refine hRf.close HP.out.1 HP.out.2.1 hR ⟨HP.out.1.left0, HP.out.1.left1⟩ HP.out.2.2.1 HP.out.2.2.2 (b' := false) (by simpa using HD.out) hbase (grown_setCell _ _ _ _) ?_
        rw [heap_setCell_same _ R 1 _ _ _ hRf.str]
        rfl
      have HBU := hid (rburn_any hclo.1 HD.out)
      have HK := hid hclo.2
      clear hRf hclo
      go_wp2_with (go_at_call 35; refine HBU.out.mono ?_; rintro e w5 ⟨⟨v5, rfl⟩, hr5, hk5⟩)
      go_ret
      exact ⟨rfl, hr5, HK.out.trans hk5⟩
end Go.Proofs.Ytindjkgkdldooaa
