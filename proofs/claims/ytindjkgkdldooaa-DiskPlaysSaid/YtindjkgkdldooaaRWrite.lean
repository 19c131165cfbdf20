/-
  What terrierref1's Write gives.
-/
import Derived.Test.YtindjkgkdldooaaROps
namespace Go.Proofs.Ytindjkgkdldooaa
open Go.RowKit

theorem infoOne : (Try.prog.info? 78).map (fun i => (i.zero, i.size, i.bytes)) = some (some (.agg #[.int .i64 0, .string ⟨#[]⟩]), 2, 24) := by kernel_rfl
theorem Kr.own {base e m n : Nat} {a b : World} {v : Value} {xs : List Value} (hg : a.grownBy b v.ownBlock) (ho : a.ownsRow base e m v n xs) (he : e = 76 ∨ e = 9 ∨ e = 78) (hs : base ≤ a.heap.size) : Kr base a b :=
  ⟨(Below.refl _ _).grown hg hs (own_base ho), fun k c t f hk h1 h2 h3 => hg.block k (lt_of_heap hk) (fun e' => by
    obtain ⟨c', hc'⟩ := own_heap ho e'.symm
    rw [hk] at hc'
    injection hc' with e1
    injection e1 with _ e2 _
    rcases he with h | h | h
    · exact h1 (e2.trans h)
    · exact h2 (e2.trans h)
    · exact h3 (e2.trans h))⟩

theorem rwrote {w w2 : World} {base R n : Nat} {d : Dk} {f : Int} {gs cs : Nat} {vw v2 : Value} {o : Obj} {i : Nat} {s : List Int} (ho : d.Ok n) (hn : 8 ≤ n ∧ n ≤ 65536) (hR : base ≤ R) (hf : d.left ≠ 0 → f = d.left) (hf0 : -1 ≤ f ∧ f ≤ 9223372036854775807)
    (hh : w.heap[R]? = some (.cells #[.slice (some ⟨gs, 0, none⟩) n cs, vw, .int .i64 d.writes, .int .i64 f, .bool (d.left == 0)] 76 (0, 0))) (b1 : w.ownsRow base 9 1 (.slice (some ⟨gs, 0, none⟩) n cs) n (d.last.map strV)) (b2 : Blocks w base 78 2 vw (d.wait.map oneV))
    (hi : i < n) (hs : Sec s) (hg : (w.alloc o).grownBy w2 vw.ownBlock) (hown : w2.ownsRow base 78 2 v2 (d.wait.length + 1) ((d.wait.map oneV).flatten ++ oneV (i, s))) :
    w2.heap[R]? = w.heap[R]? ∧ RefIs ((w2.setCell ⟨R, 1, none⟩ v2).setCell ⟨R, 2, none⟩ (.int .i64 (d.writes + 1))) base R n ⟨d.last, d.wait ++ [(i, s)], d.writes + 1, d.left⟩ f ∧ Kr base w ((w2.setCell ⟨R, 1, none⟩ v2).setCell ⟨R, 2, none⟩ (.int .i64 (d.writes + 1))) := by
  have hlt := lt_of_heap hh
  have hfr : Below w.heap.size w (w.alloc o) := (Below.refl _ _).alloc (Nat.le_refl _) _
  have hsz : base ≤ (w.alloc o).heap.size := by have := hfr.size; omega
  have hh1 : (w.alloc o).heap[R]? = w.heap[R]? := hfr.block R hlt
  have k1 : Kr base w (w.alloc o) := Kr.fresh hfr (by omega)
  have k2 : Kr base (w.alloc o) w2 := Kr.own hg (own_below b2.2 hfr) (.inr (.inr rfl)) hsz
  have hh2 : w2.heap[R]? = w.heap[R]? := by
    rw [hg.block R (by have := hfr.size; omega) (fun e => by
      obtain ⟨c, hc⟩ := own_heap (own_below b2.2 hfr) e.symm
      exact ne_of_type (hh1.trans hh) hc (by decide) rfl), hh1]
  have hh2' := hh2.trans hh
  have hg3 : w2.grownBy ((w2.setCell ⟨R, 1, none⟩ v2).setCell ⟨R, 2, none⟩ (.int .i64 (d.writes + 1))) (some R) := (grown_setCell _ _ _ _).trans (grown_setCell _ _ _ _)
  have hb1 : w2.ownsRow base 9 1 (.slice (some ⟨gs, 0, none⟩) n cs) n (d.last.map strV) := own_same (own_below b1 hfr) fun k hk => by
    obtain ⟨c, hc⟩ := own_heap (own_below b1 hfr) hk
    exact hg.block k (lt_of_heap hc) (fun e => by
      obtain ⟨c', hc'⟩ := own_heap (own_below b2.2 hfr) e.symm
      exact ne_of_type hc hc' (by decide) rfl)
  have keepR : ∀ (k : Nat) c t x, w2.heap[k]? = some (Obj.cells c t x) → t ≠ 76 → ((w2.setCell ⟨R, 1, none⟩ v2).setCell ⟨R, 2, none⟩ (.int .i64 (d.writes + 1))).heap[k]? = w2.heap[k]? := fun k c t x hk ht => hg3.block k (lt_of_heap hk) (fun e => by
    injection e with e
    exact ne_of_type hk hh2' ht e)
  refine ⟨hh2, ⟨⟨ho.len, ho.secs, fun x hx => ?_, ho.left0, ho.left1, by have := ho.w0; show 0 ≤ d.writes + 1; omega⟩, hn, hR, hf, hf0, gs, cs, v2, ?_, own_same hb1 fun k hk => ?_, ?_⟩, (k1.trans k2).trans (Kr.row hg3 hR (by have := k2.below.size; omega) hh2' (.inl rfl))⟩
  · rcases List.mem_append.1 hx with hx | hx
    · exact ho.waits x hx
    · simp at hx; subst hx; exact ⟨hi, hs⟩
  · rw [heap_setCell_same _ R 2 _ _ _ (heap_setCell_same w2 R 1 _ _ _ hh2')]
    rfl
  · obtain ⟨c, hc⟩ := own_heap hb1 hk
    exact keepR k _ _ _ hc (by decide)
  · refine ⟨ones_len _, ?_⟩
    have e1 : ((d.wait ++ [(i, s)]).map oneV).length = d.wait.length + 1 := by simp
    have e2 : ((d.wait ++ [(i, s)]).map oneV).flatten = (d.wait.map oneV).flatten ++ oneV (i, s) := by simp
    rw [e1, e2]
    exact own_same hown fun k hk => by
      obtain ⟨c, hc⟩ := own_heap hown hk
      exact keepR k _ _ _ hc (by decide)

theorem rwrite_bad {w : World} {base R n : Nat} {d : Dk} {f : Int} (h : RefIs w base R n d f) {i : Int} {zs : List Int} (hi : ¬ (0 ≤ i ∧ i < n) ∨ zs.length ≠ 64) (_hz : zs.length ≤ 1000000) :
    Calls Try.prog 19 #[.pointer (some ⟨R, 0, none⟩), .int .i64 i, strV zs] w fun e w' => e = .returned (.int .i64 1) ∧ w' = w := by
  obtain ⟨ho, hn, hR, hf, hf0, gs, cs, vw, hh, b1, b2⟩ := h
  have hc0 := cell_of_row w R 0 _ _ _ hh
  simp only [List.getElem?_toArray, List.getElem?_cons_zero] at hc0
  clear ho hn hR hf hf0 hh b1 b2
  unfold strV
  obtain ⟨S, hS⟩ : ∃ S, S = strOfNums zs := ⟨_, rfl⟩
  have hsz : S.size = zs.length := by rw [hS]; exact strOfNums_size _
  rw [← hS]
  clear hS
  rcases (show i < 0 ∨ (¬ i < 0 ∧ (n : Int) ≤ i) ∨ (¬ i < 0 ∧ ¬ (n : Int) ≤ i ∧ zs.length ≠ 64) by omega) with h0 | ⟨h0, h1⟩ | ⟨h0, h1, h2⟩
  · clear hi
    go_enter Try.func19, Try.ntmps19
    go_wp2
    go_ret
    exact ⟨rfl, rfl⟩
  · clear hi
    have hd : decide (i < 0) = false := by simpa using h0
    go_enter Try.func19, Try.ntmps19
    go_wp2
    go_ret
    exact ⟨rfl, rfl⟩
  · clear hi
    have hd : decide (i < 0) = false := by simpa using h0
    have hd1 : decide ((n : Int) ≤ i) = false := by simpa using h1
    have hd2 : ((zs.length : Int) != 64) = true := by simp; omega
    go_enter Try.func19, Try.ntmps19
    go_wp2
    go_ret
    exact ⟨rfl, rfl⟩
theorem rwrite_dead {w : World} {base R n : Nat} {d : Dk} {f : Int} (h : RefIs w base R n d f) {i : Nat} (hi : i < n) {zs : List Int} (hz : zs.length = 64) (hd : d.left = 0) :
    Calls Try.prog 19 #[.pointer (some ⟨R, 0, none⟩), .int .i64 i, strV zs] w fun e w' => e = .returned (.int .i64 50) ∧ w' = w := by
  obtain ⟨ho, hn, hR, hf, hf0, gs, cs, vw, hh, b1, b2⟩ := h
  have hdd : (d.left == 0) = true := by simp [hd]
  rw [hdd] at hh
  have hc0 := cell_of_row w R 0 _ _ _ hh
  have hc4 := cell_of_row w R 4 _ _ _ hh
  simp only [List.getElem?_toArray, List.getElem?_cons_succ, List.getElem?_cons_zero] at hc0 hc4
  have h0 : ¬ ((i : Int) < 0) := by omega
  have h1 : (i : Int) < (n : Int) := by omega
  clear ho hn hR hf hf0 hh b1 b2 hd hdd
  unfold strV
  obtain ⟨S, hS⟩ : ∃ S, S = strOfNums zs := ⟨_, rfl⟩
  have hsz : S.size = 64 := by rw [hS, strOfNums_size]; exact hz
  rw [← hS]
  clear hS hz
  go_enter Try.func19, Try.ntmps19
  go_wp2
  go_ret
  exact ⟨rfl, rfl⟩
set_option maxRecDepth 8000 in
theorem rwrite_any {w : World} {base R n : Nat} {d : Dk} {f : Int} (h : RefIs w base R n d f) {i : Nat} (hi : i < n) (hd : d.left ≠ 0) {s : List Int} (hs : Sec s) (hwl : d.wait.length ≤ 1000000) (hwr : d.writes ≤ 1000000000) :
    Calls Try.prog 19 #[.pointer (some ⟨R, 0, none⟩), .int .i64 i, strV s] w fun e w' => e = .returned (.int .i64 0) ∧ (∃ f', RefIs w' base R n (d.write i s) f') ∧ Kr base w w' := by
  have hbase := h.base_le
  obtain ⟨ho, hn, hR, hf, hf0, gs, cs, vw, hh, b1, b2⟩ := h
  have hw0 := ho.w0
  have HWR := hid (fun (w2 : World) (v2 : Value) (o : Obj) => rwrote (w2 := w2) (v2 := v2) (o := o) ho hn hR hf hf0 hh b1 b2 hi hs)
  have HH := hid hh
  have HB2 := hid b2.2
  have HD := hid hd
  obtain ⟨i0, hi0, hz0, hz1, hz2⟩ := info_parts infoOne
  obtain ⟨aw, cw, rfl, _⟩ := slice_of b2
  rw [List.length_map] at HB2 HWR HH hh
  have hdd : (d.left == 0) = false := by simpa using hd
  rw [hdd] at hh
  have hc0 := cell_of_row w R 0 _ _ _ hh
  have hc1 := cell_of_row w R 1 _ _ _ hh
  have hc4 := cell_of_row w R 4 _ _ _ hh
  simp only [List.getElem?_toArray, List.getElem?_cons_succ, List.getElem?_cons_zero] at hc0 hc1 hc4
  have h0 : ¬ ((i : Int) < 0) := by omega
  have h1 : (i : Int) < (n : Int) := by omega
  have hsz : (strOfNums s).size = 64 := by rw [strOfNums_size]; exact hs.1
  have hov : oneV (i, s) = [.int .i64 (i : Int), .string (strOfNums s)] := rfl
  unfold strV
  obtain ⟨S, hS⟩ : ∃ S, S = strOfNums s := ⟨_, rfl⟩
  rw [← hS] at hov hsz ⊢
  rw [hov] at HWR
  have HOW : Hid ((w.alloc (.cells #[.int .i64 (i : Int), .string S] 78)).ownsRow base 78 2 (.slice aw d.wait.length cw) d.wait.length (d.wait.map oneV).flatten) := hid (own_below HB2.out ((Below.refl _ _).alloc (Nat.le_refl _) _))
  have hRlt := lt_of_heap hh
  clear ho hn hf hf0 hh b1 b2 hs hd hdd hS hov
  go_enter Try.func19, Try.ntmps19
  go_wp2_with (first
    | (at_builtin; refine wpList_append_own _ rfl (.tmp 31) (.tmp 35) 74 rfl base 78 i0 _ 2 24 Try.underlying74 hi0 hz0 hz1 hz2 rfl (by decide) (.slice aw d.wait.length cw) d.wait.length (d.wait.map oneV).flatten rfl HOW.out ⟨w.heap.size, 0, none⟩ 1 1 [.int .i64 (i : Int), .string S] rfl rfl (fun j u hj => by
          rw [show (⟨w.heap.size, 0, none⟩ : Addr).add j = ⟨w.heap.size, j, none⟩ by simp [Addr.add]; intro h; exact h.symm, cell_of_row _ _ _ _ _ _ (heap_new w _)]
          simpa using hj) (by intro u hu; simp at hu; rcases hu with rfl | rfl <;> rfl) (by unfold maxLen; omega) (by omega) (by simp; omega) ?_
       intro v2 w2 hown2 hgrow2 _
       obtain ⟨a2, c2, rfl⟩ : ∃ a2 c2, v2 = .slice a2 (d.wait.length + 1) c2 := by
         rcases hown2.2 with ⟨_, h0⟩ | ⟨g, c, _, rfl, _⟩
         · omega
         · exact ⟨_, _, rfl⟩
       obtain ⟨e2, hr2, hk2⟩ := HWR.out w2 _ _ hgrow2 hown2
       have hh2 := e2.trans HH.out
       have hf1 := frozen_of_row w2 R 1 _ _ hh2
       have hf2 := frozen_of_row w2 R 2 _ _ hh2
       have hd1 := cell_of_row w2 R 1 _ _ _ hh2
       have hd2 := cell_of_row w2 R 2 _ _ _ hh2
       simp only [List.getElem?_toArray, List.getElem?_cons_succ, List.getElem?_cons_zero] at hd1 hd2
       have HBU := hid (rburn_any hr2 HD.out)
       have HK2 := hid hk2
       clear HWR HH HB2 HOW hown2 hgrow2 e2 hr2 hk2 hh2)
    | (go_at_call 35; refine HBU.out.mono ?_; rintro e w5 ⟨⟨v5, rfl⟩, hr5, hk5⟩))
  go_ret
  exact ⟨rfl, hr5, HK2.out.trans hk5⟩
end Go.Proofs.Ytindjkgkdldooaa
