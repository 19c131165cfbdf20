/-
  Layer 15: face's Parts.
-/
import Derived.Test.YtdjbjadaldndcaaGreatMR
import Derived.Test.YtdjbjadaldndcaaGreatFLook
namespace Go.Proofs.YtdjbjadaldndcaaGreat
open Go.RowKit Go.Shelf Go.Sort Go.Maps

/-- How many of these keys stand for themselves and have come. -/
def cntF (Ks : List Int) (f : Int → Option Int) (left : Int → Bool) : Nat := (Ks.filter fun k => (f k == some k) && !left k).length
theorem cntF_step {Ks : List Int} (hn : Ks.Nodup) (f : Int → Option Int) {left : Int → Bool} {k : Int} (hl : left k = true) : k ∈ Ks → cntF Ks f (fun j => left j && !(j == k)) = cntF Ks f left + (if f k == some k then 1 else 0) := by
  unfold cntF
  induction Ks with
  | nil => intro h; cases h
  | cons a Ks ih =>
    intro h
    obtain ⟨ha, hn'⟩ := List.nodup_cons.1 hn
    by_cases e : a = k
    · subst e
      have hrest : (Ks.filter fun j => (f j == some j) && !(left j && !(j == a))) = Ks.filter fun j => (f j == some j) && !left j := List.filter_congr fun j hj => by
        have hne : (j == a) = false := beq_eq_false_iff_ne.2 (fun e => ha (e ▸ hj))
        rw [hne]
        simp
      rw [List.filter_cons, List.filter_cons, hrest, hl]
      cases hp : f a == some a with
      | true => simp
      | false => simp
    · have hk : k ∈ Ks := by
        rcases List.mem_cons.1 h with h | h
        · exact absurd h.symm e
        · exact h
      have hne : (a == k) = false := beq_eq_false_iff_ne.2 e
      have q := ih hn' hk
      rw [List.filter_cons, List.filter_cons]
      simp only [hne, Bool.not_false, Bool.and_true] at q ⊢
      cases hp : (f a == some a) && !left a with
      | true => simp only [if_true, List.length_cons, q]; omega
      | false => simpa using q
/-- No key comes but those of the ends of edges. -/
theorem ofF_dom : ∀ (m : Nat) (f : Int → Option Int) (rk : Int → Nat) (M : Nat) (k : Int), Rk f rk M → f k ≠ none → ∀ j, f j = none → (ofF m f k).2 j = none
  | 0, f, _, _, k, _, _, j, hj => hj
  | m + 1, f, rk, M, k, h, hk, j, hj => by
    cases hf : f k with
    | none => exact absurd hf hk
    | some a =>
      by_cases ha : a = k
      · subst ha
        rw [ofF_end hf]
        exact hj
      · obtain ⟨h1, _⟩ := h k a hf
        cases hb : f a with
        | none => exact absurd hb h1
        | some b =>
          obtain ⟨r1, r2, r3⟩ := h.halve hf ha hb
          rw [ofF_on hf ha hb]
          have hbk : b ≠ k := fun e => by rw [e] at r2; omega
          refine ofF_dom m (updI f k b) rk M b r1 (by rw [updI_other _ _ hbk]; exact r3) j ?_
          rw [updI_other _ _ (fun e => by rw [e, hf] at hj; cases hj)]
          exact hj
theorem ofS_dom {f : Int → Option Int} {rk : Int → Nat} {M : Nat} (m : Nat) (h : Rk f rk M) (k : Int) (hk : -1000000 ≤ k ∧ k ≤ 1000000) {j : Int} (hj : f j = none) (hjk : j ≠ k) : (ofS m f k).2 j = none := by
  unfold ofS
  refine ofF_dom m (newF f k) _ M k (h.fresh k hk) (newF_some f k) j ?_
  unfold newF
  by_cases hf : f k = none
  · rw [if_pos hf, updI_other _ _ hjk]
    exact hj
  · rw [if_neg hf]
    exact hj
theorem partsF_dom (m : Nat) : ∀ (xs : List ER), xs.length ≤ m → (∀ x ∈ xs, -1000000 ≤ x.st ∧ x.st ≤ 1000000 ∧ -1000000 ≤ x.en ∧ x.en ≤ 1000000) → (∃ rk, Rk (partsF m xs) rk xs.length) ∧ ∀ j, (∀ x ∈ xs, j ≠ x.st ∧ j ≠ x.en) → partsF m xs j = none := by
  suffices h : ∀ n (xs : List ER), xs.length = n → n ≤ m → (∀ x ∈ xs, -1000000 ≤ x.st ∧ x.st ≤ 1000000 ∧ -1000000 ≤ x.en ∧ x.en ≤ 1000000) → (∃ rk, Rk (partsF m xs) rk n) ∧ ∀ j, (∀ x ∈ xs, j ≠ x.st ∧ j ≠ x.en) → partsF m xs j = none from fun xs hl hb => h _ xs rfl hl hb
  intro n
  induction n with
  | zero =>
    intro xs hl _ _
    obtain rfl := List.eq_nil_of_length_eq_zero hl
    exact ⟨⟨fun _ => 0, fun j a hj => by cases hj⟩, fun j _ => rfl⟩
  | succ n ih =>
    intro xs hl hnm hb
    obtain ⟨xs', x, rfl⟩ : ∃ xs' x, xs = xs' ++ [x] := ⟨xs.dropLast, xs.getLast (by intro e; rw [e] at hl; cases hl), (List.dropLast_concat_getLast _).symm⟩
    have hl' : xs'.length = n := by simp at hl; exact hl
    obtain ⟨⟨rk, hrk⟩, hd⟩ := ih xs' hl' (by omega) (fun y hy => hb y (List.mem_append_left _ hy))
    have hx := hb x (List.mem_append_right _ List.mem_cons_self)
    rw [partsF_snoc]
    refine ⟨linkF_rk hrk (by omega) ⟨hx.1, hx.2.1⟩ hx.2.2, fun j hj => ?_⟩
    have hjx := hj x (List.mem_append_right _ List.mem_cons_self)
    have hj0 := hd j fun y hy => hj y (List.mem_append_left _ hy)
    obtain ⟨a1, a2, _⟩ := ofS_spec hrk (show n ≤ m by omega) x.st ⟨hx.1, hx.2.1⟩
    have hj1 := ofS_dom m hrk x.st ⟨hx.1, hx.2.1⟩ hj0 hjx.1
    have hj2 := ofS_dom m a1 x.en hx.2.2 hj1 hjx.2
    obtain ⟨b1, _, b3⟩ := ofS_spec a1 (show n ≤ m by omega) x.en hx.2.2
    unfold linkF
    rw [updI_other _ _ (fun e => ?_)]
    · exact hj2
    · rw [e, b3 _ a2] at hj2
      cases hj2

set_option maxRecDepth 100000 in
set_option maxHeartbeats 3200000 in
theorem parts_any {w : World} {b off n cap : Nat} {ao : Option Addr} {xs : List ER} {ls : List (List Pp)} (h : PlE w b off n ao xs ls) (no : Option Addr) (nl nc : Nat) {Ks : List Int} (hKn : Ks.Nodup) (hK : ∀ x ∈ xs, x.st ∈ Ks ∧ x.en ∈ Ks) (hKl : Ks.length ≤ 1000) (hKb : ∀ k ∈ Ks, -1000000 ≤ k ∧ k ≤ 1000000) :
    Calls Tryz.prog 8 #[plV (.slice no nl nc) (.slice ao n cap)] w fun e w' => e = .returned (.int .i64 ((Ks.filter fun k => partsF n xs k == some k).length : Nat)) ∧ Below w.heap.size w w' := by
  obtain ⟨wP, hwP⟩ : ∃ wP, w.alloc (.cells #[.slice no nl nc, .slice ao n cap] 25) = wP := ⟨_, rfl⟩
  have hbP : Below w.heap.size w wP := by rw [← hwP]; exact (Below.refl _ w).alloc (Nat.le_refl _) _
  have hhP : wP.heap[w.heap.size]? = some (.cells #[.slice no nl nc, .slice ao n cap] 25 (0, 0)) := by rw [← hwP]; exact World.alloc_heap_new w _
  have c0 : wP.cell? ⟨w.heap.size, 0, none⟩ = some (.slice no nl nc) := by simp [World.cell?, hhP]
  have c1 : wP.cell? ⟨w.heap.size, 1, none⟩ = some (.slice ao n cap) := by simp [World.cell?, hhP]
  have HPO := hid (partsOf_any (cap := cap) (h.below hbP) no nl nc)
  have HD := hid (fun k (hk : partsF n xs k ≠ none) => show k ∈ Ks from Decidable.byContradiction fun hnk => hk ((partsF_dom n xs (by rw [h.len]; exact Nat.le_refl _) h.nodes).2 k fun x hx => ⟨fun e => hnk (e ▸ (hK x hx).1), fun e => hnk (e ▸ (hK x hx).2)⟩))
  have HKN := hid hKn
  have HKB := hid hKb
  have HCL := hid (fun left => show cntF Ks (partsF n xs) left ≤ 1000 from Nat.le_trans (List.length_filter_le _ _) hKl)
  have HB := hid hbP
  generalize partsF n xs = f at HPO HD HCL ⊢
  clear h hK hKn hKb hKl hbP hhP
  go_enter Tryz.func8, Tryz.ntmps8
  go_wp2_with (go_at_call 24; refine HPO.out.mono ?_; rintro e w1 ⟨B, N, rfl, hB, hN, hm, _, hb1⟩; obtain ⟨w2, cnt0, hrun, hR, hg2, hs2⟩ := hm.range underParts; have H1 := hid (And.intro hR (And.intro (HB.out.trans (hb1.mono HB.out.size)) hg2)); clear HPO hB hN hm hb1 hR hg2 c0 c1)
  have hb2 : Below w.heap.size w w2 := H1.out.2.1.grown H1.out.2.2 H1.out.2.1.size (fun k e => by cases e)
  have HB2 := hid hb2
  have HR := hid H1.out.1
  have HSZ := hid H1.out.2.1.size
  clear hrun hs2 hb2 H1
  go_loopw [3] (fun nv wr => ∃ (left : Int → Bool) (cnt : Nat), MapR wr B w1.heap.size N (fun k => (f k).map (Value.int .i64)) left cnt ∧ nv = .int .i64 ((cntF Ks f left : Nat) : Int) ∧ Below w.heap.size w wr) (fun _ wr => wr.rangeLeft B w1.heap.size)
  case atStart =>
    refine ⟨_, cnt0, HR.out, ?_, HB2.out⟩
    have e : cntF Ks f (fun k => ((f k).map (Value.int .i64)).isSome) = 0 := by
      unfold cntF
      rw [List.length_eq_zero_iff, List.filter_eq_nil_iff]
      intro k _
      intro hh
      rw [Bool.and_eq_true] at hh
      obtain ⟨h1, h2⟩ := hh
      rw [beq_iff_eq] at h1
      dsimp only at h2
      rw [h1] at h2
      cases h2
    rw [e]
    rfl
  case round =>
    obtain ⟨left, cnt, hR, rfl, hbr⟩ := hrel
    rw [hR.cnt]
    rcases hR.next 0 with ⟨hl, hrun⟩ | ⟨k, v, W', cnt', k0, k1, hleft, hfn', hrun, hrg, hlt, hgr, hsz, hen⟩
    · have HE := hid (show cntF Ks f left = (Ks.filter fun k => f k == some k).length by
        unfold cntF
        congr 1
        refine List.filter_congr fun k hk => ?_
        have := HKB.out k hk
        rw [hl k (by omega) (by omega)]
        simp)
      have HX := hid hbr
      clear hR hl hbr
      go_wp2
      go_ret
      rw [HE.out]
      exact ⟨rfl, HX.out⟩
    · obtain ⟨u, hu, rfl⟩ : ∃ u, f k = some u ∧ v = .int .i64 u := by
        cases hf : f k with
        | none => rw [hf] at hfn'; cases hfn'
        | some u => rw [hf] at hfn'; exact ⟨u, rfl, by simpa using hfn'.symm⟩
      have hkK := HD.out k (by rw [hu]; exact Option.some_ne_none _)
      have HST := hid (cntF_step HKN.out f hleft hkK)
      rw [hu] at HST
      have hc1 := HCL.out left
      obtain ⟨c, hc⟩ : ∃ c, cntF Ks f left = c := ⟨_, rfl⟩
      rw [hc] at HST hc1 ⊢
      have HB' := hid (hbr.grown hgr hbr.size (fun j e => by injection e with e; have := HSZ.out; omega))
      have HG := hid (And.intro hrg hlt)
      clear hR hfn' hleft hbr hrg hlt hgr hsz hkK hc hu
      by_cases e : k = u
      · have he : (k == u) = true := beq_iff_eq.2 e
        have HST' := hid (show cntF Ks f (fun j => left j && !(j == k)) = c + 1 by rw [HST.out, if_pos (by rw [e]; simp)])
        clear e
        go_wp2
        go_roundw
        case rel => exact ⟨_, cnt', HG.out.1, by rw [HST'.out]; go_num, HB'.out⟩
        case measure => rw [HG.out.1.cnt]; exact HG.out.2
      · have he : (k == u) = false := beq_eq_false_iff_ne.2 e
        have HST' := hid (show cntF Ks f (fun j => left j && !(j == k)) = c by rw [HST.out, if_neg (by simp; exact fun q => e q.symm), Nat.add_zero])
        clear e
        go_wp2
        go_roundw
        case rel => exact ⟨_, cnt', HG.out.1, by rw [HST'.out], HB'.out⟩
        case measure => rw [HG.out.1.cnt]; exact HG.out.2
end Go.Proofs.YtdjbjadaldndcaaGreat
