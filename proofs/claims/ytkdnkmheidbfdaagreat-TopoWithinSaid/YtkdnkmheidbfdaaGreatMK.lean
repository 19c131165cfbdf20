/-
  Layer 14: plan's Next and walk.
-/
import Derived.Test.YtkdnkmheidbfdaaGreatMJ
import Derived.Maps.OwnIn
namespace Go.Proofs.YtkdnkmheidbfdaaGreat
open Go.RowKit Go.Shelf Go.Sort
























/-- A ring of ways: on and on, until there is none, or one comes again. -/
def walkF (f : Int → Option Int) : Nat → Int → List Int → List Int
  | 0, _, r => r
  | m + 1, k, r => match f k with
    | none => r
    | some a => if r.contains k then r else walkF f m a (r ++ [k])
theorem walkF_none {f : Int → Option Int} {k : Int} (h : f k = none) (m : Nat) (r : List Int) : walkF f m k r = r := by
  cases m with
  | zero => rfl
  | succ m => simp [walkF, h]
theorem walkF_been {f : Int → Option Int} {k : Int} (m : Nat) {r : List Int} (h : k ∈ r) : walkF f m k r = r := by
  cases m with
  | zero => rfl
  | succ m =>
    cases hf : f k with
    | none => simp [walkF, hf]
    | some a => simp [walkF, hf, h]
theorem walkF_on {f : Int → Option Int} {k a : Int} (hf : f k = some a) (m : Nat) {r : List Int} (h : k ∉ r) : walkF f (m + 1) k r = walkF f m a (r ++ [k]) := by
  simp [walkF, hf, h]
theorem nodup_len : ∀ (r D : List Int), r.Nodup → (∀ x ∈ r, x ∈ D) → r.length ≤ D.length
  | [], D, _, _ => Nat.zero_le _
  | x :: r, D, hn, h => by
    obtain ⟨h1, h2⟩ := List.nodup_cons.1 hn
    have hx := h x (List.mem_cons_self ..)
    have ih := nodup_len r (D.erase x) h2 fun y hy => (List.mem_erase_of_ne (fun e => h1 (by rw [← e]; exact hy))).2 (h y (List.mem_cons_of_mem _ hy))
    rw [List.length_erase_of_mem hx] at ih
    have : 0 < D.length := List.length_pos_of_mem hx
    simp
    omega

theorem nrow_at {w : World} {base n cap : Nat} {ao : Option Addr} {zs : List Int} (h : NRow w base (.slice ao n cap) zs) {j : Nat} {z : Int} (hz : zs[j]? = some z) : ∃ g, ao = some ⟨g, 0, none⟩ ∧ w.cell? ⟨g, j, none⟩ = some (.int .i64 z) := by
  have hlt := (List.getElem?_eq_some_iff.1 hz).1
  rcases h.2 with ⟨_, h0⟩ | ⟨g, cp, cur, e, _⟩
  · omega
  · injection e with e1 e2 e3
    subst e1 e2 e3
    exact ⟨g, rfl, NRow.cell h rfl hz⟩

set_option maxRecDepth 100000 in
set_option maxHeartbeats 6400000 in
theorem walk_any {w : World} {B N : Nat} {f : Int → Option Int} (hm : MapV w B N (fun k => (f k).map (Value.int .i64))) (D : List Int) (hD : ∀ k, f k ≠ none → k ∈ D) (hDl : D.length ≤ 100000) (hfb : ∀ k a, f k = some a → -9223372036854775808 ≤ a ∧ a ≤ 9223372036854775807) (way : Int) (h0 : -9223372036854775808 ≤ way) (h1 : way ≤ 9223372036854775807) :
    Calls Tryz.prog 117 #[.map (some B), .int .i64 way] w fun e w' => ∃ v, e = .returned v ∧ NRow w' w.heap.size v (walkF f (D.length + 1) way []) ∧ Below w.heap.size w w' := by
  have hzi : ∀ W : World, (zeroValue 3).run Tryz.prog W = .ok (.int .i64 0) W := fun W => by kernel_rfl
  obtain ⟨Z, hZ⟩ : ∃ Z, walkF f (D.length + 1) way [] = Z := ⟨_, rfl⟩
  have HM := hid hm
  have HD := hid hD
  have HFB := hid hfb
  have HZ := hid hZ
  rw [hZ]
  clear hm hD hfb hZ
  go_enter Tryz.func117, Tryz.ntmps117
  go_wp2
  go_step3
  go_wp2
  go_step3
  go_wp2
  go_loopw [1, 5] (fun kv rv wr => ∃ (k : Int) (r : List Int) (m : Nat) (ra : Option Addr) (rc : Nat), kv = .int .i64 k ∧ rv = .slice ra r.length rc ∧ NRow wr w.heap.size (.slice ra r.length rc) r ∧ r.Nodup ∧ (∀ x ∈ r, f x ≠ none) ∧ walkF f m k r = Z ∧ r.length + m = D.length + 1 ∧ (-9223372036854775808 ≤ k ∧ k ≤ 9223372036854775807) ∧ Below w.heap.size w wr) (fun _ rv _ => D.length + 1 - (match rv with | .slice _ l _ => l | _ => 0))
  case atStart => exact ⟨way, [], D.length + 1, none, 0, rfl, rfl, NRow.nil _ _, List.nodup_nil, fun x hx => (by cases hx), HZ.out, by simp, ⟨h0, h1⟩, Below.refl _ _⟩
  case round =>
    obtain ⟨k, r, m, ra, rc, rfl, rfl, hrow, hnd, hdom, hwf, hlen, ⟨k0, k1⟩, hbr⟩ := hrel
    obtain ⟨L, hL⟩ : ∃ L, r.length = L := ⟨_, rfl⟩
    have hmr := HM.out.kept (grownOf hbr) (by simp)
    cases hf : f k with
    | none =>
      have hlk := hmr.look2 Tryz.underlying120 (hzi wr) k0 k1
      rw [hf] at hlk
      simp only [Option.map_none, Option.getD_none, Option.isSome_none] at hlk
      have HR := hid (show NRow wr w.heap.size (.slice ra r.length rc) Z by rw [← hwf, walkF_none hf]; exact hrow)
      have HB := hid hbr
      rw [hL] at HR ⊢
      clear hrow hnd hdom hwf hlen hbr hmr
      go_wp2
      rw [Exit.noGoto_ret]
      go_ret
      exact ⟨_, rfl, HR.out, HB.out⟩
    | some a =>
      have hlk := hmr.look2 Tryz.underlying120 (hzi wr) k0 k1
      rw [hf] at hlk
      simp only [Option.map_some, Option.getD_some, Option.isSome_some] at hlk
      have HR := hid hrow
      have HX := hid (And.intro hnd (And.intro hdom (And.intro hwf (And.intro hlen hbr))))
      have HF := hid hf
      rw [hL]
      have HL := hid hL
      have hLb : L ≤ 100001 := by omega
      clear hrow hnd hdom hwf hlen hbr hmr hL
      go_wp2
      go_loopw [9, 20] (fun _ iv wq => ∃ i : Nat, i ≤ L ∧ iv = .int .i64 (i : Int) ∧ wq = wr ∧ ∀ j x, j < i → r[j]? = some x → x ≠ k) (fun _ iv _ => L - (intOf iv).toNat)
      case atStart => exact ⟨0, Nat.zero_le _, rfl, rfl, fun j x hj => by omega⟩
      case round =>
        obtain ⟨i, hi, rfl, rfl, hne⟩ := hrel
        by_cases hlt : i < L
        · have hltI : (i : Int) < (L : Int) := by omega
          obtain ⟨x, hx⟩ : ∃ x, r[i]? = some x := ⟨_, List.getElem?_eq_getElem (by rw [HL.out]; exact hlt)⟩
          obtain ⟨g, hga, hgc⟩ := nrow_at HR.out hx
          subst hga
          cases hxk : (x == k) with
          | true =>
            have exk : x = k := by simpa using hxk
            have HMEM := hid (show k ∈ r by rw [← exk]; exact List.mem_of_getElem? hx)
            have HRZ := hid (show NRow wr w.heap.size (.slice (some ⟨g, 0, none⟩) r.length rc) Z by have := HX.out.2.2.1; rw [walkF_been _ HMEM.out] at this; rw [← this]; exact HR.out)
            have HB := hid HX.out.2.2.2.2
            rw [HL.out] at HRZ
            clear HR HX HL hne hx
            go_wp2
            rw [Exit.noGoto_ret]
            go_ret
            exact ⟨_, rfl, HRZ.out, HB.out⟩
          | false =>
            have HNE := hid hne
            have HXE := hid (And.intro hx hxk)
            clear hne hx
            go_wp2
            go_roundw
            case rel =>
              refine ⟨i + 1, by omega, by go_num, trivial, fun j y hj hy => ?_⟩
              by_cases hji : j < i
              · exact HNE.out j y hji hy
              · obtain rfl : j = i := by omega
                rw [HXE.out.1] at hy
                injection hy with hy
                subst hy
                simpa using HXE.out.2
            case measure => simp [intOf]; omega
        · have hltI : ¬ (i : Int) < (L : Int) := by omega
          obtain ⟨hnd, hdom, hwf, hlen, hbr⟩ := HX.out
          have hkr : k ∉ r := fun hk => by
            obtain ⟨j, hj, ej⟩ := List.getElem_of_mem hk
            exact hne j k (by have := HL.out; omega) (by rw [List.getElem?_eq_getElem hj, ej]) rfl
          have hLe := nodup_len (k :: r) D (List.nodup_cons.2 ⟨hkr, hnd⟩) fun x hx => by
            rcases List.mem_cons.1 hx with rfl | hx
            · exact HD.out _ (by rw [HF.out]; simp)
            · exact HD.out _ (hdom x hx)
          rw [List.length_cons, HL.out] at hLe
          obtain ⟨m', rfl⟩ : ∃ m', m = m' + 1 := ⟨m - 1, by have := HL.out; omega⟩
          rw [walkF_on HF.out m' hkr] at hwf
          obtain ⟨ao2, cap2, W2, hrun, hrow2, hb2, _⟩ := NRow.snoc HR.out hbr.size (by have := HL.out; omega) k
          rw [HL.out] at hrun hrow2
          have HRUN := hid hrun
          have hl2 : (r ++ [k]).length = L + 1 := by rw [List.length_append, HL.out]; simp
          have HFIN := hid (show NRow W2 w.heap.size (.slice ao2 (r ++ [k]).length cap2) (r ++ [k]) ∧ (r ++ [k]).Nodup ∧ (∀ x ∈ r ++ [k], f x ≠ none) ∧ walkF f m' a (r ++ [k]) = Z ∧ (r ++ [k]).length + m' = D.length + 1 ∧ (-9223372036854775808 ≤ a ∧ a ≤ 9223372036854775807) ∧ Below w.heap.size w W2 from ⟨by rw [hl2]; exact hrow2, by rw [List.nodup_append]; exact ⟨hnd, by simp, fun x hx y hy => by simp at hy; subst hy; exact fun e => hkr (by rw [← e]; exact hx)⟩, fun x hx => by
            rcases List.mem_append.1 hx with hx | hx
            · exact hdom x hx
            · simp at hx
              subst hx
              rw [HF.out]
              simp, hwf, by rw [hl2]; have := HL.out; omega, HFB.out k a HF.out, hbr.trans hb2⟩)
          have HL2 := hid hl2
          clear hrun hrow2 hb2 hwf hnd hdom hlen hbr hne HR HX hl2 hkr
          go_wp2_with (at_builtin; refine wpList_append_run rfl (.tmp 28) (.tmp 30) 47 rfl rfl rfl HRUN.out ?_)
          go_roundw
          case rel =>
            refine ⟨a, r ++ [k], m', ao2, cap2, ?_⟩
            exact ⟨rfl, by rw [HL2.out], HFIN.out⟩
          case measure => simp; omega
end Go.Proofs.YtkdnkmheidbfdaaGreat

namespace Go.Proofs.YtkdnkmheidbfdaaGreat
open Go.RowKit Go.Shelf Go.Sort

/-- Without some ways. -/
def delF (f : Int → Option Int) (r : List Int) : Int → Option Int := fun k => if k ∈ r then none else f k
/-- All rings of ways, and what is left. -/
def ringsS (m : Nat) (f0 : Int → Option Int) (ks : List Int) : List (List Int) × (Int → Option Int) :=
  ks.foldl (fun s k => if walkF s.2 m k [] = [] then s else (s.1 ++ [walkF s.2 m k []], delF s.2 (walkF s.2 m k []))) ([], f0)
theorem ringsS_snoc (m : Nat) (f0 : Int → Option Int) (ks : List Int) (k : Int) : ringsS m f0 (ks ++ [k]) = if walkF (ringsS m f0 ks).2 m k [] = [] then ringsS m f0 ks else ((ringsS m f0 ks).1 ++ [walkF (ringsS m f0 ks).2 m k []], delF (ringsS m f0 ks).2 (walkF (ringsS m f0 ks).2 m k [])) := by
  unfold ringsS
  rw [List.foldl_append]
  rfl
theorem ringsS_sub (m : Nat) (f0 : Int → Option Int) : ∀ (ks : List Int) (k : Int), (ringsS m f0 ks).2 k = none ∨ (ringsS m f0 ks).2 k = f0 k := by
  suffices h : ∀ n (ks : List Int), ks.length = n → ∀ k, (ringsS m f0 ks).2 k = none ∨ (ringsS m f0 ks).2 k = f0 k from fun ks k => h _ ks rfl k
  intro n
  induction n with
  | zero =>
    intro ks hk k
    obtain rfl := List.eq_nil_of_length_eq_zero hk
    exact .inr rfl
  | succ n ih =>
    intro ks hk k
    obtain ⟨ks', x, rfl⟩ : ∃ ks' x, ks = ks' ++ [x] := ⟨ks.dropLast, ks.getLast (by intro e; rw [e] at hk; cases hk), (List.dropLast_concat_getLast _).symm⟩
    have hl : ks'.length = n := by simp at hk; exact hk
    rw [ringsS_snoc]
    split
    · exact ih ks' hl k
    · dsimp only
      unfold delF
      split
      · exact .inl rfl
      · exact ih ks' hl k
theorem ringsS_len (m : Nat) (f0 : Int → Option Int) : ∀ (ks : List Int), (ringsS m f0 ks).1.length ≤ ks.length := by
  suffices h : ∀ n (ks : List Int), ks.length = n → (ringsS m f0 ks).1.length ≤ ks.length from fun ks => h _ ks rfl
  intro n
  induction n with
  | zero =>
    intro ks hk
    obtain rfl := List.eq_nil_of_length_eq_zero hk
    exact Nat.le_refl _
  | succ n ih =>
    intro ks hk
    obtain ⟨ks', x, rfl⟩ : ∃ ks' x, ks = ks' ++ [x] := ⟨ks.dropLast, ks.getLast (by intro e; rw [e] at hk; cases hk), (List.dropLast_concat_getLast _).symm⟩
    have hl : ks'.length = n := by simp at hk; exact hk
    have := ih ks' hl
    rw [ringsS_snoc]
    split
    · simp
      omega
    · simp
      exact this
theorem walkF_mem {f : Int → Option Int} : ∀ (m : Nat) (k : Int) (r : List Int), (∀ x ∈ r, f x ≠ none) → ∀ x ∈ walkF f m k r, f x ≠ none
  | 0, _, r, h => h
  | m + 1, k, r, h => by
    cases hf : f k with
    | none => rw [walkF_none hf]; exact h
    | some a =>
      by_cases hk : k ∈ r
      · rw [walkF_been _ hk]; exact h
      · rw [walkF_on hf m hk]
        exact walkF_mem m a _ fun x hx => by
          rcases List.mem_append.1 hx with hx | hx
          · exact h x hx
          · simp at hx
            subst hx
            rw [hf]
            simp
theorem walkF_len {f : Int → Option Int} : ∀ (m : Nat) (k : Int) (r : List Int), (walkF f m k r).length ≤ r.length + m
  | 0, _, r => Nat.le_refl _
  | m + 1, k, r => by
    cases hf : f k with
    | none => rw [walkF_none hf]; omega
    | some a =>
      by_cases hk : k ∈ r
      · rw [walkF_been _ hk]; omega
      · rw [walkF_on hf m hk]
        have := walkF_len (f := f) m a (r ++ [k])
        simp at this
        omega

/-- Rings in memory: a row of rows of numbers. -/
def RgR (W : World) (base : Nat) (v : Value) (rs : List (List Int)) : Prop :=
  ∃ vs : List Value, vs.length = rs.length ∧ W.ownsRow base 47 1 v vs.length vs ∧ ∀ (i : Nat) (r : List Int) (u : Value), rs[i]? = some r → vs[i]? = some u → NRow W base u r
theorem RgR.nil (w : World) (base : Nat) : RgR w base (.slice none 0 0) [] := ⟨[], rfl, World.ownsRow_nil w base 47 1, fun i r u h => (by cases h)⟩
theorem rgr_form {w : World} {base : Nat} {v : Value} {rs : List (List Int)} (h : RgR w base v rs) : ∃ ao cap, v = .slice ao rs.length cap := by
  obtain ⟨vs, hl, ho, _⟩ := h
  rcases ho.2 with ⟨rfl, h0⟩ | ⟨g, cap, cur, rfl, _⟩
  · exact ⟨none, 0, by rw [← hl, h0]⟩
  · exact ⟨_, cap, by rw [hl]⟩
theorem rgr_turn {w w' : World} {base : Nat} {v : Value} {rs : List (List Int)} {row : Option Nat} (h : RgR w base v rs) (hg : w.grownBy w' row) (hr : ∀ r, row = some r → ∃ o : Obj, w.heap[r]? = some o ∧ o.isCells = false) : RgR w' base v rs := by
  obtain ⟨vs, hl, ho, hn⟩ := h
  refine ⟨vs, hl, ⟨ho.1, ?_⟩, fun i r u h1 h2 => nrow_turn (hn i r u h1 h2) hg hr⟩
  rcases ho.2 with h0 | ⟨g, cap, cur, h1, h2, h3, h4⟩
  · exact .inl h0
  · exact .inr ⟨g, cap, cur, h1, h2, cellsTurn hg hr h3, h4⟩
theorem infoRw : (Tryz.prog.info? 47).map (fun i => (i.zero, i.size, i.bytes)) = some (some (.slice none 0 0), 1, 24) := by kernel_rfl
/-- A block whose cells are of another kind than those of a row is not the row's. -/
theorem nrow_other {w w' : World} {base : Nat} {v : Value} {zs : List Int} (h : NRow w base v zs) (hk : ∀ (k : Nat) (c : Array Value) (q : Nat × Nat), w.heap[k]? = some (.cells c 3 q) → w'.heap[k]? = w.heap[k]?) : NRow w' base v zs := by
  refine ⟨h.1, ?_⟩
  rcases h.2 with h0 | ⟨g, cap, cur, h1, h2, h3, h4⟩
  · exact .inl h0
  · exact .inr ⟨g, cap, cur, h1, h2, (hk _ _ _ h3).trans h3, h4⟩
/-- A ring more. -/
theorem RgR.snoc {w : World} {base : Nat} {v u : Value} {rs : List (List Int)} {r : List Int} (h : RgR w base v rs) (hu : NRow w base u r) (hb : base ≤ w.heap.size) (hl : rs.length ≤ 1000000) :
    ∃ ao cap w', (Builtin.append_ #[65, 65] 65 #[v, .slice (some ⟨w.heap.size, 0, none⟩) 1 1]).run Tryz.prog (w.alloc (.cells #[u] 47)) = .ok (.slice ao (rs.length + 1) cap) w' ∧
      RgR w' base (.slice ao (rs.length + 1) cap) (rs ++ [r]) ∧ (w.alloc (.cells #[u] 47)).grownBy w' v.ownBlock ∧ (∀ g, v.ownBlock = some g → base ≤ g ∧ ∃ c, w.heap[g]? = some (.cells c 47 (0, 0))) ∧ (∀ g, (Value.slice ao (rs.length + 1) cap).ownBlock = some g → ∃ c, w'.heap[g]? = some (.cells c 47 (0, 0))) := by
  obtain ⟨vs, hvl, ho, hn⟩ := h
  obtain ⟨i0, hi, hz0, hz1, hz2⟩ := info_parts infoRw
  obtain ⟨ua, uc, hue⟩ := NRow.form hu
  obtain ⟨wA, hwA⟩ : ∃ wA, wA = w.alloc (.cells #[u] 47) := ⟨_, rfl⟩
  have hbA : Below w.heap.size w wA := by rw [hwA]; exact (Below.refl _ _).alloc (Nat.le_refl _) _
  have hP : wA.cell? ⟨w.heap.size, 0, none⟩ = some u := by
    have hh : wA.heap[w.heap.size]? = some (.cells #[u] 47) := by rw [hwA]; unfold World.alloc; simp
    simp [World.cell?, hh]
  have ho2 : wA.ownsRow base 47 1 v vs.length vs := by
    refine ⟨ho.1, ?_⟩
    rcases ho.2 with h0 | ⟨g, cap, cur, h1, h2, h3, h4⟩
    · exact .inl h0
    · exact .inr ⟨g, cap, cur, h1, h2, (hbA.block g (lt_of_heap h3)).trans h3, h4⟩
  obtain ⟨v', w', hrun, r1, r2, _, r4⟩ := run_append_own_at (P := Tryz.prog) wA base 65 65 47 i0 _ 1 24 Tryz.underlying65 hi hz0 hz1 hz2 rfl (by decide) v vs.length _ ho2 ⟨w.heap.size, 0, none⟩ 1 1 [u] rfl
    (fun j x hj => by
      match j, hj with
      | 0, hj => simp at hj; subst hj; exact hP
      | j + 1, hj => simp at hj) (by intro x hx; simp at hx; subst hx; rw [hue]; rfl) (by unfold maxLen; omega) (by omega) (by rw [hwA]; simp; omega)
  obtain ⟨ao, cap, rfl⟩ : ∃ ao cap, v' = .slice ao (rs.length + 1) cap := by
    rcases r1.2 with ⟨rfl, h0⟩ | ⟨g, cap, cur, rfl, _, _, hc, _⟩
    · omega
    · exact ⟨_, cap, by rw [hvl]⟩
  have hown : ∀ g, v.ownBlock = some g → base ≤ g ∧ ∃ c, w.heap[g]? = some (.cells c 47 (0, 0)) := fun g hg => by
    rcases ho.2 with ⟨rfl, _⟩ | ⟨g', cp, cur, rfl, h2, h3, _⟩
    · cases hg
    · cases hg
      exact ⟨h2, _, h3⟩
  have hoth : ∀ (k : Nat) (c : Array Value) (q : Nat × Nat), w.heap[k]? = some (.cells c 3 q) → w'.heap[k]? = w.heap[k]? := fun k c q hk => by
    refine (r2.block k (Nat.lt_of_lt_of_le (lt_of_heap hk) hbA.size) (fun e => ?_)).trans (hbA.block k (lt_of_heap hk))
    obtain ⟨_, c', hc'⟩ := hown k e.symm
    rw [hk] at hc'
    injection hc' with hc'
    injection hc' with _ ht _
    exact absurd ht (by decide)
  rw [← hwA]
  refine ⟨ao, cap, w', hrun, ⟨vs ++ [u], by simp [hvl], by rw [List.length_append, hvl] at *; exact r1, fun i r' x h1 h2 => ?_⟩, r2, hown, fun g hg => ?_⟩
  · by_cases hi' : i < rs.length
    · rw [List.getElem?_append_left hi'] at h1
      rw [List.getElem?_append_left (by omega)] at h2
      exact nrow_other (hn i r' x h1 h2) hoth
    · have hil : i = rs.length := by
        have := (List.getElem?_eq_some_iff.1 h1).1
        simp at this
        omega
      subst hil
      rw [List.getElem?_append_right (Nat.le_refl _)] at h1
      rw [List.getElem?_append_right (by omega), hvl] at h2
      simp at h1 h2
      subst h1 h2
      exact nrow_other hu hoth
  · rcases r1.2 with ⟨e, _⟩ | ⟨g', cp, cur, e, _, h3, _⟩
    · cases e
    · injection e with e1 _ _
      subst e1
      cases hg
      exact ⟨_, h3⟩
end Go.Proofs.YtkdnkmheidbfdaaGreat

namespace Go.Proofs.YtkdnkmheidbfdaaGreat
open Go.RowKit Go.Shelf Go.Sort

attribute [local go_sem] Oper.semAt_some

theorem nxtF_mem {ys : List LdT} (hn : (ys.map (·.1)).Nodup) {k a : Int} (h : nxtF ys k = some a) : (∃ l ∈ ys, k = -l.1) ∧ ∃ l ∈ ys, a = l.1 := by
  unfold nxtF at h
  cases hf : ys.find? fun l => l.1 == -k with
  | none => rw [hf] at h; cases h
  | some l =>
    rw [hf] at h
    simp only [Option.map_some, Option.some.injEq] at h
    have hl : l ∈ ys := List.mem_of_find?_eq_some hf
    have hlk : l.1 = -k := by simpa using List.find?_some hf
    refine ⟨⟨l, hl, by omega⟩, ?_⟩
    have hp := (ordL_spec _ (grp_nodup hn l.2.1)).1
    have hG : 0 < (ordL (grp ys l.2.1)).length := List.length_pos_of_mem (hp.mem_iff.2 (mem_grp.2 ⟨hl, rfl⟩))
    refine ⟨_, (mem_grp.1 (hp.mem_iff.1 (getD_mem (i := ((ordL (grp ys l.2.1)).idxOf l + (ordL (grp ys l.2.1)).length - 1) % (ordL (grp ys l.2.1)).length) (Nat.mod_lt _ hG)))).1, ?_⟩
    rw [← h]
    rfl

/-- A delete whose run is known, within a fence. -/
theorem wpListIn_delete_done {F : Fence} {m : Nat} {P : Program} {ops : Array Oper} {rest : List Oper} {o : Oper} {a : Act} {w w' : World} {Q : Exit → Act → World → Prop} (hgd : o.guard = none) (s x : Operand) (t k : TypeId)
    (hop : o.op = Op.call { callee := Callee.builtin Builtin.delete, args := #[s, x], argTypes := #[t, k] }) {v u v' : Value} (hs : a.eval s = v) (hx : a.eval x = u) (hrun : (Builtin.delete_ #[t, k] o.type #[v, u]).run P w = .ok v' w')
    (h : wpListIn F m P ops Q rest (a.put o.dst v') w') : wpListIn F m P ops Q (o :: rest) a w :=
  wpListIn_plain hgd fun _K hK => by
    unfold Oper.wpIn
    refine ⟨?_, ?_⟩
    · simp [Oper.about, hop, resolve, Target.leads, Sem.run_pure]
    · rw [Oper.semAt_plain F _ _ (by rw [hop]; intro c hc'; cases hc')]
      simp [execOp, hop, resolve, invoke, builtin, hs, hx, hrun, Result.andThen]
      exact hK _ _ h
/-- Between two rounds of Rings. -/
structure RnI (w : World) (Bm Br B N : Nat) (f : Int → Option Int) (v : Value) (rs : List (List Int)) (W : World) : Prop where
  bm : W.heap[Bm]? = some (.cells #[.map (some B)] 120 (0, 0))
  map : MapV W B N (fun k => (f k).map (Value.int .i64))
  br : Boxed W Br 65 v
  row : RgR W w.heap.size v rs
  below : Below w.heap.size w W
theorem RnI.turn {w W W' : World} {Bm Br B N : Nat} {f : Int → Option Int} {v : Value} {rs : List (List Int)} {row : Option Nat} (h : RnI w Bm Br B N f v rs W) (hg : W.grownBy W' row) (hB : some B ≠ row) (hr : ∀ q, row = some q → w.heap.size ≤ q ∧ ∃ o : Obj, W.heap[q]? = some o ∧ o.isCells = false) : RnI w Bm Br B N f v rs W' :=
  ⟨cellsTurn hg (fun q e => (hr q e).2) h.bm, h.map.kept hg hB, cellsTurn hg (fun q e => (hr q e).2) h.br, rgr_turn h.row hg (fun q e => (hr q e).2), h.below.grown hg h.below.size (fun k e => (hr k e).1)⟩
/-- What a step of Rings keeps. -/
structure Kx (B : Nat) (W W' : World) : Prop where
  ke : Ke W W'
  oth : ∀ (k : Nat) (o : Obj), k ≠ B → W.heap[k]? = some o → o.isCells = false → W'.heap[k]? = some o
theorem Kx.trans {M : Nat} {A B C : World} (h : Kx M A B) (k : Kx M B C) : Kx M A C := ⟨h.ke.trans k.ke, fun i o hm ho hc => k.oth i o hm (h.oth i o hm ho hc) hc⟩
theorem Kx.fresh {M : Nat} {A B : World} (h : Below A.heap.size A B) : Kx M A B := ⟨Ke.fresh h, fun k _ _ ho _ => (h.block k (lt_of_heap ho)).trans ho⟩

set_option maxRecDepth 100000 in
theorem RnI.app {w W : World} {Bm Br B N : Nat} {f : Int → Option Int} {v u : Value} {rs : List (List Int)} {r : List Int} (h : RnI w Bm Br B N f v rs W) (hu : NRow W w.heap.size u r) (hw : w.heap.size ≤ Br) (hl : rs.length ≤ 1000000) :
    ∃ ao cap W1, (Builtin.append_ #[65, 65] 65 #[v, .slice (some ⟨W.heap.size, 0, none⟩) 1 1]).run Tryz.prog (W.alloc (.cells #[u] 47)) = .ok (.slice ao (rs.length + 1) cap) W1 ∧ Boxed W1 Br 65 v ∧
      RnI w Bm Br B N f (.slice ao (rs.length + 1) cap) (rs ++ [r]) (W1.setCell ⟨Br, 0, none⟩ (.slice ao (rs.length + 1) cap)) ∧ NRow (W1.setCell ⟨Br, 0, none⟩ (.slice ao (rs.length + 1) cap)) w.heap.size u r ∧ Kx B W (W1.setCell ⟨Br, 0, none⟩ (.slice ao (rs.length + 1) cap)) := by
  obtain ⟨ao, cap, W1, hrun, hrow1, hgr, hown, hown'⟩ := h.row.snoc hu h.below.size hl
  refine ⟨ao, cap, W1, ?_⟩
  generalize Value.slice ao (rs.length + 1) cap = V' at hrun hrow1 hown' ⊢
  have hA : ∀ k, k < W.heap.size → (W.alloc (.cells #[u] 47)).heap[k]? = W.heap[k]? := fun k hk => ((Below.refl _ W).alloc (Nat.le_refl _) _).block k hk
  have h1 : ∀ (k : Nat) (o : Obj), W.heap[k]? = some o → (∀ c q, o ≠ .cells c 47 q) → W1.heap[k]? = some o := fun k o ho hne => by
    refine (hgr.block k (by have := lt_of_heap ho; simp; omega) (fun e => ?_)).trans ((hA k (lt_of_heap ho)).trans ho)
    obtain ⟨_, c', hc'⟩ := hown k e.symm
    rw [ho] at hc'
    injection hc' with hc'
    exact hne _ _ hc'
  have hbr1 : Boxed W1 Br 65 v := h1 Br _ h.br (fun c q e => by injection e with _ e2 _; exact absurd e2 (by decide))
  have hs : ∀ (k : Nat) (o : Obj), W.heap[k]? = some o → (∀ c q, o ≠ .cells c 47 q) → k ≠ Br → (W1.setCell ⟨Br, 0, none⟩ V').heap[k]? = some o := fun k o ho hne hk => by
    have := h1 k o ho hne
    exact ((grownBy_setCell' W1 Br V').block k (lt_of_heap this) (fun e => hk (by injection e))).trans this
  have hnBr : ∀ (k : Nat) (c : Array Value) (t : TypeId) (q : Nat × Nat), W.heap[k]? = some (.cells c t q) → t ≠ 65 → k ≠ Br := fun k c t q hk ht e => by
    subst e
    have hb := h.br
    unfold Boxed at hb
    rw [hb] at hk
    injection hk with hk
    injection hk with _ e2 _
    exact ht e2.symm
  have hcel : ∀ (k : Nat) (c : Array Value) (t : TypeId) (q : Nat × Nat), W.heap[k]? = some (.cells c t q) → t ≠ 65 → t ≠ 47 → (W1.setCell ⟨Br, 0, none⟩ V').heap[k]? = some (.cells c t q) := fun k c t q hk ht1 ht2 => hs k _ hk (fun c' q' e => by injection e with _ e2 _; exact ht2 e2) (hnBr k c t q hk ht1)
  have hoth : ∀ (k : Nat) (o : Obj), W.heap[k]? = some o → o.isCells = false → (W1.setCell ⟨Br, 0, none⟩ V').heap[k]? = some o := fun k o ho hc => hs k o ho (fun c q e => by subst e; cases hc) (fun e => by
    subst e
    have hb := h.br
    unfold Boxed at hb
    rw [hb] at ho
    injection ho with ho
    subst ho
    cases hc)
  have hsz : W.heap.size ≤ (W1.setCell ⟨Br, 0, none⟩ V').heap.size := by
    have := hgr.size
    simp at this
    have q := (grownBy_setCell' W1 Br V').size
    omega
  have hbel : Below w.heap.size w (W1.setCell ⟨Br, 0, none⟩ V') := by
    have q1 : Below w.heap.size w (W.alloc (.cells #[u] 47)) := h.below.trans (((Below.refl _ W).alloc (Nat.le_refl _) _).mono h.below.size)
    have q2 := q1.grown hgr q1.size (fun k e => (hown k e).1)
    exact q2.grown (grownBy_setCell' W1 Br V') q2.size (fun k e => by injection e with e; omega)
  refine ⟨hrun, hbr1, ⟨hcel _ _ _ _ h.bm (by decide) (by decide), ?_, hbr1.set V', ?_, hbel⟩, ?_, ⟨⟨hsz, fun k c t q hk ht => ?_⟩, fun k o _ ho hc => hoth k o ho hc⟩⟩
  · obtain ⟨D, ⟨es, ck, hm, hrest⟩, hD2⟩ := h.map
    exact ⟨D, ⟨es, ck, hoth _ _ hm rfl, hrest⟩, hD2⟩
  · obtain ⟨vs, hvl, ho, hn⟩ := hrow1
    have hne : ∀ (k : Nat) (c : Array Value) (t : TypeId) (q : Nat × Nat), W1.heap[k]? = some (.cells c t q) → t ≠ 65 → (W1.setCell ⟨Br, 0, none⟩ V').heap[k]? = W1.heap[k]? := fun k c t q hk ht => (grownBy_setCell' W1 Br V').block k (lt_of_heap hk) (fun e => by
      injection e with e
      subst e
      unfold Boxed at hbr1
      rw [hbr1] at hk
      injection hk with hk
      injection hk with _ e2 _
      exact ht e2.symm)
    refine ⟨vs, hvl, ⟨ho.1, ?_⟩, fun i r' x e1 e2 => nrow_other (hn i r' x e1 e2) fun k c q hk => hne k c _ q hk (by decide)⟩
    rcases ho.2 with h0 | ⟨g, cp, cur, e1, e2, e3, e4⟩
    · exact .inl h0
    · exact .inr ⟨g, cp, cur, e1, e2, (hne _ _ _ _ e3 (by decide)).trans e3, e4⟩
  · exact nrow_other hu fun k c q hk => (hcel k c _ q hk (by decide) (by decide)).trans hk.symm
  · rcases ht with rfl | rfl | rfl
    · exact (hcel k c _ q hk (by decide) (by decide)).trans hk.symm
    · exact (hcel k c _ q hk (by decide) (by decide)).trans hk.symm
    · exact (hcel k c _ q hk (by decide) (by decide)).trans hk.symm
theorem RnI.del {w W : World} {Bm Br B N : Nat} {f : Int → Option Int} {v : Value} {rs : List (List Int)} (h : RnI w Bm Br B N f v rs W) (hB : w.heap.size ≤ B) {k : Int} (k0 : -9223372036854775808 ≤ k) (k1 : k ≤ 9223372036854775807) (ty : TypeId) :
    ∃ W', (Builtin.delete_ #[120, 3] ty #[.map (some B), .int .i64 k]).run Tryz.prog W = .ok (.tuple #[]) W' ∧ RnI w Bm Br B N (fun j => if j = k then none else f j) v rs W' ∧ Kx B W W' ∧ (∀ (u : Value) (zs : List Int), NRow W w.heap.size u zs → NRow W' w.heap.size u zs) := by
  obtain ⟨W', hrun, hm, hg, hsz⟩ := h.map.del (t := 120) (e := 3) Tryz.underlying120 k0 k1 ty
  obtain ⟨es, ck, hmB⟩ : ∃ es ck, W.heap[B]? = some (.map es ck) := by
    obtain ⟨D, ⟨es, ck, hm', _⟩, _⟩ := h.map
    exact ⟨es, ck, hm'⟩
  have hnc : ∀ q, some B = some q → ∃ o : Obj, W.heap[q]? = some o ∧ o.isCells = false := fun q e => by
    injection e with e
    subst e
    exact ⟨_, hmB, rfl⟩
  refine ⟨W', hrun, ⟨cellsTurn hg hnc h.bm, hm.congr fun j _ _ => ?_, cellsTurn hg hnc h.br, rgr_turn h.row hg hnc, h.below.grown hg h.below.size (fun k e => by injection e with e; omega)⟩, ⟨⟨hg.size, fun k c t q hk _ => (cellsTurn hg hnc hk).trans hk.symm⟩, fun k o hnm ho _ => (hg.block k (lt_of_heap ho) (fun e => hnm (by injection e))).trans ho⟩, fun u zs hu => nrow_turn hu hg hnc⟩
  by_cases hj : j = k
  · rw [if_pos hj, if_pos hj]
    rfl
  · rw [if_neg hj, if_neg hj]
end Go.Proofs.YtkdnkmheidbfdaaGreat

namespace Go.Proofs.YtkdnkmheidbfdaaGreat
open Go.RowKit Go.Shelf Go.Sort

attribute [local go_sem] Oper.semAt_some

/-- The ways of a plan, in the order of the leads. -/
def waysL (xs : List ER) (ls : List (List Pp)) : List Int := (allLd xs ls).map (·.1)
/-- All rings of a plan. -/
def ringsL (xs : List ER) (ls : List (List Pp)) : List (List Int) := (ringsS (2 * xs.length + 1) (nxtF (allLd xs ls)) (waysL xs ls)).1
/-- The ways of the leads that have come. -/
def wL (xs : List ER) {n : Nat} (pre : List (Ln n)) : List Int := pre.map fun x => ldW xs x.1
theorem wL_snoc (xs : List ER) {n : Nat} (pre : List (Ln n)) (x : Ln n) : wL xs (pre ++ [x]) = wL xs pre ++ [ldW xs x.1] := by unfold wL; rw [List.map_append]; rfl
theorem wL_len (xs : List ER) {n : Nat} (pre : List (Ln n)) : (wL xs pre).length = pre.length := by unfold wL; rw [List.length_map]
theorem wL_all (xs : List ER) {n : Nat} (pre : List (Ln n)) : wL xs pre = (pre.map (·.1)).map (ldW xs) := by unfold wL; rw [List.map_map]; rfl
theorem take_snoc_mem {r : List Int} {i : Nat} {x : Int} (hx : r[i]? = some x) (k : Int) : k ∈ r.take (i + 1) ↔ k ∈ r.take i ∨ k = x := by
  rw [List.take_add_one, hx]
  simp

set_option maxRecDepth 100000 in
set_option maxHeartbeats 12800000 in
theorem rings_in {w : World} {b off n cap : Nat} {ao : Option Addr} {xs : List ER} {ls : List (List Pp)} (h : PlE w b off n ao xs ls) (no : Option Addr) (nl nc : Nat) :
    CallsIn Fence.wide 16 Tryz.prog 88 #[plV (.slice no nl nc) (.slice ao n cap)] w fun e w' => ∃ v, e = .returned v ∧ RgR w' w.heap.size v (ringsL xs ls) ∧ Below w.heap.size w w' := by
  have hfn : ∀ k, Fence.wide.fn k := fun _ => trivial
  have hmx : Tryz.prog.follows .mixedOrders = true := by kernel_rfl
  obtain ⟨wA, hwA⟩ : ∃ wA, w.alloc (.cells #[.slice no nl nc, .slice ao n cap] 32) = wA := ⟨_, rfl⟩
  have sA : wA.heap.size = w.heap.size + 1 := by rw [← hwA]; simp
  have hbA : Below w.heap.size w wA := by rw [← hwA]; exact (Below.refl _ w).alloc (Nat.le_refl _) _
  have hhA : wA.heap[w.heap.size]? = some (.cells #[.slice no nl nc, .slice ao n cap] 32) := by rw [← hwA]; unfold World.alloc; simp
  have c0 : wA.cell? ⟨w.heap.size, 0, none⟩ = some (.slice no nl nc) := by simp [World.cell?, hhA]
  have c1 : wA.cell? ⟨w.heap.size, 1, none⟩ = some (.slice ao n cap) := by simp [World.cell?, hhA]
  have hPA := h.below hbA
  have HON := hid (onward_any (cap := cap) hPA no nl nc)
  have HLE := hid (show ∀ W : World, Below wA.heap.size wA W → _ from fun W hW => leads_any (w := W) (cap := cap) hPA.len hPA.few (fun k x hx => (hPA.cells k x hx).below hW (hPA.cells k x hx).lt) hPA.rise hPA.at' hPA.nil no nl nc)
  have HWN := hid (ways_nodup ls h.rise fun x hx => (h.ids x hx).1)
  have hlenY : (allLd xs ls).length = 2 * n := by unfold allLd; rw [List.length_map, List.length_range, h.len]
  have HBD := hid (show ∀ l ∈ allLd xs ls, -1000000 ≤ l.1 ∧ l.1 ≤ 1000000 from fun l hl => by
    unfold allLd at hl
    obtain ⟨k, hk, rfl⟩ := List.mem_map.1 hl
    rw [List.mem_range] at hk
    have h2 : k / 2 < xs.length := by omega
    have hx : xs.getD (k / 2) default ∈ xs := by rw [List.getD_eq_getElem?_getD, List.getElem?_eq_getElem h2]; exact List.getElem_mem h2
    have i1 := h.ids _ hx
    show -1000000 ≤ ldW xs k ∧ ldW xs k ≤ 1000000
    unfold ldW
    split <;> omega)
  have HH := hid hPA
  have hfew := h.few
  have HXL := hid (And.intro h.len hlenY)
  have HBA := hid (And.intro hbA (And.intro sA hhA))
  clear h hPA hhA hbA hlenY
  refine callsIn_of_wp_marks Tryz.func88 rfl trivial ?_ rfl
  simp only [Tryz.ntmps88, List.size_toArray, List.length_cons, List.length_nil, Nat.reduceAdd, Nat.reduceSub, Array.replicate_succ, Array.replicate_zero, List.push_toArray, List.append_toArray, List.nil_append, List.cons_append]
  gi_wp2_with (first
    | (gi_at_call 115; refine (callsIn_wide.2 HON.out).mono ?_; rintro e w1 ⟨B, N, rfl, hm, hN, hBg, hb1⟩; have hp1 : ∀ o1 o2, ((w1.alloc o1).alloc o2).heap[w.heap.size]? = some (.cells #[.slice no nl nc, .slice ao n cap] 32) := (fun o1 o2 => ((((Below.refl _ w1).alloc (Nat.le_refl _) o1).alloc (by simp) o2).block w.heap.size (by have := hb1.size; have := HBA.out.2.1; omega)).trans ((hb1.block _ (by have := HBA.out.2.1; omega)).trans HBA.out.2.2)); have d0 : ∀ o1 o2, ((w1.alloc o1).alloc o2).cell? ⟨w.heap.size, 0, none⟩ = some (.slice no nl nc) := (fun o1 o2 => by simp [World.cell?, hp1 o1 o2]); have d1 : ∀ o1 o2, ((w1.alloc o1).alloc o2).cell? ⟨w.heap.size, 1, none⟩ = some (.slice ao n cap) := (fun o1 o2 => by simp [World.cell?, hp1 o1 o2]); have HW1 := hid (And.intro hm (And.intro hN (And.intro hBg hb1))); clear HON hm hN hBg hb1 hp1)
    | (gi_at_call 116; refine (callsIn_wide.2 (HLE.out _ (HW1.out.2.2.2.trans ((((Below.refl _ w1).alloc (Nat.le_refl _) _).alloc (by simp) _).mono HW1.out.2.2.2.size)))).mono ?_; rintro e w2 ⟨⟨Bx, v, rfl, hbx, hBx, hnew⟩, hb2⟩; have HW2 := hid (And.intro hbx (And.intro hBx (And.intro hnew hb2))); clear HLE hbx hBx hnew hb2))
  obtain ⟨hm, hN, hBg, hb1⟩ := HW1.out
  obtain ⟨hbA, _, hhA⟩ := HBA.out
  obtain ⟨hbx, hBx, hnew, hb2⟩ := HW2.out
  obtain ⟨wC, hwC⟩ : ∃ wC, (w1.alloc (.cells #[.map (some B)] 120)).alloc (.cells #[.slice none 0 0] 65) = wC := ⟨_, rfl⟩
  rw [hwC] at hBx hnew hb2
  have sC : wC.heap.size = w1.heap.size + 2 := by rw [← hwC]; simp
  have h1C : Below w1.heap.size w1 wC := by rw [← hwC]; exact ((Below.refl _ w1).alloc (Nat.le_refl _) _).alloc (by simp) _
  have bw1 : Below w.heap.size w w1 := hbA.trans (hb1.mono (by omega))
  have bwC : Below w.heap.size w wC := bw1.trans (h1C.mono bw1.size)
  have bw2 : Below w.heap.size w w2 := bwC.trans (hb2.mono bwC.size)
  have hs1 : w.heap.size + 1 ≤ w1.heap.size := by have := hb1.size; omega
  have hs2 : w1.heap.size + 2 ≤ w2.heap.size := by have := hb2.size; omega
  have hBlt : B < w1.heap.size := hm.lt
  have hbm2 : w2.heap[w1.heap.size]? = some (.cells #[.map (some B)] 120 (0, 0)) := by
    refine (hb2.block _ (by omega)).trans ?_
    rw [← hwC]
    have q := (Boxed.new w1 120 (.map (some B))).alloc (.cells #[.slice none 0 0] 65)
    exact q
  have hbr2 : Boxed w2 (w1.heap.size + 1) 65 (.slice none 0 0) := by
    refine (hb2.block _ (by omega)).trans ?_
    rw [← hwC]
    have q := Boxed.new (w1.alloc (.cells #[.map (some B)] 120)) 65 (.slice none 0 0)
    rw [World.size_alloc] at q
    exact q
  have hm2 : MapV w2 B N (fun k => (nxtF (allLd xs ls) k).map (Value.int .i64)) := (hm.kept (grownOf h1C) (by simp)).kept (grownOf hb2) (by simp)
  have hI0 : RnI w w1.heap.size (w1.heap.size + 1) B N (ringsS (2 * n + 1) (nxtF (allLd xs ls)) []).2 (.slice none 0 0) (ringsS (2 * n + 1) (nxtF (allLd xs ls)) []).1 w2 := ⟨hbm2, hm2, hbr2, RgR.nil _ _, bw2⟩
  obtain ⟨ao1, b1, cap1, hv1, hn1, hE1⟩ := hnew
  subst hv1
  have bA2 : Below wA.heap.size wA w2 := (hb1.trans (h1C.mono hb1.size)).trans (hb2.mono (Nat.le_trans hb1.size h1C.size))
  have hLd : LdM w2 Bx b1 ao1 n cap1 xs ls := ⟨hbx, fun hx => (hn1 hx).1, fun hx => (hn1 hx).2.2, hE1, fun k x hx => by
    obtain ⟨l1, l2⟩ := HH.out.lines k x hx
    refine ⟨l1.below bA2, fun a ha => ?_⟩
    obtain ⟨c, f, hc⟩ := l2 a ha
    exact ⟨c, f, (bA2.block _ (lt_of_heap hc)).trans hc⟩, HXL.out.1⟩
  have HI0 := hid hI0
  have HLD := hid hLd
  have HDOM := hid (show ∀ k a, nxtF (allLd xs ls) k = some a → (k ∈ (allLd xs ls).map (fun l => -l.1)) ∧ (-1000000 ≤ k ∧ k ≤ 1000000) ∧ -1000000 ≤ a ∧ a ≤ 1000000 from fun k a hk => by
    obtain ⟨⟨l, hl, e1⟩, ⟨l', hl', e2⟩⟩ := nxtF_mem HWN.out hk
    have q1 := HBD.out l hl
    have q2 := HBD.out l' hl'
    exact ⟨List.mem_map.2 ⟨l, hl, e1.symm⟩, by omega, by omega⟩)
  have HSUB := hid (ringsS_sub (2 * n + 1) (nxtF (allLd xs ls)))
  have HRL := hid (show (ringsS (2 * n + 1) (nxtF (allLd xs ls)) (waysL xs ls)).1 = ringsL xs ls by unfold ringsL; rw [HXL.out.1])
  have HWL := hid (show waysL xs ls = (List.range (2 * n)).map (ldW xs) by unfold waysL allLd; rw [List.map_map, HXL.out.1]; rfl)
  have HDL := hid (show ((allLd xs ls).map (fun l => -l.1)).length = 2 * n by rw [List.length_map]; exact HXL.out.2)
  generalize nxtF (allLd xs ls) = F0 at HI0 HDOM HSUB HRL
  generalize (allLd xs ls).map (fun l => -l.1) = DD at HDOM HDL
  have hwl : ∀ x : Ln (2 * n), -1000000 ≤ ldW xs x.1 ∧ ldW xs x.1 ≤ 1000000 := fun x => by
    refine HBD.out (ldT xs ls x.1) ?_
    unfold allLd
    exact List.mem_map.2 ⟨x.1, List.mem_range.2 (by rw [HXL.out.1]; exact x.2), rfl⟩
  clear hm hm2 hI0 hLd hbx hBx hb2 hb1 hbm2 hbr2 h1C bw1 bwC bA2 hn1 hE1 hbA hhA HW1 HW2 HBA d0 d1 c0 c1 hwC hwA HWN HBD
  refine wpIn_rangeFunc_ownH rfl (by decide) (gf := 144) (lb := #[.pointer (some ⟨Bx, 0, none⟩)]) rfl trivial (enters_of Tryz.func144 (by kernel_rfl) rfl)
    (leads_stops (16 - 1) (by decide) Bx b1 n cap1 ao1 xs ls (by omega) HH.out.ids HH.out.short w2 HLD.out) (fun h k => Ke.trans h k) (fun W l o o' _ h2 h3 _ => Ke.putObj W l o o' h2 h3) (Below.refl _ _) (fun _ => rfl)
    (fun pre W => ∃ v, RnI w w1.heap.size (w1.heap.size + 1) B N (ringsS (2 * n + 1) F0 (wL xs pre)).2 v (ringsS (2 * n + 1) F0 (wL xs pre)).1 W) (fun _ _ _ => False) ?hI ?hIx ⟨_, HI0.out⟩
    (fun x a' W => ∃ Bq, a' = { tmps := #[plV (.slice no nl nc) (.slice ao n cap), .pointer (some ⟨w.heap.size, 0, none⟩), .slice none 0 0, .pointer (some ⟨w1.heap.size, 0, none⟩), .pointer (some ⟨w1.heap.size + 1, 0, none⟩), .pointer (some ⟨Bq, 0, none⟩), undef, undef, undef, .agg #[.slice no nl nc, .slice ao n cap], .map (some B), .agg #[.slice no nl nc, .slice ao n cap], .func (.func 144) #[] #[.pointer (some ⟨Bx, 0, none⟩)], .agg #[.int .i64 (ldW xs x.1), .int .i64 (ldN xs x.1), .int .i64 (ldD ls x.1).1, .int .i64 (ldD ls x.1).2], undef, undef, undef, undef, undef, undef, undef, undef, undef, undef, undef, undef, undef, undef, undef, undef, undef, undef, undef, undef, undef], defers := [] } ∧ W.heap[Bq]? = some (.cells #[.int .i64 (ldW xs x.1), .int .i64 (ldN xs x.1), .int .i64 (ldD ls x.1).1, .int .i64 (ldD ls x.1).2] 157 (0, 0)))
    ?hAx ?assign ?body ?done ?stop
  case hI =>
    rintro s A B' row ⟨v, hs⟩ hg' hrow
    exact ⟨v, hs.turn hg' (fun e => by have := (hrow _ e.symm).1; omega) (fun r e => ⟨by have := (hrow r e).1; omega, (hrow r e).2⟩)⟩
  case hIx =>
    rintro c s A B' row h
    exact h.elim
  case stop => exact fun _ _ _ _ _ _ h => h.elim
  case hAx =>
    rintro x a' _ A B' row ⟨Bq, rfl, h1⟩ hg hrow
    exact ⟨Bq, rfl, cellsTurn hg (fun r e => (hrow r e).2) h1⟩
  case assign =>
    rintro l pre x W K ⟨v, hI⟩ hK
    have hfr : Below W.heap.size W (W.alloc (.cells #[.int .i64 (ldW xs x.1), .int .i64 (ldN xs x.1), .int .i64 (ldD ls x.1).1, .int .i64 (ldD ls x.1).2] 157)) := (Below.refl _ W).alloc (Nat.le_refl _) _
    have HK := hid (hK _ _ ((keeps_fresh hfr).from _) (Ke.fresh hfr) ⟨v, hI.turn (grownOf hfr) (by simp) (fun r e => by cases e)⟩ ⟨W.heap.size, rfl, by unfold World.alloc; simp⟩)
    clear hK hI hfr HI0 HLD
    gi_wp2
    exact HK.out
  case body =>
    rintro l pre x a' W _ _ ⟨v, hI⟩ ⟨Bq, rfl, hq⟩ hlt
    obtain ⟨k, hk⟩ : ∃ k, ldW xs x.1 = k := ⟨_, rfl⟩
    have hkb := hwl x
    rw [hk] at hkb hq ⊢
    obtain ⟨S, hS⟩ : ∃ S, ringsS (2 * n + 1) F0 (wL xs pre) = S := ⟨_, rfl⟩
    have HSN := hid (show ringsS (2 * n + 1) F0 (wL xs (pre ++ [x])) = if walkF S.2 (2 * n + 1) k [] = [] then S else (S.1 ++ [walkF S.2 (2 * n + 1) k []], delF S.2 (walkF S.2 (2 * n + 1) k [])) by rw [wL_snoc, ringsS_snoc, hS, hk])
    rw [hS] at hI
    have hsub : ∀ j, S.2 j = none ∨ S.2 j = F0 j := fun j => by rw [← hS]; exact HSUB.out _ j
    have hdomS : ∀ j a, S.2 j = some a → F0 j = some a := fun j a hj => by
      rcases hsub j with e | e
      · rw [e] at hj; cases hj
      · rw [← e]; exact hj
    have HWK := hid (walk_any hI.map DD (fun j hj => by
      cases hj' : S.2 j with
      | none => exact absurd hj' hj
      | some a => exact (HDOM.out j a (hdomS j a hj')).1) (by rw [HDL.out]; omega) (fun j a hj => by have := HDOM.out j a (hdomS j a hj); omega) k (by omega) (by omega))
    rw [HDL.out] at HWK
    have hrm : ∀ y ∈ walkF S.2 (2 * n + 1) k [], -1000000 ≤ y ∧ y ≤ 1000000 := fun y hy => by
      have q := walkF_mem (f := S.2) (2 * n + 1) k [] (fun _ h => by cases h) y hy
      cases hj : S.2 y with
      | none => exact absurd hj q
      | some a => exact (HDOM.out y a (hdomS y a hj)).2.1
    have hrl : (walkF S.2 (2 * n + 1) k []).length ≤ 801 := by have := walkF_len (f := S.2) (2 * n + 1) k []; simp at this; omega
    have hsl : S.1.length ≤ 1000 := by rw [← hS]; have := ringsS_len (2 * n + 1) F0 (wL xs pre); rw [wL_len] at this; omega
    obtain ⟨va, vc, hve⟩ := rgr_form hI.row
    subst hve
    obtain ⟨r, hr⟩ : ∃ r, walkF S.2 (2 * n + 1) k [] = r := ⟨_, rfl⟩
    rw [hr] at HSN HWK hrm hrl
    have cm : W.cell? ⟨w1.heap.size, 0, none⟩ = some (.map (some B)) := by have := hI.bm; simp [World.cell?, this]
    have q0 : W.cell? ⟨Bq, 0, none⟩ = some (.int .i64 k) := by simp [World.cell?, hq]
    have HI := hid hI
    have HRM := hid hrm
    clear hI hq hsub hdomS hr hrm HI0 HLD HDOM HSUB HRL HWL HH
    obtain ⟨L, hL⟩ : ∃ L, r.length = L := ⟨_, rfl⟩
    have HL := hid hL
    obtain ⟨NS, hNS⟩ : ∃ NS, S.1.length = NS := ⟨_, rfl⟩
    have HNS := hid hNS
    rw [hNS] at hsl
    have HWK2 := hid (show Calls Tryz.prog 117 #[.map (some B), .int .i64 k] W fun e w' => ∃ ua uc, e = .returned (.slice ua L uc) ∧ NRow w' W.heap.size (.slice ua L uc) r ∧ Below W.heap.size W w' from HWK.out.mono fun e w' ⟨v, h1, h2, h3⟩ => by
      obtain ⟨ua, uc, hue⟩ := NRow.form h2
      rw [hL] at hue
      subst hue
      exact ⟨ua, uc, h1, h2, h3⟩)
    clear HWK hL hNS
    by_cases hr0 : r = []
    · have hL0 : L = 0 := by rw [← HL.out, hr0]; rfl
      subst hL0
      have HR0 := hid hr0
      clear hr0
      gi_wp2_with (first
        | (gi_at_call 117; refine (callsIn_wide.2 HWK2.out).mono ?_; rintro e W1 ⟨ua, uc, rfl, hu, hb⟩; have HU := hid (And.intro hu hb); clear HWK2 hu hb))
      refine ⟨(keeps_fresh HU.out.2).from _, Ke.fresh HU.out.2, .slice va NS vc, ?_⟩
      rw [HSN.out, if_pos HR0.out]
      have q := HI.out.turn (grownOf HU.out.2) (by simp) (fun r e => by cases e)
      rw [HNS.out] at q
      exact q
    · have hL0 : ¬ (L : Int) = 0 := by
        have : 0 < r.length := List.length_pos_iff.2 hr0
        have := HL.out
        omega
      have hL0B : ((L : Int) == 0) = false := by simpa using hL0
      have HR0 := hid hr0
      clear hr0
      have HAP := hid (show ∀ (W1 : World) (ua : Option Addr) (uc : Nat), NRow W1 W.heap.size (.slice ua L uc) r → Below W.heap.size W W1 → _ from fun W1 ua uc hu hb => (HI.out.turn (grownOf hb) (by simp) (fun r e => by cases e)).app (nrow_toBase hu HI.out.below.size) (by omega) (by rw [HNS.out]; omega))
      rw [HNS.out] at HAP
      have hHI := HI.out.br
      gi_wp2_with (first
        | (gi_at_call 117; refine (callsIn_wide.2 HWK2.out).mono ?_; rintro e W1 ⟨ua, uc, rfl, hu, hb⟩; obtain ⟨ao2, cap2, W2, hrun, p1, p2, p3, p4⟩ := HAP.out W1 ua uc hu hb; have cv : W1.cell? ⟨w1.heap.size + 1, 0, none⟩ = some (.slice va NS vc) := (by have q : Boxed W1 (w1.heap.size + 1) 65 (.slice va NS vc) := ((hb.block _ (lt_of_heap hHI)).trans (by rw [← HNS.out]; exact hHI)); exact q.cell); have c2 : W2.cell? ⟨w1.heap.size + 1, 0, none⟩ = _ := p1.cell; have f2 := p1.frozen; have HRUN := hid hrun; have HP := hid (And.intro p2 (And.intro p3 (And.intro p4 hb))); clear HWK2 HAP hu hb hrun p1 p2 p3 p4)
        | (gi_at_builtin; refine wpListIn_append_done rfl (.tmp 21) (.tmp 23) 65 rfl rfl rfl HRUN.out ?_))
      obtain ⟨p2, p3, p4, hb⟩ := HP.out
      obtain ⟨W3, hW3⟩ : ∃ W3, W2.setCell ⟨w1.heap.size + 1, 0, none⟩ (.slice ao2 (NS + 1) cap2) = W3 := ⟨_, rfl⟩
      rw [hW3] at p2 p3 p4 ⊢
      have hL39 : L ≤ 801 := by have := HL.out; omega
      have HP2 := hid p2
      have HP3 := hid p3
      have HK3 := hid ((Kx.fresh hb).trans p4)
      clear p2 p3 p4 hb HP hW3 HI cv c2 f2 hHI HRUN
      gi_loopw [8, 27] (fun _ iv wr => ∃ i : Nat, i ≤ L ∧ iv = .int .i64 (i : Int) ∧ RnI w w1.heap.size (w1.heap.size + 1) B N (fun j => if j ∈ r.take i then none else S.2 j) (.slice ao2 (NS + 1) cap2) (S.1 ++ [r]) wr ∧ Kx B W wr ∧ NRow wr w.heap.size (.slice ua L uc) r) (fun _ iv _ => L - (intOf iv).toNat)
      case atStart => exact ⟨0, Nat.zero_le _, rfl, by simpa using HP2.out, HK3.out, HP3.out⟩
      case round =>
        obtain ⟨i, hi, rfl, hIi, hKi, hui⟩ := hrel
        by_cases hlt' : i < L
        · have hltI : (i : Int) < (L : Int) := by omega
          obtain ⟨y, hy⟩ : ∃ y, r[i]? = some y := ⟨_, List.getElem?_eq_getElem (by rw [HL.out]; exact hlt')⟩
          obtain ⟨g, hga, hgc⟩ := nrow_at hui hy
          subst hga
          have hyb := HRM.out y (List.mem_of_getElem? hy)
          obtain ⟨W4, hdel, hI4, hK4, hN4⟩ := hIi.del (by omega) (k := y) (by omega) (by omega) 0
          have cm4 : wr.cell? ⟨w1.heap.size, 0, none⟩ = some (.map (some B)) := by have := hIi.bm; simp [World.cell?, this]
          have HDEL := hid hdel
          have HFIN := hid (show RnI w w1.heap.size (w1.heap.size + 1) B N (fun j => if j ∈ r.take (i + 1) then none else S.2 j) (.slice ao2 (NS + 1) cap2) (S.1 ++ [r]) W4 ∧ Kx B W W4 ∧ NRow W4 w.heap.size (.slice (some ⟨g, 0, none⟩) L uc) r from ⟨⟨hI4.bm, hI4.map.congr fun j _ _ => by
            congr 1
            by_cases h1 : j = y
            · rw [if_pos h1, if_pos ((take_snoc_mem hy j).2 (.inr h1))]
            · rw [if_neg h1]
              by_cases h2 : j ∈ r.take i
              · rw [if_pos h2, if_pos ((take_snoc_mem hy j).2 (.inl h2))]
              · rw [if_neg h2, if_neg (fun e => by rcases (take_snoc_mem hy j).1 e with e | e; exact h2 e; exact h1 e)], hI4.br, hI4.row, hI4.below⟩, hKi.trans hK4, hN4 _ _ hui⟩)
          clear hIi hKi hui hdel hI4 hK4 hN4 HP2 HP3 HK3 hy
          gi_wp2_with (gi_at_delete; refine wpListIn_delete_done rfl (.tmp 31) (.tmp 32) 120 3 rfl rfl rfl HDEL.out ?_)
          go_roundw
          case rel => exact ⟨i + 1, by omega, by go_num, HFIN.out⟩
          case measure => simp [intOf]; omega
        · have hltI : ¬ (i : Int) < (L : Int) := by omega
          obtain rfl : i = L := by omega
          have HFIN := hid (And.intro hIi hKi)
          clear hIi hKi hui HP2 HP3 HK3
          gi_wp2
          refine ⟨⟨HFIN.out.2.ke.size, fun j o hj0 hj1 hj2 => ?_⟩, HFIN.out.2.ke, .slice ao2 (NS + 1) cap2, ?_⟩
          · exact HFIN.out.2.oth j o (by omega) hj1 hj2
          · rw [HSN.out, if_neg HR0.out]
            dsimp only
            have q := HFIN.out.1
            rw [List.take_of_length_le (Nat.le_of_eq HL.out)] at q
            exact q
  case done =>
    rintro D zs W hD hS ⟨v, hI⟩ hK
    have hzs : wL xs zs = waysL xs ls := by rw [wL_all, hS, HWL.out]
    rw [hzs, HRL.out] at hI
    have hT := hI.turn (grownBy_putObj' W D (.deferred none)) (fun e => by injection e with e; omega) (fun r e => by injection e with e; subst e; exact ⟨by omega, _, hK, rfl⟩)
    obtain ⟨va, vc, hve⟩ := rgr_form hI.row
    subst hve
    have cv := hI.br.cell
    have HT := hid hT
    have HK := hid hK
    obtain ⟨LR, hLR⟩ : ∃ LR, (ringsL xs ls).length = LR := ⟨_, rfl⟩
    rw [hLR] at cv HT
    clear hI hT hK hS hzs HI0 HLD HDOM HSUB HRL HWL HH hLR
    gi_wp2
    refine ⟨by simp, .inl ⟨_, _, rfl, run_takeDeferred HK.out, ?_⟩⟩
    exact ⟨.slice va LR vc, by simp [results, Tryz.f88, go_sem], _, rfl, HT.out.row, HT.out.below⟩
theorem rings_any {w : World} {b off n cap : Nat} {ao : Option Addr} {xs : List ER} {ls : List (List Pp)} (h : PlE w b off n ao xs ls) (no : Option Addr) (nl nc : Nat) :
    Calls Tryz.prog 88 #[plV (.slice no nl nc) (.slice ao n cap)] w fun e w' => ∃ v, e = .returned v ∧ RgR w' w.heap.size v (ringsL xs ls) ∧ Below w.heap.size w w' :=
  callsIn_wide.1 (rings_in h no nl nc)
end Go.Proofs.YtkdnkmheidbfdaaGreat
