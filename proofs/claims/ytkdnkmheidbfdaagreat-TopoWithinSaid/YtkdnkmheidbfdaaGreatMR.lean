/-
  Layer 15, plain: which nodes hang together (face's parts).
-/
import Derived.Test.YtkdnkmheidbfdaaGreatMJ
import Derived.Test.YtkdnkmheidbfdaaGreatMF
namespace Go.Proofs.YtkdnkmheidbfdaaGreat
open Go.RowKit Go.Sort Go.Maps

/-- A map with an entry set. -/
def updI (f : Int → Option Int) (k a : Int) : Int → Option Int := fun j => if j = k then some a else f j
/-- The way up from a node, each second one left out. -/
def ofF : Nat → (Int → Option Int) → Int → Int × (Int → Option Int)
  | 0, f, k => (k, f)
  | m + 1, f, k => if (f k).getD 0 = k then (k, f) else ofF m (updI f k ((f ((f k).getD 0)).getD 0)) ((f ((f k).getD 0)).getD 0)
/-- A node that is new makes a part of its own. -/
def newF (f : Int → Option Int) (k : Int) : Int → Option Int := if f k = none then updI f k k else f
def ofS (m : Nat) (f : Int → Option Int) (k : Int) : Int × (Int → Option Int) := ofF m (newF f k) k
/-- An edge makes two parts one. -/
def linkF (m : Nat) (f : Int → Option Int) (s e : Int) : Int → Option Int := updI (ofS m (ofS m f s).2 e).2 (ofS m f s).1 (ofS m (ofS m f s).2 e).1
/-- All parts of a plan. -/
def partsF (m : Nat) (xs : List ER) : Int → Option Int := xs.foldl (fun f x => linkF m f x.st x.en) fun _ => none

/-- All ways lead up to one that stands for itself, by at most m steps. -/
def Rk (f : Int → Option Int) (rk : Int → Nat) (m : Nat) : Prop := ∀ j a, f j = some a → f a ≠ none ∧ (a = j ∨ rk a < rk j) ∧ rk j ≤ m ∧ (-1000000 ≤ j ∧ j ≤ 1000000) ∧ -1000000 ≤ a ∧ a ≤ 1000000
theorem updI_same (f : Int → Option Int) (k a : Int) : updI f k a k = some a := if_pos rfl
theorem updI_other (f : Int → Option Int) {k j : Int} (a : Int) (h : j ≠ k) : updI f k a j = f j := if_neg h
theorem Rk.halve {f : Int → Option Int} {rk : Int → Nat} {m : Nat} (h : Rk f rk m) {j a b : Int} (hj : f j = some a) (hne : a ≠ j) (ha : f a = some b) : Rk (updI f j b) rk m ∧ rk b < rk j ∧ f b ≠ none := by
  obtain ⟨_, h2, h3, h4, _⟩ := h j a hj
  obtain ⟨k1, k2, _, _, k5⟩ := h a b ha
  have hlt : rk b < rk j := by
    have q := h2.resolve_left hne
    rcases k2 with e | e
    · rw [e]; exact q
    · omega
  have hbj : b ≠ j := fun e => by rw [e] at hlt; omega
  refine ⟨fun x y hx => ?_, hlt, k1⟩
  by_cases hxj : x = j
  · subst hxj
    rw [updI_same] at hx
    injection hx with hx
    subst hx
    exact ⟨by rw [updI_other _ _ hbj]; exact k1, .inr hlt, h3, h4, k5⟩
  · rw [updI_other _ _ hxj] at hx
    obtain ⟨l1, l2, l3, l4, l5⟩ := h x y hx
    refine ⟨?_, l2, l3, l4, l5⟩
    by_cases hy : y = j
    · rw [hy, updI_same]; exact Option.some_ne_none _
    · rw [updI_other _ _ hy]; exact l1
theorem Rk.fresh {f : Int → Option Int} {rk : Int → Nat} {m : Nat} (h : Rk f rk m) (k : Int) (hk : -1000000 ≤ k ∧ k ≤ 1000000) : Rk (newF f k) (fun x => if f x = none then 0 else rk x) m := by
  unfold newF
  by_cases hf : f k = none
  · rw [if_pos hf]
    intro x y hx
    by_cases hxk : x = k
    · subst hxk
      rw [updI_same] at hx
      injection hx with hx
      subst hx
      refine ⟨by rw [updI_same]; exact Option.some_ne_none _, .inl rfl, ?_, hk, hk⟩
      dsimp only
      rw [if_pos hf]
      exact Nat.zero_le _
    · rw [updI_other _ _ hxk] at hx
      obtain ⟨l1, l2, l3, l4, l5⟩ := h x y hx
      have hyk : y ≠ k := fun e => l1 (e ▸ hf)
      refine ⟨by rw [updI_other _ _ hyk]; exact l1, ?_, ?_, l4, l5⟩
      · dsimp only
        rw [if_neg l1, if_neg (show ¬ f x = none by rw [hx]; exact Option.some_ne_none _)]
        exact l2
      · dsimp only
        rw [if_neg (show ¬ f x = none by rw [hx]; exact Option.some_ne_none _)]
        exact l3
  · rw [if_neg hf]
    intro x y hx
    obtain ⟨l1, l2, l3, l4, l5⟩ := h x y hx
    have hx0 : ¬ f x = none := by rw [hx]; exact Option.some_ne_none _
    refine ⟨l1, ?_, ?_, l4, l5⟩
    · dsimp only
      rw [if_neg l1, if_neg hx0]; exact l2
    · dsimp only
      rw [if_neg hx0]; exact l3
theorem newF_some (f : Int → Option Int) (k : Int) : newF f k k ≠ none := by
  unfold newF
  by_cases hf : f k = none
  · rw [if_pos hf, updI_same]; exact Option.some_ne_none _
  · rw [if_neg hf]; exact hf
theorem newF_keep {f : Int → Option Int} (k : Int) {x a : Int} (h : f x = some a) : newF f k x = some a := by
  unfold newF
  by_cases hf : f k = none
  · rw [if_pos hf, updI_other _ _ (fun e => by rw [e, hf] at h; cases h)]; exact h
  · rw [if_neg hf]; exact h
theorem ofF_end {f : Int → Option Int} {k : Int} (h : f k = some k) : ∀ m, ofF m f k = (k, f)
  | 0 => rfl
  | m + 1 => by unfold ofF; rw [h, Option.getD_some, if_pos rfl]
theorem ofF_on {f : Int → Option Int} {k a b : Int} (hk : f k = some a) (hne : a ≠ k) (ha : f a = some b) (m : Nat) : ofF (m + 1) f k = ofF m (updI f k b) b := by
  rw [ofF, hk, Option.getD_some, if_neg hne, ha, Option.getD_some]
/-- What the way up leaves: the same ranks, those that stand for themselves; it ends at one that does. -/
theorem ofF_spec : ∀ (m : Nat) (f : Int → Option Int) (rk : Int → Nat) (M : Nat) (k : Int), Rk f rk M → f k ≠ none → rk k ≤ m → Rk (ofF m f k).2 rk M ∧ (ofF m f k).2 (ofF m f k).1 = some (ofF m f k).1 ∧ ∀ x, f x = some x → (ofF m f k).2 x = some x
  | m, f, rk, M, k, h, hk, hm => by
    cases hf : f k with
    | none => exact absurd hf hk
    | some a =>
      by_cases ha : a = k
      · subst ha
        rw [ofF_end hf]
        exact ⟨h, hf, fun x hx => hx⟩
      · obtain ⟨h1, h2, _⟩ := h k a hf
        have hlt := h2.resolve_left ha
        cases hb : f a with
        | none => exact absurd hb h1
        | some b =>
          cases m with
          | zero => omega
          | succ m =>
            obtain ⟨r1, r2, r3⟩ := h.halve hf ha hb
            rw [ofF_on hf ha hb]
            have hbk : b ≠ k := fun e => by rw [e] at r2; omega
            obtain ⟨s1, s2, s3⟩ := ofF_spec m (updI f k b) rk M b r1 (by rw [updI_other _ _ hbk]; exact r3) (by omega)
            exact ⟨s1, s2, fun x hx => s3 x (by
              rw [updI_other _ _ (fun e => by rw [e, hf] at hx; injection hx with hx; exact ha hx)]
              exact hx)⟩
theorem ofS_spec {f : Int → Option Int} {rk : Int → Nat} {M m : Nat} (h : Rk f rk M) (hMm : M ≤ m) (k : Int) (hk : -1000000 ≤ k ∧ k ≤ 1000000) : Rk (ofS m f k).2 (fun x => if f x = none then 0 else rk x) M ∧ (ofS m f k).2 (ofS m f k).1 = some (ofS m f k).1 ∧ ∀ x, f x = some x → (ofS m f k).2 x = some x := by
  have h1 := h.fresh k hk
  obtain ⟨a, ha⟩ : ∃ a, newF f k k = some a := by
    cases hn : newF f k k with
    | none => exact absurd hn (newF_some f k)
    | some a => exact ⟨a, rfl⟩
  obtain ⟨s1, s2, s3⟩ := ofF_spec m (newF f k) _ M k h1 (newF_some f k) (Nat.le_trans (h1 k a ha).2.2.1 hMm)
  exact ⟨s1, s2, fun x hx => s3 x (newF_keep k hx)⟩
theorem Rk.link {f : Int → Option Int} {rk : Int → Nat} {m : Nat} (h : Rk f rk m) {s e : Int} (hs : f s = some s) (he : f e = some e) : Rk (updI f s e) (fun x => if x = e then 0 else rk x + 1) (m + 1) := fun x y hx => by
  have hbnd := h s s hs
  have hbe := h e e he
  have hne : ∀ z, f z ≠ none → updI f s e z ≠ none := fun z hz => by
    by_cases hzs : z = s
    · rw [hzs, updI_same]; exact Option.some_ne_none _
    · rw [updI_other _ _ hzs]; exact hz
  by_cases hxs : x = s
  · subst hxs
    rw [updI_same] at hx
    injection hx with hx
    subst hx
    refine ⟨hne _ (by rw [he]; exact Option.some_ne_none _), ?_, ?_, hbnd.2.2.2.1, hbe.2.2.2.1⟩
    · by_cases hse : e = x
      · exact .inl hse
      · right
        dsimp only
        rw [if_pos rfl, if_neg (fun q => hse q.symm)]
        omega
    · dsimp only
      split <;> omega
  · rw [updI_other _ _ hxs] at hx
    obtain ⟨l1, l2, l3, l4, l5⟩ := h x y hx
    refine ⟨hne _ l1, ?_, (by dsimp only; split <;> omega), l4, l5⟩
    by_cases hyx : y = x
    · exact .inl hyx
    · right
      have hlt := l2.resolve_left hyx
      have hxe : x ≠ e := fun q => by
        rw [q, he] at hx
        injection hx with hx
        exact hyx (by rw [q, hx])
      dsimp only
      rw [if_neg hxe]
      split <;> omega
theorem linkF_rk {f : Int → Option Int} {rk : Int → Nat} {M m : Nat} (h : Rk f rk M) (hMm : M ≤ m) {s e : Int} (hs : -1000000 ≤ s ∧ s ≤ 1000000) (he : -1000000 ≤ e ∧ e ≤ 1000000) : ∃ rk', Rk (linkF m f s e) rk' (M + 1) := by
  obtain ⟨a1, a2, _⟩ := ofS_spec h hMm s hs
  obtain ⟨b1, b2, b3⟩ := ofS_spec a1 hMm e he
  exact ⟨_, b1.link (b3 _ a2) b2⟩
end Go.Proofs.YtkdnkmheidbfdaaGreat

namespace Go.Proofs.YtkdnkmheidbfdaaGreat
open Go.RowKit Go.Sort Go.Maps

/-- A map of numbers. -/
abbrev MapI (w : World) (B n : Nat) (f : Int → Option Int) : Prop := MapV w B n (fun k => (f k).map (Value.int .i64))
theorem underParts : Tryz.prog.underlying 121 = some (.map 3 3) := by kernel_rfl
theorem zeroInt (w : World) : (zeroValue 3).run Tryz.prog w = .ok (.int .i64 0) w := by kernel_rfl
theorem map_getD (q : Option Int) : (q.map (Value.int .i64)).getD (.int .i64 0) = .int .i64 (q.getD 0) := by cases q <;> rfl
theorem mapI_look {w : World} {B n : Nat} {f : Int → Option Int} (h : MapI w B n f) {k : Int} (hk : -1000000 ≤ k ∧ k ≤ 1000000) : (Instr.lookup 121 (.map (some B)) (.int .i64 k) false).run Tryz.prog w = .ok (.int .i64 ((f k).getD 0)) w := by
  rw [MapV.look h underParts (zeroInt w) (by omega) (by omega), map_getD]
theorem mapI_look2 {w : World} {B n : Nat} {f : Int → Option Int} (h : MapI w B n f) {k : Int} (hk : -1000000 ≤ k ∧ k ≤ 1000000) : (Instr.lookup 121 (.map (some B)) (.int .i64 k) true).run Tryz.prog w = .ok (.tuple #[.int .i64 ((f k).getD 0), .bool (f k).isSome]) w := by
  rw [MapV.look2 h underParts (zeroInt w) (by omega) (by omega), map_getD, Option.isSome_map]
theorem mapI_put {w : World} {B n : Nat} {f : Int → Option Int} (h : MapI w B n f) (hn : n ≤ 1000000) {k : Int} (hk : -1000000 ≤ k ∧ k ≤ 1000000) (a : Int) : ∃ w', (Instr.mapUpdate 121 (.map (some B)) (.int .i64 k) (.int .i64 a)).run Tryz.prog w = .ok () w' ∧ MapI w' B (n + 1) (updI f k a) ∧ w.grownBy w' (some B) := by
  obtain ⟨w', h1, h2, h3⟩ := MapV.put h underParts (by unfold maxLen; omega) (show -9223372036854775808 ≤ k by omega) (by omega) (.int .i64 a)
  refine ⟨w', h1, h2.congr fun j _ _ => ?_, h3⟩
  unfold updI
  by_cases e : j = k
  · rw [if_pos e, if_pos e]; rfl
  · rw [if_neg e, if_neg e]

set_option maxRecDepth 100000 in
set_option maxHeartbeats 1600000 in
theorem of_any {w : World} {B N : Nat} {f : Int → Option Int} (hm : MapI w B N f) {rk : Int → Nat} {M m : Nat} (hr : Rk f rk M) (hMm : M ≤ m) (hN : N + 2 * m ≤ 900000) {k : Int} (hk : -1000000 ≤ k ∧ k ≤ 1000000) :
    Calls Tryz.prog 90 #[.map (some B), .int .i64 k] w fun e w' => e = .returned (.int .i64 (ofS m f k).1) ∧ (∃ N', N' ≤ N + m + 1 ∧ MapI w' B N' (ofS m f k).2) ∧ w.grownBy w' (some B) := by
  have hl2 := mapI_look2 hm hk
  have HR := hid hr
  obtain ⟨g, hg⟩ : ∃ g, newF f k = g := ⟨_, rfl⟩
  have hkg : g k ≠ none := by rw [← hg]; exact newF_some f k
  have hrg : Rk g (fun x => if f x = none then 0 else rk x) M := by rw [← hg]; exact hr.fresh k hk
  obtain ⟨rq, hrq⟩ : ∃ rq, (fun x => if f x = none then 0 else rk x) = rq := ⟨_, rfl⟩
  rw [hrq] at hrg
  have hm0 : rq k ≤ m := by
    cases hv : g k with
    | none => exact absurd hv hkg
    | some a => exact Nat.le_trans (hrg k a hv).2.2.1 hMm
  obtain ⟨Z, hZ⟩ : ∃ Z, ofS m f k = Z := ⟨_, rfl⟩
  have hZ' : ofF m g k = Z := by rw [← hg]; exact hZ
  rw [hZ]
  have HG := hid (And.intro hkg (And.intro hrg (And.intro hm0 (And.intro hZ' hk))))
  have HNN := hid hN
  have hcase : (f k).isSome = true ∧ MapI w B N g ∨ (f k).isSome = false ∧ ∃ w', (Instr.mapUpdate 121 (.map (some B)) (.int .i64 k) (.int .i64 k)).run Tryz.prog w = .ok () w' ∧ MapI w' B (N + 1) g ∧ w.grownBy w' (some B) := by
    rw [← hg]
    unfold newF
    cases hf : f k with
    | none => exact .inr ⟨rfl, by rw [if_pos rfl]; exact mapI_put hm (by omega) hk k⟩
    | some a => exact .inl ⟨rfl, by rw [if_neg (Option.some_ne_none _)]; exact hm⟩
  clear hm hr hkg hrg hm0 hZ hZ' hN hrq hg
  generalize (f k).getD 0 = fk at hl2
  clear HR
  rcases hcase with ⟨hs, hm1⟩ | ⟨hs, w1, hput, hm1, hg1⟩
  · rw [hs] at hl2
    have HM1 := hid (show MapI w B N g ∧ N ≤ N + 1 ∧ w.grownBy w (some B) from ⟨hm1, Nat.le_succ _, ⟨rfl, rfl, rfl, Nat.le_refl _, fun _ _ _ => rfl⟩⟩)
    clear hs hm1
    go_enter Tryz.func90, Tryz.ntmps90
    go_wp2
    go_loopw [1] (fun kv wr => ∃ (j : Int) (h : Int → Option Int) (d N1 : Nat), kv = .int .i64 j ∧ MapI wr B N1 h ∧ Rk h rq M ∧ h j ≠ none ∧ rq j ≤ d ∧ d ≤ m ∧ N1 + d ≤ N + 1 + m ∧ ofF d h j = Z ∧ (-1000000 ≤ j ∧ j ≤ 1000000) ∧ w.grownBy wr (some B)) (fun kv _ => rq (intOf kv))
    case atStart => exact ⟨k, g, m, _, rfl, HM1.out.1, HG.out.2.1, HG.out.1, HG.out.2.2.1, Nat.le_refl _, (by have := HM1.out.2.1; omega), HG.out.2.2.2.1, HG.out.2.2.2.2, HM1.out.2.2⟩
    case round =>
      obtain ⟨j, h, d, N1, rfl, hmr, hrh, hj, hd, hdm, hN1, hZh, hjb, hgr⟩ := hrel
      obtain ⟨a, ha⟩ : ∃ a, h j = some a := Option.ne_none_iff_exists'.1 hj
      obtain ⟨h1, h2, _, _, hab⟩ := hrh j a ha
      obtain ⟨b, hb⟩ : ∃ b, h a = some b := Option.ne_none_iff_exists'.1 h1
      have lk := mapI_look hmr hjb
      rw [ha, Option.getD_some] at lk
      by_cases haj : a = j
      · subst haj
        have HE := hid (show Z = (a, h) by rw [← hZh, ofF_end ha])
        have HQ := hid (And.intro hmr (And.intro hN1 hgr))
        clear hmr hrh hj hd hZh hgr ha h1 h2 hb hl2
        go_wp2
        go_ret
        rw [HE.out]
        exact ⟨rfl, ⟨N1, by have := HQ.out.2.1; omega, HQ.out.1⟩, HQ.out.2.2⟩
      · obtain ⟨r1, r2, r3⟩ := hrh.halve ha haj hb
        obtain ⟨_, _, _, _, hbb⟩ := hrh a b hb
        have lk2 := mapI_look hmr hab
        rw [hb, Option.getD_some] at lk2
        obtain ⟨w2, hput2, hm2, hg2⟩ := mapI_put hmr (by have := HNN.out; omega) hjb b
        have lk3 := mapI_look hm2 hjb
        rw [updI_same, Option.getD_some] at lk3
        obtain ⟨d', rfl⟩ : ∃ d', d = d' + 1 := ⟨d - 1, by omega⟩
        have hbj : b ≠ j := fun e => by rw [e] at r2; omega
        have hne : (a == j) = false := beq_eq_false_iff_ne.2 haj
        have HQ := hid (show MapI w2 B (N1 + 1) (updI h j b) ∧ Rk (updI h j b) rq M ∧ updI h j b b ≠ none ∧ rq b ≤ d' ∧ d' ≤ m ∧ N1 + 1 + d' ≤ N + 1 + m ∧ ofF d' (updI h j b) b = Z ∧ (-1000000 ≤ b ∧ b ≤ 1000000) ∧ w.grownBy w2 (some B) from ⟨hm2, r1, (by rw [updI_other _ _ hbj]; exact r3), by omega, by omega, by omega, (by rw [← hZh, ofF_on ha haj hb]), hbb, hgr.trans hg2⟩)
        have HLT := hid r2
        clear hmr hrh hj hd hdm hN1 hZh hgr ha h1 h2 hb hl2 r1 r2 r3 hm2 hg2 hbj
        go_wp2
        go_roundw
        case rel => exact ⟨b, _, d', _, rfl, HQ.out.1, HQ.out.2.1, HQ.out.2.2.1, HQ.out.2.2.2.1, HQ.out.2.2.2.2.1, HQ.out.2.2.2.2.2.1, HQ.out.2.2.2.2.2.2.1, HQ.out.2.2.2.2.2.2.2.1, HQ.out.2.2.2.2.2.2.2.2⟩
        case measure => simpa [intOf] using HLT.out
  · rw [hs] at hl2
    have HM1 := hid (show MapI w1 B (N + 1) g ∧ N + 1 ≤ N + 1 ∧ w.grownBy w1 (some B) from ⟨hm1, Nat.le_refl _, hg1⟩)
    clear hs hm1 hg1
    go_enter Tryz.func90, Tryz.ntmps90
    go_wp2
    go_loopw [1] (fun kv wr => ∃ (j : Int) (h : Int → Option Int) (d N1 : Nat), kv = .int .i64 j ∧ MapI wr B N1 h ∧ Rk h rq M ∧ h j ≠ none ∧ rq j ≤ d ∧ d ≤ m ∧ N1 + d ≤ N + 1 + m ∧ ofF d h j = Z ∧ (-1000000 ≤ j ∧ j ≤ 1000000) ∧ w.grownBy wr (some B)) (fun kv _ => rq (intOf kv))
    case atStart => exact ⟨k, g, m, _, rfl, HM1.out.1, HG.out.2.1, HG.out.1, HG.out.2.2.1, Nat.le_refl _, (by have := HM1.out.2.1; omega), HG.out.2.2.2.1, HG.out.2.2.2.2, HM1.out.2.2⟩
    case round =>
      obtain ⟨j, h, d, N1, rfl, hmr, hrh, hj, hd, hdm, hN1, hZh, hjb, hgr⟩ := hrel
      obtain ⟨a, ha⟩ : ∃ a, h j = some a := Option.ne_none_iff_exists'.1 hj
      obtain ⟨h1, h2, _, _, hab⟩ := hrh j a ha
      obtain ⟨b, hb⟩ : ∃ b, h a = some b := Option.ne_none_iff_exists'.1 h1
      have lk := mapI_look hmr hjb
      rw [ha, Option.getD_some] at lk
      by_cases haj : a = j
      · subst haj
        have HE := hid (show Z = (a, h) by rw [← hZh, ofF_end ha])
        have HQ := hid (And.intro hmr (And.intro hN1 hgr))
        clear hmr hrh hj hd hZh hgr ha h1 h2 hb hl2
        go_wp2
        go_ret
        rw [HE.out]
        exact ⟨rfl, ⟨N1, by have := HQ.out.2.1; omega, HQ.out.1⟩, HQ.out.2.2⟩
      · obtain ⟨r1, r2, r3⟩ := hrh.halve ha haj hb
        obtain ⟨_, _, _, _, hbb⟩ := hrh a b hb
        have lk2 := mapI_look hmr hab
        rw [hb, Option.getD_some] at lk2
        obtain ⟨w2, hput2, hm2, hg2⟩ := mapI_put hmr (by have := HNN.out; omega) hjb b
        have lk3 := mapI_look hm2 hjb
        rw [updI_same, Option.getD_some] at lk3
        obtain ⟨d', rfl⟩ : ∃ d', d = d' + 1 := ⟨d - 1, by omega⟩
        have hbj : b ≠ j := fun e => by rw [e] at r2; omega
        have hne : (a == j) = false := beq_eq_false_iff_ne.2 haj
        have HQ := hid (show MapI w2 B (N1 + 1) (updI h j b) ∧ Rk (updI h j b) rq M ∧ updI h j b b ≠ none ∧ rq b ≤ d' ∧ d' ≤ m ∧ N1 + 1 + d' ≤ N + 1 + m ∧ ofF d' (updI h j b) b = Z ∧ (-1000000 ≤ b ∧ b ≤ 1000000) ∧ w.grownBy w2 (some B) from ⟨hm2, r1, (by rw [updI_other _ _ hbj]; exact r3), by omega, by omega, by omega, (by rw [← hZh, ofF_on ha haj hb]), hbb, hgr.trans hg2⟩)
        have HLT := hid r2
        clear hmr hrh hj hd hdm hN1 hZh hgr ha h1 h2 hb hl2 r1 r2 r3 hm2 hg2 hbj
        go_wp2
        go_roundw
        case rel => exact ⟨b, _, d', _, rfl, HQ.out.1, HQ.out.2.1, HQ.out.2.2.1, HQ.out.2.2.2.1, HQ.out.2.2.2.2.1, HQ.out.2.2.2.2.2.1, HQ.out.2.2.2.2.2.2.1, HQ.out.2.2.2.2.2.2.2.1, HQ.out.2.2.2.2.2.2.2.2⟩
        case measure => simpa [intOf] using HLT.out
end Go.Proofs.YtkdnkmheidbfdaaGreat

namespace Go.Proofs.YtkdnkmheidbfdaaGreat
open Go.RowKit Go.Sort Go.Maps

/-- Amid the loop over the edges: the map of the parts so far. -/
structure PaI (w : World) (B m i : Nat) (xs : List ER) (W : World) : Prop where
  map : ∃ N, N ≤ i * (2 * m + 3) ∧ MapI W B N (partsF m (xs.take i))
  rk : ∃ rk, Rk (partsF m (xs.take i)) rk i
  below : Below w.heap.size w W
theorem cell_grown {w w' : World} {B b i : Nat} {v : Value} (hg : w.grownBy w' (some B)) (hc : w.cell? ⟨b, i, none⟩ = some v) (hne : b ≠ B) : w'.cell? ⟨b, i, none⟩ = some v := by
  rw [World.cell?_of_block (hg.block b (lt_of_cell hc) (fun e => hne (by injection e)))]
  exact hc
theorem partsF_snoc (m : Nat) (xs : List ER) (x : ER) : partsF m (xs ++ [x]) = linkF m (partsF m xs) x.st x.en := by
  unfold partsF
  rw [List.foldl_append]
  rfl
set_option maxRecDepth 100000 in
set_option maxHeartbeats 3200000 in
theorem partsOf_any {w : World} {b off n cap : Nat} {ao : Option Addr} {xs : List ER} {ls : List (List Pp)} (h : PlE w b off n ao xs ls) (no : Option Addr) (nl nc : Nat) :
    Calls Tryz.prog 87 #[plV (.slice no nl nc) (.slice ao n cap)] w fun e w' => ∃ B N, e = .returned (.map (some B)) ∧ w.heap.size ≤ B ∧ N ≤ 400000 ∧ MapI w' B N (partsF n xs) ∧ (∃ rk, Rk (partsF n xs) rk n) ∧ Below w.heap.size w w' := by
  have hmkm := @run_makeMap Tryz.prog
  have HH := hid h
  have hfew := h.few
  clear h
  go_enter Tryz.func87, Tryz.ntmps87
  go_wp2
  obtain ⟨W0, hW0⟩ : ∃ W0, (w.alloc (.cells #[.slice no nl nc, .slice ao n cap] 32)).alloc (.map #[] 0) = W0 := ⟨_, rfl⟩
  rw [hW0]
  have HW0 := hid (show PaI w (w.heap.size + 1) n 0 xs W0 by
    rw [← hW0]
    refine ⟨⟨0, Nat.zero_le _, ?_⟩, ⟨fun _ => 0, fun j a hj => by cases hj⟩, ?_⟩
    · have q := MapV.made (w.alloc (.cells #[.slice no nl nc, .slice ao n cap] 32))
      rw [World.size_alloc] at q
      exact q
    · exact (((Below.refl _ w).alloc (Nat.le_refl _) _).alloc (by simp) _))
  clear hW0
  go_loopw [12] (fun iv wr => ∃ i : Nat, i ≤ n ∧ iv = .int .i64 (i : Int) ∧ PaI w (w.heap.size + 1) n i xs wr) (fun iv _ => n - (intOf iv).toNat)
  case atStart => exact ⟨0, Nat.zero_le _, rfl, HW0.out⟩
  case round =>
    obtain ⟨i, hi, rfl, hP⟩ := hrel
    clear HW0
    by_cases hlt : i < n
    · have hltI : (i : Int) < (n : Int) := by omega
      have hxl := HH.out.len
      obtain ⟨x, hx⟩ : ∃ x, xs[i]? = some x := ⟨xs[i]'(by omega), by rw [List.getElem?_eq_getElem]⟩
      obtain ⟨⟨N, hN, hm⟩, ⟨rk, hrk⟩, hbl⟩ := hP
      obtain rfl := HH.out.at' (by omega)
      obtain ⟨a0, a1, a2, a3, a4, a5⟩ := (HH.out.cells i x hx).below hbl (HH.out.cells i x hx).lt
      have hxm := List.mem_of_getElem? hx
      have hnd := HH.out.nodes x hxm
      have hid' := HH.out.ids x hxm
      have hsz : w.heap.size + 1 < wr.heap.size := hm.lt
      have hNN : N + 2 * n ≤ 899000 := by
        have q : i * (2 * n + 3) ≤ 400 * (2 * 400 + 3) := Nat.mul_le_mul (by omega) (by omega)
        omega
      have HTK := hid (show partsF n (xs.take (i + 1)) = linkF n (partsF n (xs.take i)) x.st x.en by rw [List.take_add_one, hx]; exact partsF_snoc _ _ _)
      have HNB := hid (And.intro hN hbl)
      generalize partsF n (xs.take i) = f at hm hrk HTK
      have p := ofS_spec hrk (show i ≤ n by omega) x.st ⟨hnd.1, hnd.2.1⟩
      have hlk := linkF_rk hrk (show i ≤ n by omega) (s := x.st) (e := x.en) ⟨hnd.1, hnd.2.1⟩ hnd.2.2
      have HC1 := hid (fun W (hW : wr.grownBy W none) => of_any (MapV.kept hm hW (by simp)) hrk (show i ≤ n by omega) (by omega) (k := x.st) ⟨hnd.1, hnd.2.1⟩)
      unfold linkF at HTK hlk
      obtain ⟨S1, hS1⟩ : ∃ S1, ofS n f x.st = S1 := ⟨_, rfl⟩
      rw [hS1] at p HC1 HTK hlk
      have p' := ofS_spec p.1 (show i ≤ n by omega) x.en hnd.2.2
      obtain ⟨S2, hS2⟩ : ∃ S2, ofS n S1.2 x.en = S2 := ⟨_, rfl⟩
      rw [hS2] at p' HTK hlk
      have hkb := (p.1 _ _ p.2.1).2.2.2.1
      obtain ⟨Wb, hWb⟩ : ∃ Wb, wr.alloc (.cells #[.int .i64 x.id, .int .i64 x.st, .int .i64 x.en, .slice x.lo x.ll x.lc, .int .i64 x.lf, .int .i64 x.rt] 29) = Wb := ⟨_, rfl⟩
      have hbW : Below wr.heap.size wr Wb := by rw [← hWb]; exact (Below.refl _ wr).alloc (Nat.le_refl _) _
      have hE : EAt Wb wr.heap.size 0 x := by rw [← hWb]; exact ebox wr x _
      have s0 : Wb.cell? ⟨wr.heap.size, 1, none⟩ = some (.int .i64 x.st) := hE.2.1
      have s1 : Wb.cell? ⟨wr.heap.size, 2, none⟩ = some (.int .i64 x.en) := hE.2.2.1
      have HBW := hid hbW
      have HP1 := hid p.1
      have HEN := hid hnd.2.2
      have HKB := hid hkb
      have HLK := hid hlk
      have HI := hid (show i ≤ n by omega)
      have HSZ := hid (And.intro hsz hNN)
      have HS2 := hid hS2
      clear p p' hlk hS1 hS2 hkb hbW hE hm hrk hN hbl hx hnd hid' hxm hsz hNN hxl
      go_wp2
      go_region_held (fun w' => w'.cell? ⟨wr.heap.size, 1, none⟩ = some (.int .i64 x.st) ∧ w'.cell? ⟨wr.heap.size, 2, none⟩ = some (.int .i64 x.en)) (first | exact ⟨s0, s1⟩ | exact HX1.out | exact HX2.out) (first
        | (go_at_call 90; refine (HC1.out _ (grownOf HBW.out.drew)).mono ?_; rintro e w1 ⟨rfl, ⟨N1, hN1, hm1⟩, hg1⟩; have HX1 := hid (And.intro (cell_grown hg1 (show Wb.drew.cell? ⟨wr.heap.size, 1, none⟩ = some (.int .i64 x.st) from s0) (by have := HSZ.out.1; omega)) (cell_grown hg1 (show Wb.drew.cell? ⟨wr.heap.size, 2, none⟩ = some (.int .i64 x.en) from s1) (by have := HSZ.out.1; omega))); have HC2 := hid (of_any hm1 HP1.out HI.out (by have := HSZ.out.2; have := HI.out; omega) HEN.out); rw [HS2.out] at HC2; have HG1 := hid (And.intro hN1 hg1); clear HC1 hN1 hm1 hg1)
        | (go_at_call 90; refine HC2.out.mono ?_; rintro e w2 ⟨rfl, ⟨N2, hN2, hm2⟩, hg2⟩; have HX2 := hid (And.intro (cell_grown hg2 HX1.out.1 (by have := HSZ.out.1; omega)) (cell_grown hg2 HX1.out.2 (by have := HSZ.out.1; omega))); obtain ⟨w3, hput, hm3, hg3⟩ := mapI_put hm2 (by have := HG1.out.1; have := HSZ.out.2; omega) HKB.out S2.1; have HFIN := hid (show PaI w (w.heap.size + 1) n (i + 1) xs w3 from ⟨⟨N2 + 1, (by have := HG1.out.1; have := HNB.out.1; rw [Nat.succ_mul]; omega), (by rw [HTK.out]; exact hm3)⟩, (by rw [HTK.out]; exact HLK.out), (((HNB.out.2.trans (HBW.out.drew.mono HNB.out.2.size)).grown HG1.out.2 (HNB.out.2.trans (HBW.out.drew.mono HNB.out.2.size)).size (fun k e => by injection e with e; omega)).grown hg2 (Nat.le_trans (HNB.out.2.trans (HBW.out.drew.mono HNB.out.2.size)).size HG1.out.2.size) (fun k e => by injection e with e; omega)).grown hg3 (Nat.le_trans (Nat.le_trans (HNB.out.2.trans (HBW.out.drew.mono HNB.out.2.size)).size HG1.out.2.size) hg2.size) (fun k e => by injection e with e; omega)⟩); clear HC2 hN2 hm2 hg2 hm3 hg3 HX1))
      go_wp2
      go_roundw
      case rel => exact ⟨i + 1, by omega, by go_num, HFIN.out⟩
      case measure => simp [intOf]; omega
    · have hltI : ¬ (i : Int) < (n : Int) := by omega
      obtain rfl : i = n := by omega
      have HQ := hid hP
      clear hP
      go_wp2
      go_ret
      obtain ⟨⟨N, hN, hm⟩, hrk, hbl⟩ := HQ.out
      have hxl := HH.out.len
      rw [List.take_of_length_le (by omega)] at hm hrk
      refine ⟨w.heap.size + 1, rfl, Nat.le_succ _, N, ?_, hm, hrk, hbl⟩
      have q : i * (2 * i + 3) ≤ 400 * (2 * 400 + 3) := Nat.mul_le_mul (by omega) (by omega)
      omega
end Go.Proofs.YtkdnkmheidbfdaaGreat
