/-
  Layer 11: what the laws ask of turn, and dirs, awake with it.
-/
import Derived.Test.YtccbjohiaboipaaTSort
import Derived.Deep.RegionLaw
import Derived.Deep.RegionHeld3
namespace Go.Proofs.Ytccbjohiaboipaa
open Go.RowKit Go.Sort

/-- An append whose run is known, at a step of a region that draws its order. -/
theorem step_append_done {P : Program} {ops : Array Oper} {o : Oper} {a : Act} {ts : Array Value} {w w' : World} {K : Act → World → Prop} {Q : Exit → Act → World → Prop} {E : Prop} (hg : o.guard = none) (s x : Operand) (t : TypeId) (hop : o.op = Op.call { callee := Callee.builtin Builtin.append, args := #[s, x], argTypes := #[t, t] }) {v u v' : Value} (hs : a.eval s = v) (hx : a.eval x = u)
    (hrun : (Builtin.append_ #[t, t] o.type #[v, u]).run P w = .ok v' w') (hK : K (a.put o.dst v') w') : if Region.wanted o (yielded ops ts) = true then Oper.wp P o a w K Q else E := by
  have hw : Region.wanted o (yielded ops ts) = true := by simp [Region.wanted, hg]
  rw [if_pos hw]
  unfold Oper.wp
  rw [show (execOp a.eval o).run P w = .ok (.value v') w' by simp [execOp, hop, resolve, invoke, builtin, hs, hx, hrun, Result.andThen]]
  exact hK

/-- turn answers as exact numbers say. -/
structure TurnC : Prop where
  of : ∀ (ax ay bx by' : Int) (w : World), P64 (ax, ay) → P64 (bx, by') → Calls Try.prog 16 #[pv ax ay, pv bx by'] w fun e w' => e = .returned (.tuple #[pv (ofD (near ax, near ay) (near bx, near by')).1.1 (ofD (near ax, near ay) (near bx, near by')).1.2, .bool (ofD (near ax, near ay) (near bx, near by')).2]) ∧ Below w.heap.size w w'
  half : ∀ (x y : Int) (w : World), P64 (x, y) → Calls Try.prog 9 #[pv x y] w fun e w' => e = .returned (.int .i64 (halfD (x, y))) ∧ Below w.heap.size w w'
  cmp : ∀ (ax ay bx by' : Int) (w : World), P64 (ax, ay) → P64 (bx, by') → Calls Try.prog 13 #[pv ax ay, pv bx by'] w fun e w' => e = .returned (.int .i64 (cmpD (ax, ay) (bx, by'))) ∧ Below w.heap.size w w'
  betw : ∀ (ax ay bx by' dx dy : Int) (w : World), P64 (ax, ay) → P64 (bx, by') → P64 (dx, dy) → Calls Try.prog 10 #[pv ax ay, pv bx by', pv dx dy] w fun e w' => e = .returned (.bool (betwD (ax, ay) (bx, by') (dx, dy))) ∧ Below w.heap.size w w'
  sort : ∀ (v : Value) (ps : List Pp) (w : World), Pts w v ps → (∀ p ∈ ps, P64 p) → ps.length ≤ 60 → Calls Try.prog 20 #[v] w fun e w' => ∃ u, e = .returned u ∧ Nums w' u (natsI (sortD ps)) ∧ Below w.heap.size w w'
  next : ∀ (v : Value) (ps : List Pp) (i : Int) (w : World), Pts w v ps → (∀ p ∈ ps, P64 p) → I64 i → ps.length ≤ 60 → Calls Try.prog 7 #[v, .int .i64 i] w fun e w' => e = .returned (.int .i64 (stepD ps i 1)) ∧ Below w.heap.size w w'
  prev : ∀ (v : Value) (ps : List Pp) (i : Int) (w : World), Pts w v ps → (∀ p ∈ ps, P64 p) → I64 i → ps.length ≤ 60 → Calls Try.prog 8 #[v, .int .i64 i] w fun e w' => e = .returned (.int .i64 (stepD ps i (-1))) ∧ Below w.heap.size w w'


set_option maxHeartbeats 1600000 in
theorem dirs_any (v : Value) (ps : List Pp) (w : World) (hp : Pts w v ps) (hl : ps.length ≤ 100000) :
    Calls Try.prog 12 #[v] w fun e w' => ∃ va vb, e = .returned (.tuple #[va, vb]) ∧ DRow 24 w' w.heap.size va ps ∧ DRow 37 w' w.heap.size vb ps ∧ Below w.heap.size w w' := by
  obtain ⟨a, cap, rfl, hx⟩ := hp
  have HX := hid hx
  obtain ⟨n, hn⟩ : ∃ n, ps.length = n := ⟨_, rfl⟩
  have HN := hid hn
  rw [hn] at hl ⊢
  clear hx hn
  go_enter Try.func12, Try.ntmps12
  go_wp2
  go_loopw [4, 5, 6] (fun av bv iv wr => ∃ (k : Nat) (ao : Option Addr) (ca : Nat) (bo : Option Addr) (cb : Nat), k ≤ n ∧ iv = .int .i64 k ∧ av = .slice ao k ca ∧ bv = .slice bo k cb ∧ DRow 24 wr w.heap.size (.slice ao k ca) (ps.take k) ∧ DRow 37 wr w.heap.size (.slice bo k cb) (ps.take k) ∧ Apart (.slice ao k ca) (.slice bo k cb) ∧ Below w.heap.size w wr) (fun _ _ iv _ => n - (intOf iv).toNat)
  case atStart => exact ⟨0, none, 0, none, 0, by omega, rfl, rfl, rfl, DRow.nil _ _ _, DRow.nil _ _ _, (fun k hk => nomatch hk), Below.refl _ _⟩
  case round =>
    obtain ⟨k, ao, ca, bo, cb, hk, rfl, rfl, rfl, hra, hrb, hap, hbr⟩ := hrel
    by_cases hlt : k < n
    · have hkI : (k : Int) < (n : Int) := by omega
      have hkp : k < ps.length := by have := HN.out; omega
      obtain ⟨b, off, rfl, hc⟩ := HX.out (by omega)
      obtain ⟨z0, z1⟩ := hc k ps[k] (by simp [hkp])
      have hbb := lt_of_cell z0
      have HTK := hid (show ps.take (k + 1) = ps.take k ++ [ps[k]] by rw [List.take_add_one, List.getElem?_eq_getElem hkp]; rfl)
      have htl : (ps.take k).length = k := by rw [List.length_take]; omega
      have HZ := hid z0
      generalize ps[k] = PK at *
      obtain ⟨px, py⟩ := PK
      dsimp only at z0 z1
      obtain ⟨ao', ca', w1, hrun1, hra1, hb1, hg1⟩ := (hra.below (Below.refl _ wr).drew).snocD (base := w.heap.size) hbr.size (by rw [htl]; omega) (px, py)
      obtain ⟨hrb1, hap1⟩ := (hrb.below (Below.refl _ wr).drew).keep hg1 hap
      have hbw1 : Below w.heap.size w w1 := hbr.drew.trans hb1
      rw [htl] at hrun1 hra1 hap1
      obtain ⟨bo', cb', w2, hrun2, hrb2, hb2, hg2⟩ := (hrb1.below (Below.refl _ w1).drew).snocR (base := w.heap.size) hbw1.size (by rw [htl]; omega) (px, py)
      obtain ⟨hra2, hap2⟩ := (hra1.below (Below.refl _ w1).drew).keep hg2 hap1.symm
      rw [htl] at hrun2 hrb2 hap2
      have hbw2 : Below w.heap.size w w2 := hbw1.drew.trans hb2
      have y0 := cell_below z0 hbr hbb
      have y1 := cell_below z1 hbr hbb
      have u0 := cell_below z0 hbw1 hbb
      have u1 := cell_below z1 hbw1 hbb
      have x0 := cell_below z0 hbw2 hbb
      have x1 := cell_below z1 hbw2 hbb
      have ya0 := fun o => cell_below y0 ((Below.refl _ wr).alloc (Nat.le_refl _) o) (lt_of_cell y0)
      have ya1 := fun o => cell_below y1 ((Below.refl _ wr).alloc (Nat.le_refl _) o) (lt_of_cell y1)
      have ua0 := fun o => cell_below u0 ((Below.refl _ w1).alloc (Nat.le_refl _) o) (lt_of_cell u0)
      have ua1 := fun o => cell_below u1 ((Below.refl _ w1).alloc (Nat.le_refl _) o) (lt_of_cell u1)
      have HRUN1 := hid hrun1
      have HRUN2 := hid hrun2
      have HRA := hid hra2
      have HRB := hid hrb2
      have HAP := hid hap2.symm
      have HBW := hid hbw2
      clear hrun1 hrun2 hra hrb hra1 hrb1 hra2 hrb2 hap hap1 hap2 hbw1 hbw2 hb1 hb2 hg1 hg2 hbr z0 z1 hc HX HZ htl
      go_wp2
      go_region_held3 (fun w' => w'.cell? ⟨b, off + k * 2, none⟩ = some (.int .i64 px) ∧ w'.cell? ⟨b, off + k * 2 + 1, none⟩ = some (.int .i64 py)) (first | exact ⟨y0, y1⟩ | exact ⟨ya0 _, ya1 _⟩ | exact ⟨u0, u1⟩) (first
        | (refine step_append_done rfl (.tmp 13) (.tmp 25) 22 rfl rfl rfl HRUN1.out ?_))
      go_wp2
      go_region_held3 (fun w' => w'.cell? ⟨b, off + k * 2, none⟩ = some (.int .i64 px) ∧ w'.cell? ⟨b, off + k * 2 + 1, none⟩ = some (.int .i64 py)) (first | exact ⟨u0, u1⟩ | exact ⟨ua0 _, ua1 _⟩ | exact ⟨x0, x1⟩) (first
        | (refine step_append_done rfl (.tmp 27) (.tmp 39) 31 rfl rfl rfl HRUN2.out ?_))
      go_wp2
      go_roundw
      case rel => exact ⟨k + 1, ao', ca', bo', cb', by omega, by go_num, rfl, rfl, by rw [HTK.out]; exact HRA.out, by rw [HTK.out]; exact HRB.out, HAP.out, HBW.out⟩
      case measure => simp [intOf]; omega
    · have hkI : ¬ (k : Int) < (n : Int) := by omega
      have hkn : k = n := by omega
      subst hkn
      have HRA := hid hra
      have HRB := hid hrb
      have HB := hid hbr
      have HTK := hid (show ps.take k = ps by rw [← HN.out]; exact List.take_length)
      clear hra hrb hbr hap
      go_wp2
      refine bodyPost_ret (v := .tuple #[.slice ao k ca, .slice bo k cb]) (by simp [results, Try.results12, go_sem]) rfl ?_
      exact ⟨_, _, rfl, by have h := HRA.out; rwa [HTK.out] at h, by have h := HRB.out; rwa [HTK.out] at h, HB.out⟩

theorem tri_at {t : TypeId} {W : World} {b : Nat} {x0 y0 x1 y1 x2 y2 : Int} (hh : W.heap[b]? = some (.cells #[.int .i64 x0, .int .i64 y0, .int .i64 x1, .int .i64 y1, .int .i64 x2, .int .i64 y2] t)) : Pts W (.slice (some ⟨b, 0, none⟩) 3 3) [(x0, y0), (x1, y1), (x2, y2)] := by
  refine ⟨_, _, rfl, fun _ => ⟨b, 0, rfl, fun k p hk => ?_⟩⟩
  match k, hk with
  | 0, hk => simp at hk; subst hk; simp [World.cell?, hh]
  | 1, hk => simp at hk; subst hk; simp [World.cell?, hh]
  | 2, hk => simp at hk; subst hk; simp [World.cell?, hh]
  | k + 3, hk => simp at hk
theorem tri_new (t : TypeId) (w : World) (x0 y0 x1 y1 x2 y2 : Int) : Pts (w.alloc (.cells #[.int .i64 x0, .int .i64 y0, .int .i64 x1, .int .i64 y1, .int .i64 x2, .int .i64 y2] t)) (.slice (some ⟨w.heap.size, 0, none⟩) 3 3) [(x0, y0), (x1, y1), (x2, y2)] := tri_at (t := t) (by
  unfold World.alloc
  simp)
theorem i64_small {x : Int} (h0 : -1000000000 ≤ x) (h1 : x ≤ 1000000000) : I64 x := ⟨by omega, by omega⟩


set_option maxHeartbeats 1600000 in
theorem turnAwake_any (H : TurnC) (w : World) :
    Calls Try.prog 11 #[] w fun e w' => e = .returned (.bool true) ∧ Below w.heap.size w w' := by
  have e1 : natsI (sortD [(0, 1), (1, 0), (-1, 0)]) = [1, 0, 2] := by decide +kernel
  have e2 : ofD (near 0, near 0) (near 3, near 0) = ((3, 0), true) := by decide +kernel
  have e3 : halfD (3, 0) = 0 := by decide +kernel
  obtain ⟨wA, hwA⟩ : ∃ wA, w.alloc (.cells #[.int .i64 0, .int .i64 1, .int .i64 1, .int .i64 0, .int .i64 (-1), .int .i64 0] 24) = wA := ⟨_, rfl⟩
  have hPA : Pts wA (.slice (some ⟨w.heap.size, 0, none⟩) 3 3) [(0, 1), (1, 0), (-1, 0)] := by rw [← hwA]; exact tri_new _ w _ _ _ _ _ _
  have HB := hid (show Below w.heap.size w wA by rw [← hwA]; exact (Below.refl _ w).alloc (Nat.le_refl _) _)
  have H1 := hid (H.sort _ _ wA hPA (by intro p hp; simp at hp; rcases hp with rfl | rfl | rfl <;> exact ⟨i64_small (by decide) (by decide), i64_small (by decide) (by decide)⟩) (by decide))
  have H2 := hid (fun W => H.of 0 0 3 0 W ⟨i64_small (by decide) (by decide), i64_small (by decide) (by decide)⟩ ⟨i64_small (by decide) (by decide), i64_small (by decide) (by decide)⟩)
  have H3 := hid (fun W => H.half 3 0 W ⟨i64_small (by decide) (by decide), i64_small (by decide) (by decide)⟩)
  rw [e1] at H1
  simp only [e2] at H2
  simp only [e3] at H3
  obtain ⟨DX, DY, hDX, hDY⟩ : ∃ DX DY : Int, DX = 3 ∧ DY = 0 := ⟨3, 0, rfl, rfl⟩
  replace H3 : Hid (∀ W, Calls Try.prog 9 #[pv DX DY] W fun e w' => e = .returned (.int .i64 0) ∧ Below W.heap.size W w') := by rw [hDX, hDY]; exact H3
  replace H2 : Hid (∀ W, Calls Try.prog 16 #[pv 0 0, pv 3 0] W fun e w' => e = .returned (.tuple #[pv DX DY, .bool true]) ∧ Below W.heap.size W w') := by rw [hDX, hDY]; exact H2
  have kDX : (DX == 3) = true := by rw [hDX]; rfl
  clear e1 e2 e3 hPA hDX hDY
  go_enter Try.func11, Try.ntmps11
  go_wp2_with (first
    | (go_at_call 20; refine H1.out.mono ?_; rintro e w1 ⟨u, rfl, hu, hb1⟩; obtain ⟨ao, cp, rfl, hn⟩ := hu; obtain ⟨b, off, rfl, hc⟩ := hn (by decide); have HC := hid (show w1.cell? ⟨b, off, none⟩ = some (.int .i64 1) ∧ w1.cell? ⟨b, off + 1, none⟩ = some (.int .i64 0) ∧ w1.cell? ⟨b, off + 2, none⟩ = some (.int .i64 2) from ⟨hc 0 1 rfl, hc 1 0 rfl, hc 2 2 rfl⟩); replace HB := hid (HB.out.trans (hb1.mono HB.out.size)); clear hb1 hc hn H1)
    | (go_at_call 16; refine (H2.out _).mono ?_; rintro e w2 ⟨rfl, hb2⟩; replace HB := hid (HB.out.trans (hb2.mono HB.out.size)); replace HC := hid (show w2.cell? ⟨b, off, none⟩ = some (.int .i64 1) ∧ w2.cell? ⟨b, off + 1, none⟩ = some (.int .i64 0) ∧ w2.cell? ⟨b, off + 2, none⟩ = some (.int .i64 2) from ⟨cell_below HC.out.1 hb2 (lt_of_cell HC.out.1), cell_below HC.out.2.1 hb2 (lt_of_cell HC.out.2.1), cell_below HC.out.2.2 hb2 (lt_of_cell HC.out.2.2)⟩); obtain ⟨wN, hwN⟩ : ∃ wN, w2.alloc (.cells #[.int .i64 DX, .int .i64 DY] 24) = wN := ⟨_, rfl⟩; have HN := hid (show Dt 24 wN w2.heap.size DX DY by rw [← hwN]; exact Dt.new _ w2 _ _); have hbn : Below w2.heap.size w2 wN := (by rw [← hwN]; exact (Below.refl _ w2).alloc (Nat.le_refl _) _); replace HB := hid (HB.out.trans (hbn.mono HB.out.size)); have d0 := HN.out.c0; have d1 := HN.out.c1; have x0 := cell_below HC.out.1 hbn (lt_of_cell HC.out.1); have x1 := cell_below HC.out.2.1 hbn (lt_of_cell HC.out.2.1); have x2 := cell_below HC.out.2.2 hbn (lt_of_cell HC.out.2.2); clear hb2 H2 hbn)
    | (go_at_call 9; refine (H3.out _).mono ?_; rintro e w3 ⟨rfl, hb3⟩; replace HB := hid (HB.out.trans (hb3.mono HB.out.size)); clear hb3 H3))
  go_ret
  exact ⟨rfl, HB.out⟩

end Go.Proofs.Ytccbjohiaboipaa
