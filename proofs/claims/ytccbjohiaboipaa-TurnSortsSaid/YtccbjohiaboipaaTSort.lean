/-
  The document's Sort, and SameInts.
-/
import Derived.Test.YtccbjohiaboipaaTStep
namespace Go.Proofs.Ytccbjohiaboipaa
open Go.RowKit Go.Sort

def natsI (l : List Nat) : List Int := List.map (fun x : Nat => (x : Int)) l
theorem natsI_length (l : List Nat) : (natsI l).length = l.length := by unfold natsI; simp
theorem natsI_at {l : List Nat} {k x : Nat} (h : l[k]? = some x) : (natsI l)[k]? = some (x : Int) := by
  unfold natsI
  rw [List.getElem?_map, h]
  rfl
def sortN (l : List Pp) (k : Nat) : List Nat := (List.range k).foldl (insD l) []
theorem sortN_succ (l : List Pp) (k : Nat) : sortN l (k + 1) = insD l (sortN l k) k := range_foldl _ _ _
theorem sortN_len (l : List Pp) (k : Nat) : (sortN l k).length = k := sortN_length l k
theorem sortN_lt (l : List Pp) : ∀ (k : Nat), ∀ x ∈ sortN l k, x < k
  | 0, x, h => by simp [sortN] at h
  | k + 1, x, h => by
    rw [sortN_succ] at h
    unfold insD at h
    rw [List.mem_append, List.mem_cons] at h
    rcases h with h | h | h
    · exact Nat.lt_succ_of_lt (sortN_lt l k x (List.mem_of_mem_take h))
    · omega
    · exact Nat.lt_succ_of_lt (sortN_lt l k x (List.mem_of_mem_drop h))
/-- The row with a gap at j, which holds anything. -/
def gapD (out : List Nat) (j x : Nat) : List Nat := out.take j ++ x :: out.drop j
theorem gapD_len (out : List Nat) {j : Nat} (x : Nat) (h : j ≤ out.length) : (gapD out j x).length = out.length + 1 := by
  unfold gapD
  simp
  omega
theorem gapD_end (out : List Nat) (x : Nat) : gapD out out.length x = out ++ [x] := by unfold gapD; simp
theorem gapD_low {out : List Nat} {j t x : Nat} (h : t < j) (hj : j ≤ out.length) : (gapD out j x)[t]? = out[t]? := by
  unfold gapD
  rw [List.getElem?_append_left (by simp; omega), List.getElem?_take, if_pos h]
theorem gapD_step {out : List Nat} {j x y : Nat} (hj : j < out.length) (hy : out[j]? = some y) : (gapD out (j + 1) x).set (j + 1) y = gapD out j y := by
  unfold gapD
  have hl : (out.take (j + 1)).length = j + 1 := by simp; omega
  rw [List.set_append_right (h := by omega), hl, Nat.sub_self, List.set_cons_zero]
  have hy' : out[j] = y := by simpa [hj] using hy
  rw [List.take_add_one, hy, List.drop_eq_getElem_cons hj, hy']
  simp
theorem gapD_put (out : List Nat) {j : Nat} (x y : Nat) (h : j ≤ out.length) : (gapD out j x).set j y = gapD out j y := by
  unfold gapD
  have hl : (out.take j).length = j := by simp; omega
  rw [List.set_append_right (h := by omega), hl, Nat.sub_self, List.set_cons_zero]
theorem natsI_set (l : List Nat) (j y : Nat) : (natsI l).set j (y : Int) = natsI (l.set j y) := by
  unfold natsI
  rw [List.map_set]
theorem NRow.put {w : World} {base g n cap : Nat} {zs : List Int} (h : NRow w base (.slice (some ⟨g, 0, none⟩) n cap) zs) (hn : zs.length = n) (j : Nat) (z : Int) :
    NRow (w.setCell ⟨g, j, none⟩ (.int .i64 z)) base (.slice (some ⟨g, 0, none⟩) n cap) (zs.set j z) := by
  subst hn
  have h' : w.ownsRow base 3 1 (.slice (some ⟨g, 0, none⟩) zs.length cap) zs.length (zs.map (Value.int .i64)) := h
  have h2 := h'.stored j (.int .i64 z)
  unfold NRow
  rw [List.length_set, List.map_set]
  exact h2.1
theorem NRow.frz {w : World} {base g n cap : Nat} {zs : List Int} (h : NRow w base (.slice (some ⟨g, 0, none⟩) n cap) zs) (hn : zs.length = n) (j : Nat) : w.frozen? ⟨g, j, none⟩ = false := by
  subst hn
  have h' : w.ownsRow base 3 1 (.slice (some ⟨g, 0, none⟩) zs.length cap) zs.length (zs.map (Value.int .i64)) := h
  exact h'.frozenAt j
theorem NRow.cell {w : World} {base g n cap : Nat} {zs : List Int} (h : NRow w base (.slice (some ⟨g, 0, none⟩) n cap) zs) (hn : zs.length = n) {j : Nat} {z : Int} (hz : zs[j]? = some z) : w.cell? ⟨g, j, none⟩ = some (.int .i64 z) := by
  subst hn
  have h' : w.ownsRow base 3 1 (.slice (some ⟨g, 0, none⟩) zs.length cap) zs.length (zs.map (Value.int .i64)) := h
  have hlt := (List.getElem?_eq_some_iff.1 hz).1
  exact (h'.cellAt j (by omega)).trans (by rw [List.getElem?_map, hz]; rfl)
theorem NRow.some {w : World} {base n cap : Nat} {ao : Option Addr} {zs : List Int} (h : NRow w base (.slice ao n cap) zs) (hn : 1 ≤ zs.length) : ∃ g, ao = some ⟨g, 0, none⟩ ∧ base ≤ g ∧ g < w.heap.size := by
  rcases h.2 with ⟨e, h0⟩ | ⟨g, cap', cur, e, hg, hh, _⟩
  · omega
  · injection e with e1
    exact ⟨g, e1, hg, lt_of_heap hh⟩


set_option maxHeartbeats 3200000 in
theorem refSort_any (v : Value) (ps : List Pp) (w : World) (hp : Pts w v ps) (hl : ps.length ≤ 100000) :
    Calls Try.prog 21 #[v] w fun e w' => ∃ u, e = .returned u ∧ NRow w' w.heap.size u (natsI (sortD ps)) ∧ Below w.heap.size w w' := by
  obtain ⟨a, cap, rfl, hx⟩ := hp
  have HX := hid hx
  obtain ⟨n, hn⟩ : ∃ n, ps.length = n := ⟨_, rfl⟩
  have HN := hid hn
  have HS : Hid (sortD ps = sortN ps n) := hid (by unfold sortD sortN; rw [hn])
  rw [HS.out]
  rw [hn] at hl ⊢
  clear hx hn
  go_enter Try.func21, Try.ntmps21
  go_wp2
  go_loopw [3, 4, 5] (fun ov iv _ wr => ∃ (k : Nat) (ao : Option Addr) (cp : Nat), k ≤ n ∧ iv = .int .i64 k ∧ ov = .slice ao k cp ∧ NRow wr w.heap.size (.slice ao k cp) (natsI (sortN ps k)) ∧ Below w.heap.size w wr) (fun _ iv _ _ => n - (intOf iv).toNat)
  case atStart => exact ⟨0, none, 0, by omega, rfl, rfl, NRow.nil _ _, Below.refl _ _⟩
  case round =>
    obtain ⟨k, ao, cp, hk, rfl, rfl, hrow, hbr⟩ := hrel
    have HB := hid hbr
    by_cases hlt : k < n
    · have hkI : (k : Int) < (n : Int) := by omega
      have hkp : k < ps.length := by have := HN.out; omega
      obtain ⟨b, off, ha, hc⟩ := HX.out (by omega)
      subst ha
      obtain ⟨i0, i1⟩ := hc k ps[k] (by simp [hkp])
      have hbb := lt_of_cell i0
      have HC := hid hc
      have HK := hid (getD_of hkp)
      obtain ⟨D, hD⟩ : ∃ D, ps[k] = D := ⟨_, rfl⟩
      have HD := hid (HK.out.trans hD)
      rw [hD] at i0 i1
      clear HK hc hD
      obtain ⟨ix, iy⟩ := D
      dsimp only at i0 i1
      have HI := hid (show w.cell? ⟨b, off + k * 2, none⟩ = some (.int .i64 ix) ∧ w.cell? ⟨b, off + k * 2 + 1, none⟩ = some (.int .i64 iy) from ⟨i0, i1⟩)
      clear i0 i1
      have hlen : (natsI (sortN ps k)).length = k := by rw [natsI_length, sortN_len]
      obtain ⟨ao', cp', w', hrun, hrow', hbs, _⟩ := hrow.snoc hbr.size (by rw [hlen]; omega) (k : Int)
      rw [hlen] at hrun hrow'
      have HRUN := hid hrun
      have HL := hid hlen
      obtain ⟨g, rfl, hg1, hg2⟩ := hrow'.some (by simp)
      have HROW := hid hrow'
      have HBS := hid (hbr.trans hbs)
      clear hrun hrow' hrow hbs hbr hlen
      go_wp2_with (at_builtin; refine wpList_append_done rfl (.tmp 14) (.tmp 16) 46 rfl rfl rfl HRUN.out ?_)
      have HOL := hid (sortN_len ps k)
      have HLT := hid (sortN_lt ps k)
      have HSU := hid (sortN_succ ps k)
      clear HRUN HL HS
      go_loopw [5] (fun kv wr => ∃ (j x : Nat), j ≤ k ∧ kv = .int .i64 j ∧ NRow wr w.heap.size (.slice (some ⟨g, 0, none⟩) (k + 1) cp') (natsI (gapD (sortN ps k) j x)) ∧ insP ps (sortN ps k) k (sortN ps k).length = insP ps (sortN ps k) k j ∧ Below w.heap.size w wr) (fun kv _ => (intOf kv).toNat)
      case atStart =>
        refine ⟨k, k, Nat.le_refl _, rfl, ?_, by rw [HOL.out], HBS.out⟩
        have h := HROW.out
        have e := gapD_end (sortN ps k) k
        rw [HOL.out] at e
        rw [e]
        unfold natsI
        rw [List.map_append]
        exact h
      case round =>
        obtain ⟨j, x, hj, rfl, hrow, hins, hbr⟩ := hrel
        have HROWJ := hid hrow
        have HINS := hid hins
        have HBJ := hid hbr
        have hgl : (natsI (gapD (sortN ps k) j x)).length = k + 1 := by rw [natsI_length, gapD_len _ _ (by rw [HOL.out]; exact hj), HOL.out]
        clear HROW HBS hins
        obtain ⟨q0, q1⟩ := HI.out
        replace q0 := cell_below q0 hbr hbb
        replace q1 := cell_below q1 hbr hbb
        by_cases hj0 : j = 0
        · subst hj0
          have HIN2 := hid (show insP ps (sortN ps k) k 0 = 0 from rfl)
          clear hrow hbr
          go_wp2
          refine wp_region_quiet_below (by kernel_rfl) (by kernel_rfl) ?_
          go_big_quiet_step (fail)
          go_big_quiet_step (fail)
          go_big_quiet_step (fail)
          go_big_quiet_step (fail)
          go_big_quiet_step (fail)
          go_big_quiet_step (fail)
          go_big_quiet_step (fail)
          go_big_quiet_step (fail)
          go_big_quiet_step (fail)
          go_big_quiet_step (fail)
          go_big_quiet_step (fail)
          go_big_quiet_step (fail)
          go_big_quiet_step (fail)
          go_big_quiet_step (fail)
          go_big_quiet_step (fail)
          go_big_quiet_step (fail)
          go_big_quiet_step (fail)
          go_big_quiet_step (fail)
          refine wpQuiet_nil ?_
          intro W hW'
          obtain ⟨⟨dq, osq⟩, hW⟩ := hW'
          have hb : Below wr.heap.size wr W := by rw [hW]; exact below_regrown _ _ _
          have HRW := hid (HROWJ.out.below hb)
          have hbw := HBJ.out.trans (hb.mono HBJ.out.size)
          have HBW := hid hbw
          have hfz := HRW.out.frz hgl 0
          obtain ⟨zz, hc0⟩ : ∃ z, W.cell? ⟨g, 0, none⟩ = some (.int .i64 z) := by
            obtain ⟨z, hz'⟩ : ∃ z, (natsI (gapD (sortN ps k) 0 x))[0]? = some z := ⟨_, List.getElem?_eq_getElem (by omega)⟩
            exact ⟨z, HRW.out.cell hgl hz'⟩
          have HEND := hid (show NRow (W.setCell ⟨g, 0, none⟩ (.int .i64 (k : Int))) w.heap.size (.slice (some ⟨g, 0, none⟩) (k + 1) cp') (natsI (sortN ps (k + 1))) by
            have h := HRW.out.put hgl 0 (k : Int)
            rw [natsI_set, gapD_put _ _ _ (by rw [HOL.out]; omega)] at h
            rw [HSU.out]
            unfold insD
            rw [HINS.out, HIN2.out]
            exact h)
          have HBE := hid (show Below w.heap.size w (W.setCell ⟨g, 0, none⟩ (.int .i64 (k : Int))) from hbw.setCell (p := ⟨g, 0, none⟩) hg1 _)
          have hkk : (0 : Int) < (k : Int) + 1 := by omega
          clear hb hW hgl hbw
          go_wp2
          go_roundw
          case rel => exact ⟨k + 1, _, _, by omega, by go_num, rfl, HEND.out, HBE.out⟩
          case measure => simp [intOf]; omega
        · obtain ⟨t, rfl⟩ : ∃ t, j = t + 1 := ⟨j - 1, by omega⟩
          obtain ⟨y, hy⟩ : ∃ y, (sortN ps k)[t]? = some y := ⟨_, List.getElem?_eq_getElem (by rw [HOL.out]; omega)⟩
          have hyk : y < k := HLT.out y (List.mem_of_getElem? hy)
          have HY := hid hy
          have hlow : (natsI (gapD (sortN ps k) (t + 1) x))[t]? = some (y : Int) := natsI_at ((gapD_low (by omega) (by rw [HOL.out]; omega)).trans hy)
          have r0 := hrow.cell hgl hlow
          have hyp : y < ps.length := by have := HN.out; omega
          have hyI : (y : Int) < (n : Int) := by omega
          obtain ⟨y0, y1⟩ := HC.out y ps[y] (by simp [hyp])
          have HPY := hid (getD_of hyp)
          generalize ps[y] = PY at *
          obtain ⟨yx, yy⟩ := PY
          dsimp only at y0 y1
          replace y0 := cell_below y0 hbr hbb
          replace y1 := cell_below y1 hbr hbb
          have HIP := hid (show insP ps (sortN ps k) k (t + 1) = if 0 < cmpD (yx, yy) (ix, iy) then insP ps (sortN ps k) k t else t + 1 by
            have e : (sortN ps k).getD t 0 = y := by rw [List.getD_eq_getElem?_getD, hy]; rfl
            show (if 0 < cmpD (ps.getD ((sortN ps k).getD t 0) (0, 0)) (ps.getD k (0, 0)) then _ else _) = _
            rw [e, HPY.out, HD.out])
          have C1 := hid (fun W => refCmp_any yx yy ix iy W)
          generalize cmpD (yx, yy) (ix, iy) = c at *
          have jt : (t : Int) + 1 - 1 = (t : Int) := by omega
          have jl : (t : Int) < (k : Int) + 1 := by omega
          have jm : ((t + 1 : Nat) : Int) = (t : Int) + 1 := by omega
          clear hlow hrow hy
          cases hc0 : decide (0 < c) with
          | true =>
            have HIN2 := hid (HIP.out.trans (if_pos (of_decide_eq_true hc0)))
            go_wp2
            have k0 := cell_regrown r0; have ky0 := cell_regrown y0; have ky1 := cell_regrown y1; have kq0 := cell_regrown q0; have kq1 := cell_regrown q1
            have c1 := fun d os => C1.out (grow (redrawn wr d) os)
            refine wp_region_quiet_below (by kernel_rfl) (by kernel_rfl) ?_
            go_big_quiet_step (fail)
            go_big_quiet_step (fail)
            go_big_quiet_step (fail)
            go_big_quiet_step (fail)
            go_big_quiet_step (fail)
            go_big_quiet_step (fail)
            go_big_quiet_step (fail)
            go_big_quiet_step (fail)
            go_big_quiet_step (fail)
            go_big_quiet_step (fail)
            go_big_quiet_step (fail)
            go_big_quiet_step (fail)
            go_big_quiet_step (fail)
            go_big_quiet_step (fail)
            go_big_quiet_step (fail)
            go_big_quiet_step (exact Calls.regrown_of (c1 _ _))
            go_big_quiet_step (fail)
            go_big_quiet_step (fail)
            refine wpQuiet_nil ?_
            intro W hW'
            obtain ⟨⟨dq, osq⟩, hW⟩ := hW'
            have hb : Below wr.heap.size wr W := by rw [hW]; exact below_regrown _ _ _
            have HRW := hid (HROWJ.out.below hb)
            have hbw := HBJ.out.trans (hb.mono HBJ.out.size)
            have s0 := cell_below r0 hb (lt_of_cell r0)
            have hfz := HRW.out.frz hgl (t + 1)
            obtain ⟨zz, hcz⟩ : ∃ z, W.cell? ⟨g, t + 1, none⟩ = some (.int .i64 z) := by
              obtain ⟨z, hz'⟩ : ∃ z, (natsI (gapD (sortN ps k) (t + 1) x))[t + 1]? = some z := ⟨_, List.getElem?_eq_getElem (by omega)⟩
              exact ⟨z, HRW.out.cell hgl hz'⟩
            have HEND := hid (show NRow (W.setCell ⟨g, t + 1, none⟩ (.int .i64 (y : Int))) w.heap.size (.slice (some ⟨g, 0, none⟩) (k + 1) cp') (natsI (gapD (sortN ps k) t y)) by
              have h := HRW.out.put hgl (t + 1) (y : Int)
              rw [natsI_set, gapD_step (by rw [HOL.out]; omega) HY.out] at h
              exact h)
            have HBE := hid (show Below w.heap.size w (W.setCell ⟨g, t + 1, none⟩ (.int .i64 (y : Int))) from hbw.setCell (p := ⟨g, t + 1, none⟩) hg1 _)
            have hkk : ((t : Int) + 1) < (k : Int) + 1 := by omega
            clear hb hW hgl hbw k0 ky0 ky1 kq0 kq1 c1 r0 y0 y1 q0 q1 hbr
            go_wp2
            go_roundw
            case rel => exact ⟨t, y, by omega, by go_num, HEND.out, by rw [HINS.out, HIN2.out], HBE.out⟩
            case measure => simp [intOf]
          | false =>
            have HIN2 := hid (HIP.out.trans (if_neg (of_decide_eq_false hc0)))
            go_wp2
            have k0 := cell_regrown r0; have ky0 := cell_regrown y0; have ky1 := cell_regrown y1; have kq0 := cell_regrown q0; have kq1 := cell_regrown q1
            have c1 := fun d os => C1.out (grow (redrawn wr d) os)
            refine wp_region_quiet_below (by kernel_rfl) (by kernel_rfl) ?_
            go_big_quiet_step (fail)
            go_big_quiet_step (fail)
            go_big_quiet_step (fail)
            go_big_quiet_step (fail)
            go_big_quiet_step (fail)
            go_big_quiet_step (fail)
            go_big_quiet_step (fail)
            go_big_quiet_step (fail)
            go_big_quiet_step (fail)
            go_big_quiet_step (fail)
            go_big_quiet_step (fail)
            go_big_quiet_step (fail)
            go_big_quiet_step (fail)
            go_big_quiet_step (fail)
            go_big_quiet_step (fail)
            go_big_quiet_step (exact Calls.regrown_of (c1 _ _))
            go_big_quiet_step (fail)
            go_big_quiet_step (fail)
            refine wpQuiet_nil ?_
            intro W hW'
            obtain ⟨⟨dq, osq⟩, hW⟩ := hW'
            have hb : Below wr.heap.size wr W := by rw [hW]; exact below_regrown _ _ _
            clear k0 ky0 ky1 kq0 kq1 c1 r0 y0 y1 q0 q1 hbr hc0
            have HRW := hid (HROWJ.out.below hb)
            have hbw := HBJ.out.trans (hb.mono HBJ.out.size)
            have HBW := hid hbw
            have hfz := HRW.out.frz hgl (t + 1)
            obtain ⟨zz, hcz⟩ : ∃ z, W.cell? ⟨g, t + 1, none⟩ = some (.int .i64 z) := by
              obtain ⟨z, hz'⟩ : ∃ z, (natsI (gapD (sortN ps k) (t + 1) x))[(t + 1)]? = some z := ⟨_, List.getElem?_eq_getElem (by omega)⟩
              exact ⟨z, HRW.out.cell hgl hz'⟩
            have HEND := hid (show NRow (W.setCell ⟨g, t + 1, none⟩ (.int .i64 (k : Int))) w.heap.size (.slice (some ⟨g, 0, none⟩) (k + 1) cp') (natsI (sortN ps (k + 1))) by
              have h := HRW.out.put hgl (t + 1) (k : Int)
              rw [natsI_set, gapD_put _ _ _ (by rw [HOL.out]; omega)] at h
              rw [HSU.out]
              unfold insD
              rw [HINS.out, HIN2.out]
              exact h)
            have HBE := hid (show Below w.heap.size w (W.setCell ⟨g, t + 1, none⟩ (.int .i64 (k : Int))) from hbw.setCell (p := ⟨g, t + 1, none⟩) hg1 _)
            have hkk : ((t : Int) + 1) < (k : Int) + 1 := by omega
            clear hb hW hgl hbw
            go_wp2
            go_roundw
            case rel => exact ⟨k + 1, _, _, by omega, by go_num, rfl, HEND.out, HBE.out⟩
            case measure => simp [intOf]; omega
    · have hkI : ¬ (k : Int) < (n : Int) := by omega
      have hkn : k = n := by omega
      subst hkn
      have HROW := hid hrow
      clear hrow hbr
      go_wp2
      go_ret
      exact ⟨_, rfl, HROW.out, HB.out⟩


theorem sameInts_any (u v : Value) (zs : List Int) (w : World) (hu : Nums w u zs) (hv : Nums w v zs) (hl : zs.length ≤ 1000000) :
    Calls Try.prog 19 #[u, v] w fun e w' => e = .returned (.bool true) ∧ Below w.heap.size w w' := by
  obtain ⟨a, ca, rfl, ha⟩ := hu
  obtain ⟨c, cc, rfl, hc⟩ := hv
  have HA := hid ha
  have HC := hid hc
  obtain ⟨n, hn⟩ : ∃ n, zs.length = n := ⟨_, rfl⟩
  have HN := hid hn
  rw [hn] at hl ⊢
  clear ha hc hn
  go_enter Try.func19, Try.ntmps19
  go_wp2
  go_loopw [5] (fun iv wr => ∃ k : Nat, k ≤ n ∧ iv = .int .i64 k ∧ Below w.heap.size w wr) (fun iv _ => n - (intOf iv).toNat)
  case atStart => exact ⟨0, by omega, rfl, Below.refl _ _⟩
  case round =>
    obtain ⟨k, hk, rfl, hbr⟩ := hrel
    by_cases hlt : k < n
    · have hkI : (k : Int) < (n : Int) := by omega
      have hkp : k < zs.length := by have := HN.out; omega
      obtain ⟨b1, o1, rfl, h1⟩ := HA.out (by omega)
      obtain ⟨b2, o2, rfl, h2⟩ := HC.out (by omega)
      have x0 := h1 k zs[k] (by simp [hkp])
      have y0 := h2 k zs[k] (by simp [hkp])
      generalize zs[k] = z at *
      have k0 := cell_regrown (cell_below x0 hbr (lt_of_cell x0))
      have k1 := cell_regrown (cell_below y0 hbr (lt_of_cell y0))
      have HB := hid hbr
      clear hbr h1 h2 x0 y0
      go_wp2
      refine wp_region_quiet_below (by kernel_rfl) (by kernel_rfl) ?_
      go_big_quiet_step (fail)
      go_big_quiet_step (fail)
      go_big_quiet_step (fail)
      go_big_quiet_step (fail)
      go_big_quiet_step (fail)
      go_big_quiet_step (fail)
      go_big_quiet_step (fail)
      go_big_quiet_step (fail)
      go_big_quiet_step (fail)
      refine wpQuiet_nil ?_
      intro W hW'
      obtain ⟨⟨dq, osq⟩, hW⟩ := hW'
      have HBW := hid (show Below w.heap.size w W from HB.out.trans ((show Below wr.heap.size wr W by rw [hW]; exact below_regrown _ _ _).mono HB.out.size))
      clear hW k0 k1
      go_wp2
      go_roundw
      case rel => exact ⟨k + 1, by omega, by go_num, HBW.out⟩
      case measure => simp [intOf]; omega
    · have hkI : ¬ (k : Int) < (n : Int) := by omega
      have HB := hid hbr
      clear hbr
      go_wp2
      go_ret
      exact ⟨rfl, HB.out⟩

end Go.Proofs.Ytccbjohiaboipaa
