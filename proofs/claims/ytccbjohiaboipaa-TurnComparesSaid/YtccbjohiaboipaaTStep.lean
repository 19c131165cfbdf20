/-
  The document's step, Next, Prev.
-/
import Derived.Test.YtccbjohiaboipaaTRefB
namespace Go.Proofs.Ytccbjohiaboipaa
open Go.RowKit Go.Sort

theorem getD_of {l : List Pp} {k : Nat} (h : k < l.length) : l.getD k (0, 0) = l[k] := by
  rw [List.getD_eq_getElem?_getD, List.getElem?_eq_getElem h]
  rfl
theorem stepF_in (l : List Pp) (i : Nat) (d : Pp) (way : Int) (best k : Nat) : stepF l i d way best k = best ∨ stepF l i d way best k = k := by
  unfold stepF
  split
  · exact .inl rfl
  · split
    · exact .inr rfl
    · exact .inl rfl
theorem range_foldl {α : Type} (f : α → Nat → α) (a : α) (k : Nat) : (List.range (k + 1)).foldl f a = f ((List.range k).foldl f a) k := by
  rw [List.range_succ, List.foldl_append, List.foldl_cons, List.foldl_nil]


set_option maxHeartbeats 3200000 in
theorem refStepUp_any (v : Value) (ps : List Pp) (i : Int) (w : World) (hp : Pts w v ps) (hl : ps.length ≤ 1000000) :
    Calls Try.prog 39 #[v, .int .i64 i, .int .i64 (1)] w fun e w' => e = .returned (.int .i64 (stepD ps i (1))) ∧ Below w.heap.size w w' := by
  obtain ⟨a, cap, rfl, hx⟩ := hp
  have HR := hid (show stepD ps i (1) = if i < 0 ∨ (ps.length : Int) ≤ i ∨ noneD (ps.getD i.toNat (0, 0)) = true then i else (stepN ps i.toNat (1) : Nat) from rfl)
  have HX := hid hx
  obtain ⟨n, hn⟩ : ∃ n, ps.length = n := ⟨_, rfl⟩
  have HN := hid hn
  rw [hn] at hl ⊢
  clear hx hn
  by_cases h0 : i < 0
  · have HV : Hid (stepD ps i (1) = i) := hid (by rw [HR.out, if_pos (.inl h0)])
    generalize stepD ps i (1) = RR at *
    clear HR
    go_enter Try.func39, Try.ntmps39
    go_wp2
    go_ret
    exact ⟨by rw [HV.out]; rfl, Below.refl _ _⟩
  by_cases h1 : (n : Int) ≤ i
  · have HV : Hid (stepD ps i (1) = i) := hid (by rw [HR.out, if_pos (.inr (.inl (by rw [HN.out]; exact h1)))])
    generalize stepD ps i (1) = RR at *
    clear HR
    go_enter Try.func39, Try.ntmps39
    go_wp2
    go_ret
    exact ⟨by rw [HV.out]; rfl, Below.refl _ _⟩
  obtain ⟨m, rfl⟩ : ∃ m : Nat, i = m := ⟨i.toNat, by omega⟩
  have hm : m < n := by omega
  obtain ⟨b, off, rfl, hc⟩ := HX.out (by have := HN.out; omega)
  have hmp : m < ps.length := by have := HN.out; omega
  obtain ⟨z0, z1⟩ := hc m ps[m] (by simp [hmp])
  have hbb := lt_of_cell z0
  have HD := hid (getD_of hmp)
  have HC := hid hc
  clear hc HX
  rw [show ((m : Int)).toNat = m from rfl, HD.out] at HR
  obtain ⟨D, hD⟩ : ∃ D, ps[m] = D := ⟨_, rfl⟩
  have HDD := hid (HD.out.trans hD)
  rw [hD] at HR z0 z1
  clear HD
  obtain ⟨dx, dy⟩ := D
  dsimp only at z0 z1
  have H1 := hid (refNone_any dx dy w)
  have HRS := hid (show stepN ps m (1) = (List.range n).foldl (stepF ps m (dx, dy) (1)) m by unfold stepN; rw [HN.out, HDD.out])
  have hnb : (decide ((m : Int) < 0)) = false := by simp
  have hnc : (decide ((n : Int) ≤ (m : Int))) = false := by simp; omega
  cases hnd : noneD (dx, dy) with
  | true =>
    have HV : Hid (stepD ps m (1) = m) := hid (by rw [HR.out, if_pos (.inr (.inr hnd))])
    rw [hnd] at H1
    generalize stepD ps m (1) = RR at *
    clear HR HRS hD
    go_enter Try.func39, Try.ntmps39
    go_wp2_with (go_at_call 32; refine H1.out.mono ?_; rintro e w1 ⟨rfl, hb1⟩; have HB1 := hid hb1; clear hb1 H1)
    go_ret
    exact ⟨by rw [HV.out]; rfl, HB1.out⟩
  | false =>
    have HV : Hid (stepD ps m (1) = (stepN ps m (1) : Nat)) := hid (by rw [HR.out, if_neg (by rw [hnd, HN.out]; rintro (h | h | h) <;> first | omega | cases h)])
    rw [hnd] at H1
    have HND := hid hnd
    generalize stepD ps m (1) = RR at *
    clear HR hD hnd
    go_enter Try.func39, Try.ntmps39
    go_wp2_with (go_at_call 32; refine H1.out.mono ?_; rintro e w1 ⟨rfl, hb1⟩; have HB1 := hid hb1; clear hb1 H1)
    clear z0 z1
    go_loopw [7, 8] (fun bv kv wr => ∃ (k q : Nat), k ≤ n ∧ q < n ∧ kv = .int .i64 k ∧ bv = .int .i64 q ∧ (List.range k).foldl (stepF ps m (dx, dy) (1)) m = q ∧ Below w.heap.size w wr) (fun _ kv _ => n - (intOf kv).toNat)
    case atStart => exact ⟨0, m, by omega, hm, rfl, rfl, rfl, HB1.out⟩
    case round =>
      obtain ⟨k, q, hk, hq, rfl, rfl, hfold, hbr⟩ := hrel
      have HF := hid hfold
      have HBL := hid hbr
      clear hfold HB1
      by_cases hlt : k < n
      · have hkI : (k : Int) < (n : Int) := by omega
        have hmI : (m : Int) < (n : Int) := by omega
        have hqI : (q : Int) < (n : Int) := by omega
        have hkp : k < ps.length := by have := HN.out; omega
        have hqp : q < ps.length := by have := HN.out; omega
        obtain ⟨x0, x1⟩ := HC.out k ps[k] (by simp [hkp])
        obtain ⟨y0, y1⟩ := HC.out q ps[q] (by simp [hqp])
        obtain ⟨d0, d1⟩ := HC.out m (dx, dy) (by have := HDD.out; rw [getD_of hmp] at this; simp [hmp, this])
        have HPK := hid (getD_of hkp)
        have HPQ := hid (getD_of hqp)
        generalize ps[k] = PK at *
        generalize ps[q] = PQ at *
        obtain ⟨kx, ky⟩ := PK
        obtain ⟨qx, qy⟩ := PQ
        dsimp only at x0 x1 y0 y1 d0 d1
        replace x0 := cell_below x0 hbr hbb
        replace x1 := cell_below x1 hbr hbb
        replace y0 := cell_below y0 hbr hbb
        replace y1 := cell_below y1 hbr hbb
        replace d0 := cell_below d0 hbr hbb
        replace d1 := cell_below d1 hbr hbb
        have HS := hid (show stepF ps m (dx, dy) (1) q k = if noneD (kx, ky) = true ∨ cmpD (kx, ky) (dx, dy) = 0 then q else if q = m ∨ (1) * afterD (dx, dy) (kx, ky) (qx, qy) < 0 then k else q by unfold stepF; rw [HPK.out, HPQ.out])
        have HNX := hid (show (List.range (k + 1)).foldl (stepF ps m (dx, dy) (1)) m = stepF ps m (dx, dy) (1) q k by rw [range_foldl, HF.out])
        have C1 := hid (fun W => refNone_any kx ky W)
        have C2 := hid (fun W => refCmp_any kx ky dx dy W)
        have C3 := hid (fun W => refAfter_any dx dy kx ky qx qy W)
        have hai := afterD_in (dx, dy) (kx, ky) (qx, qy)
        generalize stepF ps m (dx, dy) (1) q k = SF at *
        generalize noneD (kx, ky) = nk at *
        generalize cmpD (kx, ky) (dx, dy) = ck at *
        generalize afterD (dx, dy) (kx, ky) (qx, qy) = s at *
        clear hbr
        go_wp2
        cases nk with
        | true =>
          have HSF : Hid (SF = q) := hid (by rw [HS.out]; rw [if_pos (.inl rfl)])
          have rx0 := cell_regrown x0; have rx1 := cell_regrown x1; have rd0 := cell_regrown d0; have rd1 := cell_regrown d1
          have c1 := fun d os => C1.out (grow (redrawn wr d) os)
          have c2 := fun d os => C2.out (grow (redrawn wr d) os)
          refine wp_region_quiet_below (by kernel_rfl) (by kernel_rfl) ?_
          go_big_quiet_step (fail)
          go_big_quiet_step (fail)
          go_big_quiet_step (fail)
          go_big_quiet_step (fail)
          go_big_quiet_step (exact Calls.regrown_of (c1 _ _))
          go_big_quiet_step (fail)
          go_big_quiet_step (fail)
          go_big_quiet_step (fail)
          go_big_quiet_step (fail)
          go_big_quiet_step (fail)
          go_big_quiet_step (fail)
          go_big_quiet_step (fail)
          go_big_quiet_step (fail)
          go_big_quiet_step (fail)
          go_big_quiet_step (fail)
          go_big_quiet_step (fail)
          go_big_quiet_step (fail)
          refine wpQuiet_nil ?_
          intro W hW'
          obtain ⟨⟨dq, osq⟩, hW⟩ := hW'
          have hb : Below wr.heap.size wr W := by rw [hW]; exact below_regrown _ _ _
          have HBW := hid (HBL.out.trans (hb.mono HBL.out.size))
          replace x0 := cell_below x0 hb (lt_of_cell x0)
          replace x1 := cell_below x1 hb (lt_of_cell x1)
          replace y0 := cell_below y0 hb (lt_of_cell y0)
          replace y1 := cell_below y1 hb (lt_of_cell y1)
          replace d0 := cell_below d0 hb (lt_of_cell d0)
          replace d1 := cell_below d1 hb (lt_of_cell d1)
          clear hb hW rx0 rx1 rd0 rd1 c1 c2 HBL
          go_wp2
          go_roundw
          case rel => exact ⟨k + 1, q, by omega, by omega, by go_num, rfl, by rw [HNX.out]; exact HSF.out, HBW.out⟩
          case measure => simp [intOf]; omega
        | false =>
          cases hck : (ck == 0) with
          | true =>
            have HSF : Hid (SF = q) := hid (by rw [HS.out]; rw [if_pos (.inr (beq_iff_eq.1 hck))])
            have rx0 := cell_regrown x0; have rx1 := cell_regrown x1; have rd0 := cell_regrown d0; have rd1 := cell_regrown d1
            have c1 := fun d os => C1.out (grow (redrawn wr d) os)
            have c2 := fun d os => C2.out (grow (redrawn wr d) os)
            refine wp_region_quiet_below (by kernel_rfl) (by kernel_rfl) ?_
            go_big_quiet_step (fail)
            go_big_quiet_step (fail)
            go_big_quiet_step (fail)
            go_big_quiet_step (fail)
            go_big_quiet_step (exact Calls.regrown_of (c1 _ _))
            go_big_quiet_step (fail)
            go_big_quiet_step (fail)
            go_big_quiet_step (fail)
            go_big_quiet_step (fail)
            go_big_quiet_step (fail)
            go_big_quiet_step (fail)
            go_big_quiet_step (fail)
            go_big_quiet_step (fail)
            go_big_quiet_step (fail)
            go_big_quiet_step (exact Calls.regrown_of (c2 _ _))
            go_big_quiet_step (fail)
            go_big_quiet_step (fail)
            refine wpQuiet_nil ?_
            intro W hW'
            obtain ⟨⟨dq, osq⟩, hW⟩ := hW'
            have hb : Below wr.heap.size wr W := by rw [hW]; exact below_regrown _ _ _
            have HBW := hid (HBL.out.trans (hb.mono HBL.out.size))
            replace x0 := cell_below x0 hb (lt_of_cell x0)
            replace x1 := cell_below x1 hb (lt_of_cell x1)
            replace y0 := cell_below y0 hb (lt_of_cell y0)
            replace y1 := cell_below y1 hb (lt_of_cell y1)
            replace d0 := cell_below d0 hb (lt_of_cell d0)
            replace d1 := cell_below d1 hb (lt_of_cell d1)
            clear hb hW rx0 rx1 rd0 rd1 c1 c2 HBL
            go_wp2
            go_roundw
            case rel => exact ⟨k + 1, q, by omega, by omega, by go_num, rfl, by rw [HNX.out]; exact HSF.out, HBW.out⟩
            case measure => simp [intOf]; omega
          | false =>
            have hnn : ¬ (false = true ∨ ck = 0) := by
              rintro (h | h)
              · cases h
              · rw [h] at hck; cases hck
            have HS2 := hid (HS.out.trans (if_neg hnn))
            clear HS hnn
            have rx0 := cell_regrown x0; have rx1 := cell_regrown x1; have rd0 := cell_regrown d0; have rd1 := cell_regrown d1
            have c1 := fun d os => C1.out (grow (redrawn wr d) os)
            have c2 := fun d os => C2.out (grow (redrawn wr d) os)
            refine wp_region_quiet_below (by kernel_rfl) (by kernel_rfl) ?_
            go_big_quiet_step (fail)
            go_big_quiet_step (fail)
            go_big_quiet_step (fail)
            go_big_quiet_step (fail)
            go_big_quiet_step (exact Calls.regrown_of (c1 _ _))
            go_big_quiet_step (fail)
            go_big_quiet_step (fail)
            go_big_quiet_step (fail)
            go_big_quiet_step (fail)
            go_big_quiet_step (fail)
            go_big_quiet_step (fail)
            go_big_quiet_step (fail)
            go_big_quiet_step (fail)
            go_big_quiet_step (fail)
            go_big_quiet_step (exact Calls.regrown_of (c2 _ _))
            go_big_quiet_step (fail)
            go_big_quiet_step (fail)
            refine wpQuiet_nil ?_
            intro W hW'
            obtain ⟨⟨dq, osq⟩, hW⟩ := hW'
            have hb : Below wr.heap.size wr W := by rw [hW]; exact below_regrown _ _ _
            have HBW := hid (HBL.out.trans (hb.mono HBL.out.size))
            replace x0 := cell_below x0 hb (lt_of_cell x0)
            replace x1 := cell_below x1 hb (lt_of_cell x1)
            replace y0 := cell_below y0 hb (lt_of_cell y0)
            replace y1 := cell_below y1 hb (lt_of_cell y1)
            replace d0 := cell_below d0 hb (lt_of_cell d0)
            replace d1 := cell_below d1 hb (lt_of_cell d1)
            clear hb hW rx0 rx1 rd0 rd1 c1 c2 HBL
            cases hqm : ((q : Int) == (m : Int)) with
            | true =>
              have HSF : Hid (SF = k) := hid (by rw [HS2.out, if_pos (.inl (by have := beq_iff_eq.1 hqm; omega))])
              go_wp2
              have rx0 := cell_regrown x0; have rx1 := cell_regrown x1; have rd0 := cell_regrown d0; have rd1 := cell_regrown d1; have ry0 := cell_regrown y0; have ry1 := cell_regrown y1
              have c3 := fun d os => C3.out (grow (redrawn W d) os)
              refine wp_region_quiet_below (by kernel_rfl) (by kernel_rfl) ?_
              go_big_quiet_step (fail)
              go_big_quiet_step (fail)
              go_big_quiet_step (fail)
              go_big_quiet_step (fail)
              go_big_quiet_step (fail)
              go_big_quiet_step (fail)
              go_big_quiet_step (fail)
              go_big_quiet_step (fail)
              go_big_quiet_step (fail)
              go_big_quiet_step (fail)
              go_big_quiet_step (fail)
              go_big_quiet_step (fail)
              go_big_quiet_step (fail)
              go_big_quiet_step (fail)
              go_big_quiet_step (fail)
              go_big_quiet_step (fail)
              go_big_quiet_step (fail)
              go_big_quiet_step (fail)
              go_big_quiet_step (fail)
              go_big_quiet_step (fail)
              go_big_quiet_step (fail)
              refine wpQuiet_nil ?_
              intro W2 hW2'
              obtain ⟨⟨dq2, osq2⟩, hW2⟩ := hW2'
              have hb2 : Below W.heap.size W W2 := by rw [hW2]; exact below_regrown _ _ _
              have HBV := hid (HBW.out.trans (hb2.mono HBW.out.size))
              clear hb2 hW2 rx0 rx1 rd0 rd1 ry0 ry1 c3 HBW
              go_wp2
              go_roundw
              case rel => exact ⟨k + 1, k, by omega, by omega, by go_num, rfl, by rw [HNX.out]; exact HSF.out, HBV.out⟩
              case measure => simp [intOf]; omega
            | false =>
              have hqn : q ≠ m := fun h => by rw [h] at hqm; simp at hqm
              have hwr : IntKind.i64.wrap (s) = s := by rw [IntKind.wrap_i64]; omega
              have hmu : (1) * s = s := by omega
              cases hs : decide (s < 0) with
              | true =>
                have HSF : Hid (SF = k) := hid (by rw [HS2.out, if_pos (.inr (by rw [hmu]; have := of_decide_eq_true hs; omega))])
                go_wp2
                have rx0 := cell_regrown x0; have rx1 := cell_regrown x1; have rd0 := cell_regrown d0; have rd1 := cell_regrown d1; have ry0 := cell_regrown y0; have ry1 := cell_regrown y1
                have c3 := fun d os => C3.out (grow (redrawn W d) os)
                refine wp_region_quiet_below (by kernel_rfl) (by kernel_rfl) ?_
                go_big_quiet_step (fail)
                go_big_quiet_step (fail)
                go_big_quiet_step (fail)
                go_big_quiet_step (fail)
                go_big_quiet_step (fail)
                go_big_quiet_step (fail)
                go_big_quiet_step (fail)
                go_big_quiet_step (fail)
                go_big_quiet_step (fail)
                go_big_quiet_step (fail)
                go_big_quiet_step (fail)
                go_big_quiet_step (fail)
                go_big_quiet_step (fail)
                go_big_quiet_step (fail)
                go_big_quiet_step (fail)
                go_big_quiet_step (fail)
                go_big_quiet_step (fail)
                go_big_quiet_step (exact Calls.regrown_of (c3 _ _))
                go_big_quiet_step (fail)
                go_big_quiet_step (fail)
                go_big_quiet_step (fail)
                refine wpQuiet_nil ?_
                intro W2 hW2'
                obtain ⟨⟨dq2, osq2⟩, hW2⟩ := hW2'
                have hb2 : Below W.heap.size W W2 := by rw [hW2]; exact below_regrown _ _ _
                have HBV := hid (HBW.out.trans (hb2.mono HBW.out.size))
                clear hb2 hW2 rx0 rx1 rd0 rd1 ry0 ry1 c3 HBW
                go_wp2
                go_roundw
                case rel => exact ⟨k + 1, k, by omega, by omega, by go_num, rfl, by rw [HNX.out]; exact HSF.out, HBV.out⟩
                case measure => simp [intOf]; omega
              | false =>
                have HSF : Hid (SF = q) := hid (by rw [HS2.out, if_neg (by rw [hmu]; have := of_decide_eq_false hs; omega)])
                go_wp2
                have rx0 := cell_regrown x0; have rx1 := cell_regrown x1; have rd0 := cell_regrown d0; have rd1 := cell_regrown d1; have ry0 := cell_regrown y0; have ry1 := cell_regrown y1
                have c3 := fun d os => C3.out (grow (redrawn W d) os)
                refine wp_region_quiet_below (by kernel_rfl) (by kernel_rfl) ?_
                go_big_quiet_step (fail)
                go_big_quiet_step (fail)
                go_big_quiet_step (fail)
                go_big_quiet_step (fail)
                go_big_quiet_step (fail)
                go_big_quiet_step (fail)
                go_big_quiet_step (fail)
                go_big_quiet_step (fail)
                go_big_quiet_step (fail)
                go_big_quiet_step (fail)
                go_big_quiet_step (fail)
                go_big_quiet_step (fail)
                go_big_quiet_step (fail)
                go_big_quiet_step (fail)
                go_big_quiet_step (fail)
                go_big_quiet_step (fail)
                go_big_quiet_step (fail)
                go_big_quiet_step (exact Calls.regrown_of (c3 _ _))
                go_big_quiet_step (fail)
                go_big_quiet_step (fail)
                go_big_quiet_step (fail)
                refine wpQuiet_nil ?_
                intro W2 hW2'
                obtain ⟨⟨dq2, osq2⟩, hW2⟩ := hW2'
                have hb2 : Below W.heap.size W W2 := by rw [hW2]; exact below_regrown _ _ _
                have HBV := hid (HBW.out.trans (hb2.mono HBW.out.size))
                clear hb2 hW2 rx0 rx1 rd0 rd1 ry0 ry1 c3 HBW
                go_wp2
                go_roundw
                case rel => exact ⟨k + 1, q, by omega, by omega, by go_num, rfl, by rw [HNX.out]; exact HSF.out, HBV.out⟩
                case measure => simp [intOf]; omega
      · have hkI : ¬ (k : Int) < (n : Int) := by omega
        clear hbr
        go_wp2
        go_ret
        refine ⟨?_, HBL.out⟩
        have hkn : k = n := by omega
        rw [HV.out, HRS.out, ← hkn, HF.out]
        rfl



set_option maxHeartbeats 3200000 in
theorem refStepDown_any (v : Value) (ps : List Pp) (i : Int) (w : World) (hp : Pts w v ps) (hl : ps.length ≤ 1000000) :
    Calls Try.prog 39 #[v, .int .i64 i, .int .i64 (-1)] w fun e w' => e = .returned (.int .i64 (stepD ps i (-1))) ∧ Below w.heap.size w w' := by
  obtain ⟨a, cap, rfl, hx⟩ := hp
  have HR := hid (show stepD ps i (-1) = if i < 0 ∨ (ps.length : Int) ≤ i ∨ noneD (ps.getD i.toNat (0, 0)) = true then i else (stepN ps i.toNat (-1) : Nat) from rfl)
  have HX := hid hx
  obtain ⟨n, hn⟩ : ∃ n, ps.length = n := ⟨_, rfl⟩
  have HN := hid hn
  rw [hn] at hl ⊢
  clear hx hn
  by_cases h0 : i < 0
  · have HV : Hid (stepD ps i (-1) = i) := hid (by rw [HR.out, if_pos (.inl h0)])
    generalize stepD ps i (-1) = RR at *
    clear HR
    go_enter Try.func39, Try.ntmps39
    go_wp2
    go_ret
    exact ⟨by rw [HV.out]; rfl, Below.refl _ _⟩
  by_cases h1 : (n : Int) ≤ i
  · have HV : Hid (stepD ps i (-1) = i) := hid (by rw [HR.out, if_pos (.inr (.inl (by rw [HN.out]; exact h1)))])
    generalize stepD ps i (-1) = RR at *
    clear HR
    go_enter Try.func39, Try.ntmps39
    go_wp2
    go_ret
    exact ⟨by rw [HV.out]; rfl, Below.refl _ _⟩
  obtain ⟨m, rfl⟩ : ∃ m : Nat, i = m := ⟨i.toNat, by omega⟩
  have hm : m < n := by omega
  obtain ⟨b, off, rfl, hc⟩ := HX.out (by have := HN.out; omega)
  have hmp : m < ps.length := by have := HN.out; omega
  obtain ⟨z0, z1⟩ := hc m ps[m] (by simp [hmp])
  have hbb := lt_of_cell z0
  have HD := hid (getD_of hmp)
  have HC := hid hc
  clear hc HX
  rw [show ((m : Int)).toNat = m from rfl, HD.out] at HR
  obtain ⟨D, hD⟩ : ∃ D, ps[m] = D := ⟨_, rfl⟩
  have HDD := hid (HD.out.trans hD)
  rw [hD] at HR z0 z1
  clear HD
  obtain ⟨dx, dy⟩ := D
  dsimp only at z0 z1
  have H1 := hid (refNone_any dx dy w)
  have HRS := hid (show stepN ps m (-1) = (List.range n).foldl (stepF ps m (dx, dy) (-1)) m by unfold stepN; rw [HN.out, HDD.out])
  have hnb : (decide ((m : Int) < 0)) = false := by simp
  have hnc : (decide ((n : Int) ≤ (m : Int))) = false := by simp; omega
  cases hnd : noneD (dx, dy) with
  | true =>
    have HV : Hid (stepD ps m (-1) = m) := hid (by rw [HR.out, if_pos (.inr (.inr hnd))])
    rw [hnd] at H1
    generalize stepD ps m (-1) = RR at *
    clear HR HRS hD
    go_enter Try.func39, Try.ntmps39
    go_wp2_with (go_at_call 32; refine H1.out.mono ?_; rintro e w1 ⟨rfl, hb1⟩; have HB1 := hid hb1; clear hb1 H1)
    go_ret
    exact ⟨by rw [HV.out]; rfl, HB1.out⟩
  | false =>
    have HV : Hid (stepD ps m (-1) = (stepN ps m (-1) : Nat)) := hid (by rw [HR.out, if_neg (by rw [hnd, HN.out]; rintro (h | h | h) <;> first | omega | cases h)])
    rw [hnd] at H1
    have HND := hid hnd
    generalize stepD ps m (-1) = RR at *
    clear HR hD hnd
    go_enter Try.func39, Try.ntmps39
    go_wp2_with (go_at_call 32; refine H1.out.mono ?_; rintro e w1 ⟨rfl, hb1⟩; have HB1 := hid hb1; clear hb1 H1)
    clear z0 z1
    go_loopw [7, 8] (fun bv kv wr => ∃ (k q : Nat), k ≤ n ∧ q < n ∧ kv = .int .i64 k ∧ bv = .int .i64 q ∧ (List.range k).foldl (stepF ps m (dx, dy) (-1)) m = q ∧ Below w.heap.size w wr) (fun _ kv _ => n - (intOf kv).toNat)
    case atStart => exact ⟨0, m, by omega, hm, rfl, rfl, rfl, HB1.out⟩
    case round =>
      obtain ⟨k, q, hk, hq, rfl, rfl, hfold, hbr⟩ := hrel
      have HF := hid hfold
      have HBL := hid hbr
      clear hfold HB1
      by_cases hlt : k < n
      · have hkI : (k : Int) < (n : Int) := by omega
        have hmI : (m : Int) < (n : Int) := by omega
        have hqI : (q : Int) < (n : Int) := by omega
        have hkp : k < ps.length := by have := HN.out; omega
        have hqp : q < ps.length := by have := HN.out; omega
        obtain ⟨x0, x1⟩ := HC.out k ps[k] (by simp [hkp])
        obtain ⟨y0, y1⟩ := HC.out q ps[q] (by simp [hqp])
        obtain ⟨d0, d1⟩ := HC.out m (dx, dy) (by have := HDD.out; rw [getD_of hmp] at this; simp [hmp, this])
        have HPK := hid (getD_of hkp)
        have HPQ := hid (getD_of hqp)
        generalize ps[k] = PK at *
        generalize ps[q] = PQ at *
        obtain ⟨kx, ky⟩ := PK
        obtain ⟨qx, qy⟩ := PQ
        dsimp only at x0 x1 y0 y1 d0 d1
        replace x0 := cell_below x0 hbr hbb
        replace x1 := cell_below x1 hbr hbb
        replace y0 := cell_below y0 hbr hbb
        replace y1 := cell_below y1 hbr hbb
        replace d0 := cell_below d0 hbr hbb
        replace d1 := cell_below d1 hbr hbb
        have HS := hid (show stepF ps m (dx, dy) (-1) q k = if noneD (kx, ky) = true ∨ cmpD (kx, ky) (dx, dy) = 0 then q else if q = m ∨ (-1) * afterD (dx, dy) (kx, ky) (qx, qy) < 0 then k else q by unfold stepF; rw [HPK.out, HPQ.out])
        have HNX := hid (show (List.range (k + 1)).foldl (stepF ps m (dx, dy) (-1)) m = stepF ps m (dx, dy) (-1) q k by rw [range_foldl, HF.out])
        have C1 := hid (fun W => refNone_any kx ky W)
        have C2 := hid (fun W => refCmp_any kx ky dx dy W)
        have C3 := hid (fun W => refAfter_any dx dy kx ky qx qy W)
        have hai := afterD_in (dx, dy) (kx, ky) (qx, qy)
        generalize stepF ps m (dx, dy) (-1) q k = SF at *
        generalize noneD (kx, ky) = nk at *
        generalize cmpD (kx, ky) (dx, dy) = ck at *
        generalize afterD (dx, dy) (kx, ky) (qx, qy) = s at *
        clear hbr
        go_wp2
        cases nk with
        | true =>
          have HSF : Hid (SF = q) := hid (by rw [HS.out]; rw [if_pos (.inl rfl)])
          have rx0 := cell_regrown x0; have rx1 := cell_regrown x1; have rd0 := cell_regrown d0; have rd1 := cell_regrown d1
          have c1 := fun d os => C1.out (grow (redrawn wr d) os)
          have c2 := fun d os => C2.out (grow (redrawn wr d) os)
          refine wp_region_quiet_below (by kernel_rfl) (by kernel_rfl) ?_
          go_big_quiet_step (fail)
          go_big_quiet_step (fail)
          go_big_quiet_step (fail)
          go_big_quiet_step (fail)
          go_big_quiet_step (exact Calls.regrown_of (c1 _ _))
          go_big_quiet_step (fail)
          go_big_quiet_step (fail)
          go_big_quiet_step (fail)
          go_big_quiet_step (fail)
          go_big_quiet_step (fail)
          go_big_quiet_step (fail)
          go_big_quiet_step (fail)
          go_big_quiet_step (fail)
          go_big_quiet_step (fail)
          go_big_quiet_step (fail)
          go_big_quiet_step (fail)
          go_big_quiet_step (fail)
          refine wpQuiet_nil ?_
          intro W hW'
          obtain ⟨⟨dq, osq⟩, hW⟩ := hW'
          have hb : Below wr.heap.size wr W := by rw [hW]; exact below_regrown _ _ _
          have HBW := hid (HBL.out.trans (hb.mono HBL.out.size))
          replace x0 := cell_below x0 hb (lt_of_cell x0)
          replace x1 := cell_below x1 hb (lt_of_cell x1)
          replace y0 := cell_below y0 hb (lt_of_cell y0)
          replace y1 := cell_below y1 hb (lt_of_cell y1)
          replace d0 := cell_below d0 hb (lt_of_cell d0)
          replace d1 := cell_below d1 hb (lt_of_cell d1)
          clear hb hW rx0 rx1 rd0 rd1 c1 c2 HBL
          go_wp2
          go_roundw
          case rel => exact ⟨k + 1, q, by omega, by omega, by go_num, rfl, by rw [HNX.out]; exact HSF.out, HBW.out⟩
          case measure => simp [intOf]; omega
        | false =>
          cases hck : (ck == 0) with
          | true =>
            have HSF : Hid (SF = q) := hid (by rw [HS.out]; rw [if_pos (.inr (beq_iff_eq.1 hck))])
            have rx0 := cell_regrown x0; have rx1 := cell_regrown x1; have rd0 := cell_regrown d0; have rd1 := cell_regrown d1
            have c1 := fun d os => C1.out (grow (redrawn wr d) os)
            have c2 := fun d os => C2.out (grow (redrawn wr d) os)
            refine wp_region_quiet_below (by kernel_rfl) (by kernel_rfl) ?_
            go_big_quiet_step (fail)
            go_big_quiet_step (fail)
            go_big_quiet_step (fail)
            go_big_quiet_step (fail)
            go_big_quiet_step (exact Calls.regrown_of (c1 _ _))
            go_big_quiet_step (fail)
            go_big_quiet_step (fail)
            go_big_quiet_step (fail)
            go_big_quiet_step (fail)
            go_big_quiet_step (fail)
            go_big_quiet_step (fail)
            go_big_quiet_step (fail)
            go_big_quiet_step (fail)
            go_big_quiet_step (fail)
            go_big_quiet_step (exact Calls.regrown_of (c2 _ _))
            go_big_quiet_step (fail)
            go_big_quiet_step (fail)
            refine wpQuiet_nil ?_
            intro W hW'
            obtain ⟨⟨dq, osq⟩, hW⟩ := hW'
            have hb : Below wr.heap.size wr W := by rw [hW]; exact below_regrown _ _ _
            have HBW := hid (HBL.out.trans (hb.mono HBL.out.size))
            replace x0 := cell_below x0 hb (lt_of_cell x0)
            replace x1 := cell_below x1 hb (lt_of_cell x1)
            replace y0 := cell_below y0 hb (lt_of_cell y0)
            replace y1 := cell_below y1 hb (lt_of_cell y1)
            replace d0 := cell_below d0 hb (lt_of_cell d0)
            replace d1 := cell_below d1 hb (lt_of_cell d1)
            clear hb hW rx0 rx1 rd0 rd1 c1 c2 HBL
            go_wp2
            go_roundw
            case rel => exact ⟨k + 1, q, by omega, by omega, by go_num, rfl, by rw [HNX.out]; exact HSF.out, HBW.out⟩
            case measure => simp [intOf]; omega
          | false =>
            have hnn : ¬ (false = true ∨ ck = 0) := by
              rintro (h | h)
              · cases h
              · rw [h] at hck; cases hck
            have HS2 := hid (HS.out.trans (if_neg hnn))
            clear HS hnn
            have rx0 := cell_regrown x0; have rx1 := cell_regrown x1; have rd0 := cell_regrown d0; have rd1 := cell_regrown d1
            have c1 := fun d os => C1.out (grow (redrawn wr d) os)
            have c2 := fun d os => C2.out (grow (redrawn wr d) os)
            refine wp_region_quiet_below (by kernel_rfl) (by kernel_rfl) ?_
            go_big_quiet_step (fail)
            go_big_quiet_step (fail)
            go_big_quiet_step (fail)
            go_big_quiet_step (fail)
            go_big_quiet_step (exact Calls.regrown_of (c1 _ _))
            go_big_quiet_step (fail)
            go_big_quiet_step (fail)
            go_big_quiet_step (fail)
            go_big_quiet_step (fail)
            go_big_quiet_step (fail)
            go_big_quiet_step (fail)
            go_big_quiet_step (fail)
            go_big_quiet_step (fail)
            go_big_quiet_step (fail)
            go_big_quiet_step (exact Calls.regrown_of (c2 _ _))
            go_big_quiet_step (fail)
            go_big_quiet_step (fail)
            refine wpQuiet_nil ?_
            intro W hW'
            obtain ⟨⟨dq, osq⟩, hW⟩ := hW'
            have hb : Below wr.heap.size wr W := by rw [hW]; exact below_regrown _ _ _
            have HBW := hid (HBL.out.trans (hb.mono HBL.out.size))
            replace x0 := cell_below x0 hb (lt_of_cell x0)
            replace x1 := cell_below x1 hb (lt_of_cell x1)
            replace y0 := cell_below y0 hb (lt_of_cell y0)
            replace y1 := cell_below y1 hb (lt_of_cell y1)
            replace d0 := cell_below d0 hb (lt_of_cell d0)
            replace d1 := cell_below d1 hb (lt_of_cell d1)
            clear hb hW rx0 rx1 rd0 rd1 c1 c2 HBL
            cases hqm : ((q : Int) == (m : Int)) with
            | true =>
              have HSF : Hid (SF = k) := hid (by rw [HS2.out, if_pos (.inl (by have := beq_iff_eq.1 hqm; omega))])
              go_wp2
              have rx0 := cell_regrown x0; have rx1 := cell_regrown x1; have rd0 := cell_regrown d0; have rd1 := cell_regrown d1; have ry0 := cell_regrown y0; have ry1 := cell_regrown y1
              have c3 := fun d os => C3.out (grow (redrawn W d) os)
              refine wp_region_quiet_below (by kernel_rfl) (by kernel_rfl) ?_
              go_big_quiet_step (fail)
              go_big_quiet_step (fail)
              go_big_quiet_step (fail)
              go_big_quiet_step (fail)
              go_big_quiet_step (fail)
              go_big_quiet_step (fail)
              go_big_quiet_step (fail)
              go_big_quiet_step (fail)
              go_big_quiet_step (fail)
              go_big_quiet_step (fail)
              go_big_quiet_step (fail)
              go_big_quiet_step (fail)
              go_big_quiet_step (fail)
              go_big_quiet_step (fail)
              go_big_quiet_step (fail)
              go_big_quiet_step (fail)
              go_big_quiet_step (fail)
              go_big_quiet_step (fail)
              go_big_quiet_step (fail)
              go_big_quiet_step (fail)
              go_big_quiet_step (fail)
              refine wpQuiet_nil ?_
              intro W2 hW2'
              obtain ⟨⟨dq2, osq2⟩, hW2⟩ := hW2'
              have hb2 : Below W.heap.size W W2 := by rw [hW2]; exact below_regrown _ _ _
              have HBV := hid (HBW.out.trans (hb2.mono HBW.out.size))
              clear hb2 hW2 rx0 rx1 rd0 rd1 ry0 ry1 c3 HBW
              go_wp2
              go_roundw
              case rel => exact ⟨k + 1, k, by omega, by omega, by go_num, rfl, by rw [HNX.out]; exact HSF.out, HBV.out⟩
              case measure => simp [intOf]; omega
            | false =>
              have hqn : q ≠ m := fun h => by rw [h] at hqm; simp at hqm
              have hwr : IntKind.i64.wrap (-s) = -s := by rw [IntKind.wrap_i64]; omega
              have hmu : (-1) * s = -s := by omega
              cases hs : decide (0 < s) with
              | true =>
                have HSF : Hid (SF = k) := hid (by rw [HS2.out, if_pos (.inr (by rw [hmu]; have := of_decide_eq_true hs; omega))])
                go_wp2
                have rx0 := cell_regrown x0; have rx1 := cell_regrown x1; have rd0 := cell_regrown d0; have rd1 := cell_regrown d1; have ry0 := cell_regrown y0; have ry1 := cell_regrown y1
                have c3 := fun d os => C3.out (grow (redrawn W d) os)
                refine wp_region_quiet_below (by kernel_rfl) (by kernel_rfl) ?_
                go_big_quiet_step (fail)
                go_big_quiet_step (fail)
                go_big_quiet_step (fail)
                go_big_quiet_step (fail)
                go_big_quiet_step (fail)
                go_big_quiet_step (fail)
                go_big_quiet_step (fail)
                go_big_quiet_step (fail)
                go_big_quiet_step (fail)
                go_big_quiet_step (fail)
                go_big_quiet_step (fail)
                go_big_quiet_step (fail)
                go_big_quiet_step (fail)
                go_big_quiet_step (fail)
                go_big_quiet_step (fail)
                go_big_quiet_step (fail)
                go_big_quiet_step (fail)
                go_big_quiet_step (exact Calls.regrown_of (c3 _ _))
                go_big_quiet_step (fail)
                go_big_quiet_step (fail)
                go_big_quiet_step (fail)
                refine wpQuiet_nil ?_
                intro W2 hW2'
                obtain ⟨⟨dq2, osq2⟩, hW2⟩ := hW2'
                have hb2 : Below W.heap.size W W2 := by rw [hW2]; exact below_regrown _ _ _
                have HBV := hid (HBW.out.trans (hb2.mono HBW.out.size))
                clear hb2 hW2 rx0 rx1 rd0 rd1 ry0 ry1 c3 HBW
                go_wp2
                go_roundw
                case rel => exact ⟨k + 1, k, by omega, by omega, by go_num, rfl, by rw [HNX.out]; exact HSF.out, HBV.out⟩
                case measure => simp [intOf]; omega
              | false =>
                have HSF : Hid (SF = q) := hid (by rw [HS2.out, if_neg (by rw [hmu]; have := of_decide_eq_false hs; omega)])
                go_wp2
                have rx0 := cell_regrown x0; have rx1 := cell_regrown x1; have rd0 := cell_regrown d0; have rd1 := cell_regrown d1; have ry0 := cell_regrown y0; have ry1 := cell_regrown y1
                have c3 := fun d os => C3.out (grow (redrawn W d) os)
                refine wp_region_quiet_below (by kernel_rfl) (by kernel_rfl) ?_
                go_big_quiet_step (fail)
                go_big_quiet_step (fail)
                go_big_quiet_step (fail)
                go_big_quiet_step (fail)
                go_big_quiet_step (fail)
                go_big_quiet_step (fail)
                go_big_quiet_step (fail)
                go_big_quiet_step (fail)
                go_big_quiet_step (fail)
                go_big_quiet_step (fail)
                go_big_quiet_step (fail)
                go_big_quiet_step (fail)
                go_big_quiet_step (fail)
                go_big_quiet_step (fail)
                go_big_quiet_step (fail)
                go_big_quiet_step (fail)
                go_big_quiet_step (fail)
                go_big_quiet_step (exact Calls.regrown_of (c3 _ _))
                go_big_quiet_step (fail)
                go_big_quiet_step (fail)
                go_big_quiet_step (fail)
                refine wpQuiet_nil ?_
                intro W2 hW2'
                obtain ⟨⟨dq2, osq2⟩, hW2⟩ := hW2'
                have hb2 : Below W.heap.size W W2 := by rw [hW2]; exact below_regrown _ _ _
                have HBV := hid (HBW.out.trans (hb2.mono HBW.out.size))
                clear hb2 hW2 rx0 rx1 rd0 rd1 ry0 ry1 c3 HBW
                go_wp2
                go_roundw
                case rel => exact ⟨k + 1, q, by omega, by omega, by go_num, rfl, by rw [HNX.out]; exact HSF.out, HBV.out⟩
                case measure => simp [intOf]; omega
      · have hkI : ¬ (k : Int) < (n : Int) := by omega
        clear hbr
        go_wp2
        go_ret
        refine ⟨?_, HBL.out⟩
        have hkn : k = n := by omega
        rw [HV.out, HRS.out, ← hkn, HF.out]
        rfl



theorem refNext_any (v : Value) (ps : List Pp) (i : Int) (w : World) (hp : Pts w v ps) (hl : ps.length ≤ 1000000) :
    Calls Try.prog 22 #[v, .int .i64 i] w fun e w' => e = .returned (.int .i64 (stepD ps i (1))) ∧ Below w.heap.size w w' := by
  have HC := hid (refStepUp_any v ps i w hp hl)
  generalize stepD ps i (1) = R at *
  clear hp
  go_enter Try.func22, Try.ntmps22
  go_wp2_with (go_at_call 39; refine HC.out.mono ?_; rintro e w1 ⟨rfl, hb1⟩; have HB1 := hid hb1; clear hb1 HC)
  go_ret
  exact ⟨rfl, HB1.out⟩



theorem refPrev_any (v : Value) (ps : List Pp) (i : Int) (w : World) (hp : Pts w v ps) (hl : ps.length ≤ 1000000) :
    Calls Try.prog 23 #[v, .int .i64 i] w fun e w' => e = .returned (.int .i64 (stepD ps i (-1))) ∧ Below w.heap.size w w' := by
  have HC := hid (refStepDown_any v ps i w hp hl)
  generalize stepD ps i (-1) = R at *
  clear hp
  go_enter Try.func23, Try.ntmps23
  go_wp2_with (go_at_call 39; refine HC.out.mono ?_; rintro e w1 ⟨rfl, hb1⟩; have HB1 := hid hb1; clear hb1 HC)
  go_ret
  exact ⟨rfl, HB1.out⟩

end Go.Proofs.Ytccbjohiaboipaa
