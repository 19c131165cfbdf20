/-
  Layer 17: slices.Values of numbers; AppendSeq and Collect of them.
-/
import Derived.Test.YtkdnkmheidbfdaaGreatTSortT
import Derived.Shelf.SortM.Plain
import Derived.Shelf.SortM.SortNone
import Derived.Sort.OwnSortedInts
import Derived.Test.YtkdnkmheidbfdaaGreatMK
namespace Go.Proofs.YtkdnkmheidbfdaaGreat
open Go.RowKit Go.Shelf Go.Sort

attribute [local go_sem] Oper.semAt_some

/-- Numbers in memory, from an offset on. -/
def IAts (w : World) (b off : Nat) (ys : List Int) : Prop := ∀ (k : Nat) (z : Int), ys[k]? = some z → w.cell? ⟨b, off + k, none⟩ = some (.int .i64 z)
theorem IAts.below {w w' : World} {b off B : Nat} {ys : List Int} (h : IAts w b off ys) (hb : Below B w w') (hB : b < B) : IAts w' b off ys := fun k z hz => cell_below (h k z hz) hb hB
theorem Nums.ats {w : World} {v : Value} {zs : List Int} (h : Nums w v zs) : ∃ b off ao cap, v = .slice ao zs.length cap ∧ (1 ≤ zs.length → ao = some ⟨b, off, none⟩ ∧ b < w.heap.size) ∧ IAts w b off zs := by
  obtain ⟨ao, cap, rfl, h1⟩ := h
  by_cases hl : 1 ≤ zs.length
  · obtain ⟨b, off, rfl, h2⟩ := h1 hl
    have hk0 : zs[0]? = some (zs[0]'(by omega)) := List.getElem?_eq_getElem _
    exact ⟨b, off, _, cap, rfl, fun _ => ⟨rfl, lt_of_cell (h2 0 _ hk0)⟩, h2⟩
  · refine ⟨0, 0, ao, cap, rfl, fun h => absurd h hl, fun k z hz => ?_⟩
    have := (List.getElem?_eq_some_iff.1 hz).1
    omega
/-- The number at a place. -/
def iAt (ys : List Int) (k : Nat) : Int := ys.getD k 0
theorem iAt_all (ys : List Int) : (List.range ys.length).map (iAt ys) = ys := by
  refine List.ext_getElem? fun k => ?_
  rw [List.getElem?_map]
  by_cases hk : k < ys.length
  · rw [List.getElem?_range hk, List.getElem?_eq_getElem hk]
    simp [iAt, List.getD_eq_getElem?_getD, List.getElem?_eq_getElem hk]
  · rw [List.getElem?_eq_none (by rw [List.length_range]; omega), List.getElem?_eq_none (by omega)]
    rfl

set_option maxRecDepth 100000 in
set_option maxHeartbeats 1600000 in
theorem valuesZ_any (ao : Option Addr) (n cap : Nat) (w : World) :
    Calls Tryz.prog 33 #[.slice ao n cap] w fun e w' => e = .returned (.func (.func 68) #[] #[.pointer (some ⟨w.heap.size, 0, none⟩)]) ∧ w' = w.alloc (.cells #[.slice ao n cap] 47) := by
  go_enter Tryz.func33, Tryz.ntmps33
  go_wp2
  go_ret
  exact ⟨rfl, rfl⟩

set_option maxRecDepth 100000 in
set_option maxHeartbeats 3200000 in
theorem valuesZ_in (m : Nat) (hm : 2 ≤ m) (l Bx B b off n cap : Nat) (ao : Option Addr) (ys : List Int) (hn : ys.length = n) (hl : n ≤ 100000) (hao : 1 ≤ n → ao = some ⟨b, off, none⟩ ∧ b < B) (J Jx : List (Pl n) → World → Prop) (W : World)
    (hY : ∀ pre x W1, J pre W1 → pre.length < n → YieldAt Fence.wide (m - 1) Tryz.prog l #[.int .i64 (iAt ys x.1)] W1 fun e W' =>
      (e = .returned (.bool true) ∧ J (pre ++ [x]) W' ∧ Below B W1 W') ∨ (e = .returned (.bool false) ∧ Jx (pre ++ [x]) W'))
    (hx : W.cell? ⟨Bx, 0, none⟩ = some (.slice ao n cap)) (hc : IAts W b off ys) (h0 : J [] W) :
    CallsIn Fence.wide m Tryz.prog 68 #[.func (.yield l) #[] #[], .pointer (some ⟨Bx, 0, none⟩)] W fun e W' => (∃ v, e = .returned v) ∧
      ((∃ zs, zs.map (·.1) = List.range n ∧ J zs W') ∨ (∃ pre, True ∧ Jx pre W')) := by
  have hfn : ∀ k, Fence.wide.fn k := fun _ => trivial
  have HC := hid hc
  have HN := hid hn
  have HAO := hid hao
  clear hc hn hao
  refine callsIn_of_wp Tryz.func68 rfl trivial ?_ rfl
  simp only [Tryz.ntmps68, List.size_toArray, List.length_cons, List.length_nil, Nat.reduceAdd, Nat.reduceSub, Array.replicate_succ, Array.replicate_zero, List.push_toArray, List.append_toArray, List.nil_append, List.cons_append]
  gi_wp2
  gi_loopw [4, 7] (fun _ i wr => ∃ (k : Nat) (pre : List (Pl n)), k ≤ n ∧ i = .int .i64 k ∧ pre.map (·.1) = List.range k ∧ J pre wr ∧ Below B W wr) (fun _ i _ => n - (intOf i).toNat)
  case atStart => exact ⟨0, [], Nat.zero_le _, rfl, rfl, h0, Below.refl _ _⟩
  case round =>
    obtain ⟨k, pre, hk, rfl, hpre, hJs, hbr⟩ := hrel
    by_cases hlt : k < n
    · have hprel : pre.length = k := by
        have := congrArg List.length hpre
        rwa [List.length_map, List.length_range] at this
      have hltI : (k : Int) < (n : Int) := by omega
      obtain ⟨rfl, hbB⟩ := HAO.out (by omega)
      obtain ⟨x, hxk⟩ : ∃ x, ys[k]? = some x := ⟨ys[k]'(by have := HN.out; omega), by rw [List.getElem?_eq_getElem]⟩
      have a0 := (HC.out.below hbr hbB) k x hxk
      have hat : iAt ys k = x := by simp [iAt, List.getD_eq_getElem?_getD, hxk]
      have hY1 := hY pre ⟨k, hlt⟩ _ hJs (by omega)
      dsimp only at hY1
      rw [hat] at hY1
      obtain ⟨fn, tmps, assign, body, hy, hR⟩ := hY1
      have HP := hid hpre
      have HR := hid hR
      have HBR := hid hbr
      clear hpre hprel hR hJs hbr hat hxk
      gi_wp2
      refine ⟨fun _ => by omega, HR.out.mono ?_⟩
      rintro e W3 (⟨rfl, hJ3, hb3⟩ | ⟨rfl, hJx3⟩)
      · clear hy
        gi_wp2
        go_roundw
        case rel =>
          refine ⟨k + 1, _, by omega, by go_num, ?_, hJ3, HBR.out.trans hb3⟩
          rw [List.map_append, HP.out, List.range_succ]
          rfl
        case measure => simp [intOf]; omega
      · clear hy
        gi_wp2
        refine bodyPost_ret (results_none rfl _ _ _) rfl ?_
        exact ⟨⟨_, rfl⟩, .inr ⟨_, trivial, hJx3⟩⟩
    · obtain rfl : k = n := by omega
      have HF := hid hpre
      clear hpre
      gi_wp2
      go_end0
      exact ⟨⟨_, rfl⟩, .inl ⟨pre, HF.out, hJs⟩⟩
theorem valuesZ_stops (m : Nat) (hm : 2 ≤ m) (Bx B b off n cap : Nat) (ao : Option Addr) (ys : List Int) (hn : ys.length = n) (hl : n ≤ 100000) (hao : 1 ≤ n → ao = some ⟨b, off, none⟩ ∧ b < B) (w : World) (hBW : B ≤ w.heap.size) (hx : w.cell? ⟨Bx, 0, none⟩ = some (.slice ao n cap)) (hc : IAts w b off ys) :
    SeqStopsK Fence.wide m Tryz.prog 68 #[.pointer (some ⟨Bx, 0, none⟩)] (fun x : Pl n => #[.int .i64 (iAt ys x.1)]) (Below B) (fun zs => zs.map (·.1) = List.range n) (fun _ => True) n w := fun l J Jx W hW _ _ hY h0 =>
  valuesZ_in m hm l Bx B b off n cap ao ys hn hl hao J Jx W hY (cell_below hx hW (lt_of_cell hx)) (by
    by_cases h1 : 1 ≤ n
    · exact hc.below hW (Nat.lt_of_lt_of_le (hao h1).2 hBW)
    · intro k z hz
      have := (List.getElem?_eq_some_iff.1 hz).1
      omega) h0

set_option maxRecDepth 100000 in
set_option maxHeartbeats 3200000 in
theorem appendSeqZ_in (Bx b off n cap : Nat) (ao : Option Addr) (ys : List Int) (hn : ys.length = n) (hl : n ≤ 100000) (w : World) (hao : 1 ≤ n → ao = some ⟨b, off, none⟩ ∧ b < w.heap.size) (hx : w.cell? ⟨Bx, 0, none⟩ = some (.slice ao n cap)) (hc : IAts w b off ys) :
    CallsIn Fence.wide 12 Tryz.prog 103 #[.slice none 0 0, .func (.func 68) #[] #[.pointer (some ⟨Bx, 0, none⟩)]] w fun e w' => ∃ v, e = .returned v ∧ NRow w' w.heap.size v ys ∧ Below w.heap.size w w' := by
  have hfn : ∀ k, Fence.wide.fn k := fun _ => trivial
  refine callsIn_of_wp_marks Tryz.func103 rfl trivial ?_ rfl
  simp only [Tryz.ntmps103, List.size_toArray, List.length_cons, List.length_nil, Nat.reduceAdd, Nat.reduceSub, Array.replicate_succ, Array.replicate_zero, List.push_toArray, List.append_toArray, List.nil_append, List.cons_append]
  gi_wp2
  obtain ⟨W0, hW0⟩ : ∃ W0, w.alloc (.cells #[.slice none 0 0] 47) = W0 := ⟨_, rfl⟩
  have hsz : W0.heap.size = w.heap.size + 1 := by rw [← hW0]; simp
  have hF0 : Below w.heap.size w W0 := by rw [← hW0]; exact (Below.refl _ w).alloc (Nat.le_refl _) _
  have hb0 : Boxed W0 w.heap.size 47 (.slice none 0 0) := by rw [← hW0]; exact Boxed.new w _ _
  have h0 : ApI w (.slice none 0 0) [] W0 := ⟨hb0, NRow.nil _ _, hF0⟩
  have hbx0 := cell_below hx hF0 (lt_of_cell hx)
  have hc0 : IAts W0 b off ys := by
    by_cases h1 : 1 ≤ n
    · exact hc.below hF0 (hao h1).2
    · intro k z hz
      have := (List.getElem?_eq_some_iff.1 hz).1
      omega
  rw [hW0]
  clear hW0 hb0
  refine wpIn_rangeFunc_ownG rfl (by decide) (gf := 68) (lb := #[.pointer (some ⟨Bx, 0, none⟩)]) rfl trivial (enters_of Tryz.func68 (by kernel_rfl) rfl)
    (valuesZ_stops (12 - 1) (by decide) Bx w.heap.size b off n cap ao ys hn hl hao W0 (by omega) hbx0 hc0) (fun h k => Below.trans h k) (fun W l o o' h1 h2 _ _ => (Below.refl _ W).grown (grownBy_putObj' W l o') (by have := lt_of_heap h2; omega) (fun k e => by injection e with e; omega)) (Below.refl _ _) (fun _ => rfl)
    (fun pre W => ∃ v, ApI w v (pre.map fun x => iAt ys x.1) W)
    (fun _ _ _ => False) ?hI ?hIx ?h0
    (fun x => { tmps := #[.slice none 0 0, .func (.func 68) #[] #[.pointer (some ⟨Bx, 0, none⟩)], .pointer (some ⟨w.heap.size, 0, none⟩), undef, .slice none 0 0, .int .i64 (iAt ys x.1), .func (.func 68) #[] #[.pointer (some ⟨Bx, 0, none⟩)], .int .i64 (iAt ys x.1), undef, undef, undef, undef, undef], defers := [] }) ?assign ?body ?done ?stop
  case hI =>
    rintro s A B' row ⟨v, hs⟩ hg' hrow
    exact ⟨v, hs.turn hg' (fun r e => ⟨by have := (hrow r e).1; omega, (hrow r e).2⟩)⟩
  case hIx =>
    rintro c s A B' row h
    exact h.elim
  case h0 => exact ⟨_, h0⟩
  case stop => exact fun _ _ _ _ _ _ h => h.elim
  case assign =>
    intro l x W K hK
    gi_wp2
    exact hK
  case body =>
    rintro l pre x W ⟨v, hI⟩ hlt
    obtain ⟨p, hp⟩ : ∃ p, iAt ys x.1 = p := ⟨_, rfl⟩
    rw [hp]
    have hlen : (pre.map fun x => iAt ys x.1).length = pre.length := List.length_map ..
    obtain ⟨ao', cap', W1, hrun, hrow1, hgr⟩ := nrow_snocB hI.row hI.below.size (by rw [hlen]; omega) p
    obtain ⟨q1, q2, q3, q4, q5⟩ := hI.box.appended (by decide) hI.row hI.below.size (Nat.le_refl _) hrow1 hgr
    have cv := hI.box.cell
    have c1 := q1.cell
    have f1 := q1.frozen
    rw [hlen] at hrun q2 q3 q4 q5
    have HR := hid hrun
    have HFIN := hid (show ApI w (.slice ao' (pre.length + 1) cap') ((pre ++ [x]).map fun x => iAt ys x.1) (W1.setCell ⟨w.heap.size, 0, none⟩ (.slice ao' (pre.length + 1) cap')) from ⟨q2, by
      unfold NRow
      rw [List.map_append, List.map_cons, List.map_nil, hp, List.length_append, hlen]
      exact q3, hI.below.trans q5⟩)
    have HKO := hid q4
    have HKB := hid q5
    obtain ⟨av, cv', e⟩ := hI.row.form
    rw [hlen] at e
    subst e
    clear hrun q1 q2 q3 q4 q5 hI hrow1 hgr hlen h0 hbx0 hc0 hc hp
    gi_wp2_with (gi_at_builtin; refine wpListIn_append_done rfl (.tmp 8) (.tmp 10) 47 rfl rfl rfl HR.out ?_)
    exact ⟨HKO.out.from _, HKB.out, _, HFIN.out⟩
  case done =>
    rintro D zs W hD hS ⟨v, hI⟩ hK
    have hzs : (zs.map fun x => iAt ys x.1) = ys := by
      have e : (zs.map fun x => iAt ys x.1) = (zs.map (·.1)).map (iAt ys) := by rw [List.map_map]; rfl
      rw [e, hS, ← hn]
      exact iAt_all ys
    rw [hzs] at hI
    have cv := hI.box.cell
    obtain ⟨av, cv', e⟩ := hI.row.form
    subst e
    have HI := hid hI
    have HK := hid hK
    clear hI hK hS hzs h0 hbx0 hc0 hc
    gi_wp2
    have hrow : ∀ r, some D = some r → w.heap.size ≤ r ∧ ∃ o : Obj, W.heap[r]? = some o ∧ o.isCells = false := fun r e => by cases e; exact ⟨by omega, _, HK.out, rfl⟩
    refine ⟨by simp, .inl ⟨_, _, rfl, run_takeDeferred HK.out, ?_⟩⟩
    have h2 := HI.out.turn (grownBy_putObj' _ D (.deferred none)) hrow
    exact ⟨.slice av ys.length cv', by simp [results, Tryz.f103, go_sem, hn], _, rfl, h2.row, h2.below⟩
theorem collectZ_any (Bx b off n cap : Nat) (ao : Option Addr) (ys : List Int) (hn : ys.length = n) (hl : n ≤ 100000) (w : World) (hao : 1 ≤ n → ao = some ⟨b, off, none⟩ ∧ b < w.heap.size) (hx : w.cell? ⟨Bx, 0, none⟩ = some (.slice ao n cap)) (hc : IAts w b off ys) :
    Calls Tryz.prog 66 #[.func (.func 68) #[] #[.pointer (some ⟨Bx, 0, none⟩)]] w fun e w' => ∃ v, e = .returned v ∧ NRow w' w.heap.size v ys ∧ Below w.heap.size w w' := by
  have HC := hid (callsIn_wide.1 (appendSeqZ_in Bx b off n cap ao ys hn hl w hao hx hc))
  clear hx hc hao
  go_enter Tryz.func66, Tryz.ntmps66
  go_wp2_with (go_at_call 103; refine HC.out.mono ?_; rintro e w1 ⟨v, rfl, hv, hb⟩; have HV := hid hv; have HB := hid hb; clear hv hb HC)
  go_ret
  exact ⟨_, rfl, HV.out, HB.out⟩
end Go.Proofs.YtkdnkmheidbfdaaGreat

namespace Go.Proofs.YtkdnkmheidbfdaaGreat
open Go.RowKit Go.Shelf Go.Sort

def srtI_ren : Go.Shelf.Ren := ⟨fun | 5 => 67 | 8 => 105 | 7 => 104 | 19 => 136 | 20 => 137 | 10 => 127 | 11 => 128 | 12 => 129 | 13 => 130 | 14 => 131 | 15 => 132 | 16 => 133 | 17 => 134 | 18 => 135 | 30 => 158 | 31 => 159 | 32 => 160 | 33 => 161 | 34 => 162 | 35 => 126 | 40 => 183 | n => n, fun | 23 => 47 | 25 => 3 | 3 => 3 | 32 => 138 | 22 => 47 | 0 => 0 | 44 => 175 | 46 => 177 | 4 => 4 | 36 => 168 | 35 => 167 | 41 => 44 | 5 => 5 | 9 => 9 | 53 => 198 | 57 => 202 | 63 => 220 | 64 => 95 | n => n, fun | n => n⟩
theorem srtI : Go.Proofs.SlLaysM.n5 Tryz.prog srtI_ren := {
  mixed := by kernel_rfl
  f5 := ⟨Tryz.f67.name, by decide, Tryz.func67.trans (congrArg some (by kernel_rfl))⟩
  f7 := ⟨Tryz.f104.name, by decide, Tryz.func104.trans (congrArg some (by kernel_rfl))⟩
  f8 := Tryz.func105.trans (congrArg some (by kernel_rfl))
  f10 := ⟨Tryz.f127.name, by decide, Tryz.func127.trans (congrArg some (by kernel_rfl))⟩
  f11 := ⟨Tryz.f128.name, by decide, Tryz.func128.trans (congrArg some (by kernel_rfl))⟩
  f12 := ⟨Tryz.f129.name, by decide, Tryz.func129.trans (congrArg some (by kernel_rfl))⟩
  f13 := ⟨Tryz.f130.name, by decide, Tryz.func130.trans (congrArg some (by kernel_rfl))⟩
  f14 := ⟨Tryz.f131.name, by decide, Tryz.func131.trans (congrArg some (by kernel_rfl))⟩
  f15 := ⟨Tryz.f132.name, by decide, Tryz.func132.trans (congrArg some (by kernel_rfl))⟩
  f16 := ⟨Tryz.f133.name, by decide, Tryz.func133.trans (congrArg some (by kernel_rfl))⟩
  f17 := ⟨Tryz.f134.name, by decide, Tryz.func134.trans (congrArg some (by kernel_rfl))⟩
  f18 := ⟨Tryz.f135.name, by decide, Tryz.func135.trans (congrArg some (by kernel_rfl))⟩
  f19 := Tryz.func136.trans (congrArg some (by kernel_rfl))
  f20 := Tryz.func137.trans (congrArg some (by kernel_rfl))
  f30 := ⟨Tryz.f158.name, by decide, Tryz.func158.trans (congrArg some (by kernel_rfl))⟩
  f31 := Tryz.func159.trans (congrArg some (by kernel_rfl))
  f32 := Tryz.func160.trans (congrArg some (by kernel_rfl))
  f33 := ⟨Tryz.f161.name, by decide, Tryz.func161.trans (congrArg some (by kernel_rfl))⟩
  f34 := ⟨Tryz.f162.name, by decide, Tryz.func162.trans (congrArg some (by kernel_rfl))⟩
  f35 := ⟨Tryz.f126.name, by decide, Tryz.func126.trans (congrArg some (by kernel_rfl))⟩
  f40 := ⟨Tryz.f183.name, by decide, Tryz.func183.trans (congrArg some (by kernel_rfl))⟩
  t0 := Tryz.underlying0
  a0 := Tryz.isAgg0
  z0 := Tryz.sizeOf0
  v0 := Tryz.zeroValue0
  t3 := Tryz.underlying3
  a3 := Tryz.isAgg3
  z3 := Tryz.sizeOf3
  v3 := Tryz.zeroValue3
  t4 := Tryz.underlying4
  a4 := Tryz.isAgg4
  z4 := Tryz.sizeOf4
  v4 := Tryz.zeroValue4
  t5 := Tryz.underlying5
  a5 := Tryz.isAgg5
  z5 := Tryz.sizeOf5
  v5 := Tryz.zeroValue5
  t9 := Tryz.underlying9
  a9 := Tryz.isAgg9
  z9 := Tryz.sizeOf9
  v9 := Tryz.zeroValue9
  t22 := Tryz.underlying47
  a22 := Tryz.isAgg47
  z22 := Tryz.sizeOf47
  v22 := Tryz.zeroValue47
  t23 := Tryz.underlying47
  a23 := Tryz.isAgg47
  z23 := Tryz.sizeOf47
  v23 := Tryz.zeroValue47
  t25 := Tryz.underlying3
  a25 := Tryz.isAgg3
  z25 := Tryz.sizeOf3
  v25 := Tryz.zeroValue3
  t32 := Tryz.underlying138
  a32 := Tryz.isAgg138
  z32 := Tryz.sizeOf138
  v32 := Tryz.zeroValue138
  t35 := Tryz.underlying167
  a35 := Tryz.isAgg167
  z35 := Tryz.sizeOf167
  v35 := Tryz.zeroValue167
  t36 := Tryz.underlying168
  a36 := Tryz.isAgg168
  z36 := Tryz.sizeOf168
  v36 := Tryz.zeroValue168
  t41 := Tryz.underlying44
  a41 := Tryz.isAgg44
  z41 := Tryz.sizeOf44
  v41 := Tryz.zeroValue44
  t44 := Tryz.underlying175
  a44 := Tryz.isAgg175
  z44 := Tryz.sizeOf175
  v44 := Tryz.zeroValue175
  t46 := Tryz.underlying177
  a46 := Tryz.isAgg177
  z46 := Tryz.sizeOf177
  v46 := Tryz.zeroValue177
  t53 := Tryz.underlying198
  a53 := Tryz.isAgg198
  z53 := Tryz.sizeOf198
  v53 := Tryz.zeroValue198
  t57 := Tryz.underlying202
  a57 := Tryz.isAgg202
  z57 := Tryz.sizeOf202
  v57 := Tryz.zeroValue202
  t63 := Tryz.underlying220
  a63 := Tryz.isAgg220
  z63 := Tryz.sizeOf220
  v63 := Tryz.zeroValue220
  t64 := Tryz.underlying95
  a64 := Tryz.isAgg95
  z64 := Tryz.sizeOf95
  v64 := Tryz.zeroValue95 }

/-- Sorted, as the library sorts. -/
def srtZ (zs : List Int) : List Int := zs.mergeSort fun x y => decide (x ≤ y)
theorem srtZ_len (zs : List Int) : (srtZ zs).length = zs.length := by unfold srtZ; rw [List.length_mergeSort]

theorem srtI_any {W : World} {base n cap : Nat} {ao : Option Addr} {zs : List Int} (hn : zs.length = n) (h : NRow W base (.slice ao n cap) zs) (hb : base ≤ W.heap.size) (hl : zs.length ≤ 100000) :
    Calls Tryz.prog 67 #[.slice ao n cap] W fun e w' => e = .returned (.tuple #[]) ∧ NRow w' base (.slice ao n cap) (srtZ zs) ∧ Below base W w' := by
  subst hn
  obtain ⟨hlen, h2⟩ := h
  rcases h2 with ⟨hv, h0⟩ | ⟨g, cap', cur, hv, hg, hbk, hc1, hc2, hc3, hc4⟩
  · injection hv with e1 e2 e3
    subst e1 e3
    obtain rfl : zs = [] := List.eq_nil_of_length_eq_zero h0
    refine Calls.mono (show Calls Tryz.prog 67 _ _ _ from AnyM.slices_Sort_int_none srtI none 0 W) ?_
    rintro e w' ⟨rfl, rfl⟩
    exact ⟨rfl, by rw [show srtZ [] = [] from List.eq_nil_of_length_eq_zero (srtZ_len [])]; exact NRow.nil _ _, Below.refl _ _⟩
  · injection hv with e1 e2 e3
    subst e1 e3
    rw [Nat.mul_one] at hc3 hc4
    have hH := holds_of_blockI hbk hc4
    refine Calls.mono (show Calls Tryz.prog 67 _ _ _ from AnyM.slices_Sort_int srtI g 0 cap zs W hH (lt_of_heap hbk) (by omega)) ?_
    rintro e w' ⟨rfl, k, os, rfl⟩
    refine ⟨rfl, ?_, (Below.refl _ W).grown (grownBy_sortedI _) hb (fun k e => by cases e; exact hg)⟩
    unfold NRow
    rw [srtZ_len]
    exact ownsRow_sortedI (srtZ_len zs) hg hbk hc1 hc2 (by omega)

set_option maxRecDepth 100000 in
set_option maxHeartbeats 1600000 in
theorem sortedZ_any (Bx b off n cap : Nat) (ao : Option Addr) (ys : List Int) (hn : ys.length = n) (hl : n ≤ 100000) (w : World) (hao : 1 ≤ n → ao = some ⟨b, off, none⟩ ∧ b < w.heap.size) (hx : w.cell? ⟨Bx, 0, none⟩ = some (.slice ao n cap)) (hc : IAts w b off ys) :
    Calls Tryz.prog 32 #[.func (.func 68) #[] #[.pointer (some ⟨Bx, 0, none⟩)]] w fun e w' => ∃ v, e = .returned v ∧ NRow w' w.heap.size v (srtZ ys) ∧ Below w.heap.size w w' := by
  have HC := hid (collectZ_any Bx b off n cap ao ys hn hl w hao hx hc)
  have HS := hid (fun (W : World) (ao' : Option Addr) (cap' : Nat) (hv : NRow W w.heap.size (.slice ao' n cap') ys) (hb : w.heap.size ≤ W.heap.size) => srtI_any hn hv hb (by omega))
  generalize srtZ ys = Z at HS ⊢
  clear hx hc hao
  go_enter Tryz.func32, Tryz.ntmps32
  go_wp2_with (first
    | (go_at_call 66; refine HC.out.mono ?_; rintro e w1 ⟨v, rfl, hv, hb⟩; obtain ⟨va, vc, hve⟩ := hv.form; rw [hn] at hve; subst hve; have HV := hid hv; have HB := hid hb; clear hv hb HC)
    | (go_at_call 67; refine (HS.out _ _ _ HV.out HB.out.size).mono ?_; rintro e w2 ⟨rfl, hv2, hb2⟩; have HV2 := hid hv2; have HB2 := hid (HB.out.trans hb2); clear hv2 hb2 HS))
  go_ret
  exact ⟨_, rfl, HV2.out, HB2.out⟩
end Go.Proofs.YtkdnkmheidbfdaaGreat

namespace Go.Proofs.YtkdnkmheidbfdaaGreat
open Go.RowKit Go.Shelf Go.Sort

/-- A step of the search. -/
def unS (m z : Int) : Int := if z = m then m + 1 else m
/-- The least number from one on that is not told. -/
def unL (zs : List Int) : Int := (srtZ zs).foldl unS 1
theorem unS_spec : ∀ (s pre : List Int) (m : Int), (pre ++ s).Pairwise (· ≤ ·) → 1 ≤ m → (∀ j, 1 ≤ j → j < m → j ∈ pre) → (∀ y ∈ pre, y ≠ m) →
    1 ≤ s.foldl unS m ∧ (∀ j, 1 ≤ j → j < s.foldl unS m → j ∈ pre ++ s) ∧ (∀ y ∈ pre ++ s, y ≠ s.foldl unS m) ∧ s.foldl unS m ≤ m + s.length
  | [], pre, m, _, h1, h2, h3 => by simpa using ⟨h1, h2, h3⟩
  | z :: s, pre, m, hp, h1, h2, h3 => by
    have hp' : ((pre ++ [z]) ++ s).Pairwise (· ≤ ·) := by rw [List.append_assoc]; exact hp
    rw [List.foldl_cons]
    have hz : ∀ y ∈ pre, y ≤ z := fun y hy => (List.pairwise_append.1 hp).2.2 y hy z (List.mem_cons_self ..)
    by_cases h : z = m
    · have e : unS m z = m + 1 := by unfold unS; rw [if_pos h]
      obtain ⟨a, b, c, d⟩ := unS_spec s (pre ++ [z]) (m + 1) hp' (by omega) (fun j hj hjm => by
        rw [List.mem_append]
        by_cases hjz : j = m
        · exact .inr (by rw [hjz, h]; exact List.mem_singleton.2 rfl)
        · exact .inl (h2 j hj (by omega))) (fun y hy => by
        rcases List.mem_append.1 hy with q | q
        · have := hz y q; omega
        · have := List.mem_singleton.1 q; omega)
      rw [e]
      rw [List.append_assoc] at b c
      exact ⟨a, b, c, by rw [List.length_cons]; omega⟩
    · have e : unS m z = m := by unfold unS; rw [if_neg h]
      obtain ⟨a, b, c, d⟩ := unS_spec s (pre ++ [z]) m hp' h1 (fun j hj hjm => List.mem_append.2 (.inl (h2 j hj hjm))) (fun y hy => by
        rcases List.mem_append.1 hy with q | q
        · exact h3 y q
        · have := List.mem_singleton.1 q; omega)
      rw [e]
      rw [List.append_assoc] at b c
      exact ⟨a, b, c, by rw [List.length_cons]; omega⟩
theorem srtZ_mem (zs : List Int) (z : Int) : z ∈ srtZ zs ↔ z ∈ zs := by unfold srtZ; exact List.mem_mergeSort
theorem srtZ_rise (zs : List Int) : (srtZ zs).Pairwise (· ≤ ·) := by
  unfold srtZ
  have h := List.pairwise_mergeSort (le := fun x y : Int => decide (x ≤ y)) (fun a b c h1 h2 => by simp at *; omega) (fun a b => by simp; omega) zs
  exact h.imp fun h => by simpa using h
theorem unL_spec (zs : List Int) : 1 ≤ unL zs ∧ (∀ j, 1 ≤ j → j < unL zs → j ∈ zs) ∧ unL zs ∉ zs ∧ unL zs ≤ 1 + zs.length := by
  obtain ⟨a, b, c, d⟩ := unS_spec (srtZ zs) [] 1 (srtZ_rise zs) (by omega) (fun j h1 h2 => by omega) (fun y hy => by simp at hy)
  refine ⟨a, fun j h1 h2 => (srtZ_mem zs j).1 (b j h1 h2), fun h => c _ ((srtZ_mem zs _).2 h) rfl, ?_⟩
  rw [srtZ_len] at d
  exact d
theorem unS_take (zs : List Int) (k : Nat) : 1 ≤ ((srtZ zs).take k).foldl unS 1 ∧ ((srtZ zs).take k).foldl unS 1 ≤ 1 + k := by
  obtain ⟨a, _, _, d⟩ := unS_spec ((srtZ zs).take k) [] 1 ((srtZ_rise zs).sublist (List.take_sublist ..)) (by omega) (fun j h1 h2 => by omega) (fun y hy => by simp at hy)
  refine ⟨a, Int.le_trans d ?_⟩
  rw [List.length_take]
  omega
theorem unS_next (s : List Int) (k : Nat) (x m : Int) (h : s[k]? = some x) (hm : (s.take k).foldl unS 1 = m) : (s.take (k + 1)).foldl unS 1 = unS m x := by
  rw [List.take_add_one, h, List.foldl_append, hm]
  rfl
end Go.Proofs.YtkdnkmheidbfdaaGreat

namespace Go.Proofs.YtkdnkmheidbfdaaGreat
open Go.RowKit Go.Shelf Go.Sort

set_option maxRecDepth 100000 in
set_option maxHeartbeats 1600000 in
theorem unused_any {w : World} {v : Value} {zs : List Int} (h : Nums w v zs) (hl : zs.length ≤ 100000) :
    Calls Tryz.prog 13 #[v] w fun e w' => e = .returned (.int .i64 (unL zs)) ∧ Below w.heap.size w w' := by
  obtain ⟨b, off, ao, cap, rfl, hao, hc⟩ := h.ats
  obtain ⟨n, hn⟩ : ∃ n, zs.length = n := ⟨_, rfl⟩
  rw [hn] at hao ⊢
  have HV := hid (valuesZ_any ao n cap w)
  obtain ⟨wA, hwA⟩ : ∃ wA, w.alloc (.cells #[.slice ao n cap] 47) = wA := ⟨_, rfl⟩
  have hbA : Below w.heap.size w wA := by rw [← hwA]; exact (Below.refl _ w).alloc (Nat.le_refl _) _
  have hsA : wA.heap.size = w.heap.size + 1 := by rw [← hwA]; simp
  have hxA : wA.cell? ⟨w.heap.size, 0, none⟩ = some (.slice ao n cap) := by
    have hh : wA.heap[w.heap.size]? = some (.cells #[.slice ao n cap] 47 (0, 0)) := by rw [← hwA]; exact World.alloc_heap_new w _
    simp [World.cell?, hh]
  have HS := hid (sortedZ_any w.heap.size b off n cap ao zs hn (by omega) wA (fun h1 => ⟨(hao h1).1, by have := (hao h1).2; omega⟩) hxA (by
    by_cases h1 : 1 ≤ n
    · exact hc.below hbA (hao h1).2
    · intro k z hz
      have := (List.getElem?_eq_some_iff.1 hz).1
      omega))
  have HB := hid (And.intro hbA hsA)
  rw [hwA] at HV
  have hSL : (srtZ zs).length = n := by rw [srtZ_len, hn]
  have HF := hid (fun k => unS_take zs k)
  have HN := hid (fun k x m (h1 : (srtZ zs)[k]? = some x) h2 => unS_next (srtZ zs) k x m h1 h2)
  have HE := hid (show ((srtZ zs).take n).foldl unS 1 = unL zs by unfold unL; rw [List.take_of_length_le (by omega)])
  clear hc hao hxA hbA hwA hsA
  generalize unL zs = U at HE ⊢
  generalize srtZ zs = S at *
  go_enter Tryz.func13, Tryz.ntmps13
  go_wp2_with (first
    | (go_at_call 33; refine HV.out.mono ?_; rintro e w1 ⟨rfl, rfl⟩; clear HV)
    | (go_at_call 32; refine HS.out.mono ?_; rintro e w2 ⟨v, rfl, hv, hb⟩; obtain ⟨va, vc, hve⟩ := hv.form; rw [hSL] at hve; subst hve; have HR := hid hv; have HB2 := hid (And.intro (HB.out.1.trans (hb.mono HB.out.1.size)) hb.size); clear HS hv hb))
  go_loopw [3, 5, 10] (fun lv _ iv wr => ∃ k : Nat, k ≤ n ∧ iv = .int .i64 (k : Int) ∧ lv = .int .i64 ((S.take k).foldl unS 1) ∧ wr = w2) (fun _ _ iv _ => n - (intOf iv).toNat)
  case atStart => exact ⟨0, Nat.zero_le _, rfl, rfl, rfl⟩
  case round =>
    obtain ⟨k, hk, rfl, rfl, rfl⟩ := hrel
    by_cases hlt : k < n
    · have hltI : (k : Int) < (n : Int) := by omega
      obtain ⟨x, hx⟩ : ∃ x, S[k]? = some x := ⟨S[k]'(by omega), by rw [List.getElem?_eq_getElem]⟩
      obtain ⟨g, rfl, hc⟩ := nrow_at HR.out hx
      obtain ⟨m, hm⟩ : ∃ m, (S.take k).foldl unS 1 = m := ⟨_, rfl⟩
      have hb1 := HF.out k
      rw [hm] at hb1
      obtain ⟨hm1, hm2⟩ := hb1
      have hnx := HN.out k x m hx hm
      rw [hm]
      have hw1 : IntKind.i64.wrap (m + 1) = m + 1 := by rw [IntKind.wrap_i64]; omega
      by_cases hxm : x = m
      · have hxb : (x == m) = true := by rw [beq_iff_eq]; exact hxm
        have HNX := hid (hnx.trans (show unS m x = m + 1 by unfold unS; rw [if_pos hxm]))
        clear hnx hm hx
        go_wp2
        go_roundw
        case rel => exact ⟨k + 1, by omega, by go_num, by rw [HNX.out], by first | rfl | trivial⟩
        case measure => simp [intOf]; omega
      · have hxb : (x == m) = false := by rw [beq_eq_false_iff_ne]; exact hxm
        have HNX := hid (hnx.trans (show unS m x = m by unfold unS; rw [if_neg hxm]))
        clear hnx hm hx
        go_wp2
        go_roundw
        case rel => exact ⟨k + 1, by omega, by go_num, by rw [HNX.out], by first | rfl | trivial⟩
        case measure => simp [intOf]; omega
    · obtain rfl : k = n := by omega
      rw [HE.out]
      go_wp2
      go_ret
      exact ⟨rfl, HB2.out.1⟩



















































































end Go.Proofs.YtkdnkmheidbfdaaGreat
