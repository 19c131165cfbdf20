/-
  PackSums: the walk.
-/
import Derived.Test.YtongdccpoefnlaaDoorSumsPlain
import Derived.Test.YtongdccpoefnlaaDoorManyPlain
import Derived.Deep.RegionWith
import Derived.Deep.CutRange
import Derived.BigRegion
namespace Go.Proofs.YtongdccpoefnlaaDoor
open Go.RowKit

theorem Has.open {w : World} {v : Value} {zs : List Int} (h : Has w v zs) : ∃ ao cap, v = .slice ao zs.length cap ∧ (1 ≤ zs.length → ∃ b off, ao = some ⟨b, off, none⟩ ∧ ∀ j, j < zs.length → w.cell? ⟨b, off + j, none⟩ = some (.int .u8 (zs.getD j 0))) := by
  rcases h.2.2 with ⟨a, cap, rfl, rfl, _⟩ | ⟨b, off, cap, rfl, hcap, hc⟩
  · exact ⟨a, cap, rfl, fun h => by simp at h⟩
  · exact ⟨some ⟨b, off, none⟩, cap, rfl, fun _ => ⟨b, off, rfl, hc⟩⟩
theorem Has.len_le {w : World} {ao : Option Addr} {len cap : Nat} {zs : List Int} (h : Has w (.slice ao len cap) zs) : len = zs.length ∧ len ≤ cap := by
  rcases h.2.2 with ⟨a, c, hv, rfl, _⟩ | ⟨b, off, c, hv, hcap, _⟩
  · injection hv with _ e2 e3
    subst e2
    exact ⟨rfl, Nat.zero_le _⟩
  · injection hv with _ e2 e3
    subst e2 e3
    exact ⟨rfl, hcap⟩

theorem Has.head {w : World} {ao : Option Addr} {len cap hi : Nat} {zs : List Int} (h : Has w (.slice ao len cap) zs) (h2 : hi ≤ zs.length) : Has w (.slice ao hi cap) (zs.take hi) := by
  have hb : ∀ b ∈ zs.take hi, 0 ≤ b ∧ b ≤ 255 := fun b hb => h.byte b (List.mem_of_mem_take hb)
  have hlen : (zs.take hi).length = hi := by simp; omega
  refine ⟨range_of hb, by have := h.2.1; omega, ?_⟩
  rcases h.2.2 with ⟨a, c, hv, rfl, hn⟩ | ⟨b, off, c, hv, hcap, hc⟩
  · injection hv with e1 e2 e3
    subst e1 e2 e3
    obtain rfl : hi = 0 := by simpa using h2
    exact .inl ⟨_, _, rfl, by simp, hn⟩
  · injection hv with e1 e2 e3
    subst e1 e2 e3
    refine .inr ⟨b, off, cap, by rw [hlen], by omega, fun j hj => ?_⟩
    rw [hlen] at hj
    rw [hc j (by omega)]
    simp [hj]

/-- What lies in the fourth text behind k rounds. -/
def laid3 (D : List Int) (n k : Nat) : List Int := D.take k ++ List.replicate (n - k) 0
theorem laid3_len {D : List Int} {n k : Nat} (hD : D.length = n) (hk : k ≤ n) : (laid3 D n k).length = n := by simp [laid3]; omega
theorem laid3_set {D : List Int} {n k : Nat} {t : Int} (hD : D.length = n) (hk : k < n) (ht : t = D.getD k 0) : (laid3 D n k).set k t = laid3 D n (k + 1) := by
  unfold laid3
  have e : n - k = (n - (k + 1)) + 1 := by omega
  have hl : (D.take k).length = k := by simp; omega
  rw [e, List.replicate_succ, List.set_append, hl, if_neg (by omega), Nat.sub_self, List.set_cons_zero, take_at ht (by omega)]
  simp
theorem made_zero (n : Nat) : (madeCells (Value.int .u8 0).cells (n * 1)).toList = (laid3 [] n 0).map (Value.int .u8) := by
  apply List.ext_getElem
  · simp [laid3, size_madeCells]
  · intro i h1 h2
    simp [madeCells, laid3, Value.cells, Nat.mod_one]
theorem run_min4 (P : Program) (w : World) (ts : Array TypeId) (t : TypeId) (a b c d : Nat) : (Builtin.min_ ts t #[.int .i64 a, .int .i64 b, .int .i64 c, .int .i64 d]).run P w = .ok (.int .i64 ((min (min (min a b) c) d : Nat) : Int)) w := by
  simp [Builtin.min_, Builtin.min2]
  omega

set_option maxRecDepth 8000 in
set_option maxHeartbeats 1600000 in
theorem packSums_walk (w : World) (va : Value) (za : List Int) (ha : Has w va za) (_ : za.length ≤ reachBytes) (vb : Value) (zb : List Int) (hb : Has w vb zb) (_ : zb.length ≤ reachBytes) (vc : Value) (zc : List Int) (hc : Has w vc zc) (_ : zc.length ≤ reachBytes) (ht : TabOk w) :
    Calls Tryd.prog 3 #[va, vb, vc] w fun e w' => e = .returned (.bool true) ∧ Below w.heap.size w w' := by
  obtain ⟨i0, hi, hz0, hz1, hz2⟩ := info_parts info5
  have HT := hid ht
  obtain ⟨aa, ca, rfl, hfa⟩ := ha.open
  obtain ⟨ab, cb, rfl, hfb⟩ := hb.open
  obtain ⟨ac, cc, rfl, hfc⟩ := hc.open
  have HA := hid ha
  have HB := hid hb
  have HC := hid hc
  have FA := hid hfa
  have FB := hid hfb
  have FC := hid hfc
  obtain ⟨la, hla⟩ : ∃ n, n = za.length := ⟨_, rfl⟩
  obtain ⟨lb, hlb⟩ : ∃ n, n = zb.length := ⟨_, rfl⟩
  obtain ⟨lc, hlc⟩ : ∃ n, n = zc.length := ⟨_, rfl⟩
  have hma := ha.2.1
  have hmb := hb.2.1
  have hmc := hc.2.1
  clear ht ha hb hc hfa hfb hfc
  rw [← hla] at HA FA hma ⊢
  rw [← hlb] at HB FB hmb ⊢
  rw [← hlc] at HC FC hmc ⊢
  have LA := hid hla
  have LB := hid hlb
  have LC := hid hlc
  clear hla hlb hlc
  obtain ⟨n, hn⟩ : ∃ n, min (min (min la lb) lc) 2000 = n := ⟨_, rfl⟩
  have hn1 : n ≤ la := by omega
  have hn2 : n ≤ lb := by omega
  have hn3 : n ≤ lc := by omega
  have hn4 : n ≤ 2000 := by omega
  have hmin : ∀ (ts : Array TypeId) (t : TypeId) (wx : World), (Builtin.min_ ts t #[.int .i64 la, .int .i64 lb, .int .i64 lc, .int .i64 2000]).run Tryd.prog wx = .ok (.int .i64 n) wx := fun ts t wx => by
    have := run_min4 Tryd.prog wx ts t la lb lc 2000
    rw [hn] at this
    exact this
  clear hn
  go_enter Tryd.func3, Tryd.ntmps3
  go_wp2_with (at_make; refine wpList_make_full _ rfl _ _ 22 rfl w.heap.size 5 i0 (.int .u8 0) 1 Tryd.underlying22 hi hz0 hz1 _ _ _ _ n rfl rfl rfl rfl (by rw [hz2]; omega) (by unfold maxLen; omega) (Nat.le_refl _) ?_; intro w1 hown1 hgrow1)
  have hB1 : Below w.heap.size w w1 := (Below.refl _ _).grown hgrow1 (Nat.le_refl _) (by intro k hk; cases hk)
  rw [made_zero] at hown1
  obtain ⟨D, hD⟩ : ∃ D, D = (over3 (nats (za.take n)) (nats (zb.take n)) (nats (zc.take n))).map fun m : Nat => (m : Int) := ⟨_, rfl⟩
  have hDl : D.length = n := by rw [hD]; simp [over3, nats]; have := LA.out; have := LB.out; have := LC.out; omega
  have hDat : ∀ k, k < n → bits .xor .u8 (bits .xor .u8 (za.getD k 0) (zb.getD k 0)) (zc.getD k 0) = D.getD k 0 := fun k hk => by
    have h1 := HA.out.1 k
    have h2 := HB.out.1 k
    have h3 := HC.out.1 k
    rw [← List.getD_eq_getElem?_getD] at h1 h2 h3
    rw [hD]
    exact over3_at (by have := LA.out; omega) (by have := LB.out; omega) (by have := LC.out; omega) hk h1 h2 h3
  have HD := hid hD
  have HDL := hid hDl
  have HDA := hid hDat
  have HO := hid hown1
  clear hD hDl hDat hown1 hgrow1 hmin
  go_loopw [9] (fun i wr => ∃ k : Nat, k ≤ n ∧ i = .int .i64 k ∧ wr.ownsRow w.heap.size 5 1 (.slice (some ⟨w.heap.size, 0, none⟩) n n) n ((laid3 D n k).map (Value.int .u8)) ∧ Below w.heap.size w wr) (fun i _ => n - (intOf i).toNat)
  case atStart => exact ⟨0, Nat.zero_le _, rfl, by simpa [laid3] using HO.out, hB1⟩
  case round =>
    obtain ⟨k, hk, rfl, hown, hbr⟩ := hrel
    have hbs := hbr.size
    by_cases hlt : k < n
    · obtain ⟨ba, oa, rfl, hca⟩ := FA.out (by have := LA.out; omega)
      obtain ⟨bb, ob, rfl, hcb⟩ := FB.out (by have := LB.out; omega)
      obtain ⟨bc, oc, rfl, hcc⟩ := FC.out (by have := LC.out; omega)
      have hka : k < la := by omega
      have hkb : k < lb := by omega
      have hkc : k < lc := by omega
      have ra : wr.cell? ⟨ba, oa + k, none⟩ = some (.int .u8 (za.getD k 0)) := by rw [hbr.cell (p := ⟨ba, oa + k, none⟩) (lt_of_cell (hca k hka))]; exact hca k hka
      have rb : wr.cell? ⟨bb, ob + k, none⟩ = some (.int .u8 (zb.getD k 0)) := by rw [hbr.cell (p := ⟨bb, ob + k, none⟩) (lt_of_cell (hcb k hkb))]; exact hcb k hkb
      have rc : wr.cell? ⟨bc, oc + k, none⟩ = some (.int .u8 (zc.getD k 0)) := by rw [hbr.cell (p := ⟨bc, oc + k, none⟩) (lt_of_cell (hcc k hkc))]; exact hcc k hkc
      have rd : wr.cell? ⟨w.heap.size, k, none⟩ = some (.int .u8 ((laid3 D n k).getD k 0)) := own_cell hown k (by rw [laid3_len HDL.out hk]; exact hlt)
      have fd : wr.frozen? ⟨w.heap.size, k, none⟩ = false := hown.frozenAt k
      have hx := HDA.out k hlt
      obtain ⟨x, hxx⟩ : ∃ x, x = za.getD k 0 := ⟨_, rfl⟩
      obtain ⟨y, hyy⟩ : ∃ x, x = zb.getD k 0 := ⟨_, rfl⟩
      obtain ⟨z, hzz⟩ : ∃ x, x = zc.getD k 0 := ⟨_, rfl⟩
      obtain ⟨o, hoo⟩ : ∃ x, x = (laid3 D n k).getD k 0 := ⟨_, rfl⟩
      obtain ⟨t, htt⟩ : ∃ x, x = D.getD k 0 := ⟨_, rfl⟩
      rw [← hxx] at ra hx
      rw [← hyy] at rb hx
      rw [← hzz] at rc hx
      rw [← hoo] at rd
      rw [← htt] at hx
      have HTT := hid htt
      have HO2 := hid hown
      have i1 : (0 : Int) ≤ (k : Int) := by omega
      have i2 : (k : Int) < (n : Int) := by omega
      have i3 : (k : Int) < (la : Int) := by omega
      have i4 : (k : Int) < (lb : Int) := by omega
      have i5 : (k : Int) < (lc : Int) := by omega
      clear hca hcb hcc hxx hyy hzz hoo htt hown hka hkb hkc
      go_wp2
      go_region
      all_goals
        go_wp2
        go_roundw
        case rel => exact ⟨k + 1, by omega, by go_num, by have := (HO2.out.stored k (.int .u8 t)).1; rw [← List.map_set, laid3_set HDL.out hlt HTT.out] at this; exact this, (hbr.setCell (Nat.le_refl _) _).drew⟩
        case measure => simp [intOf]; omega
    · obtain rfl : k = n := by omega
      have hl : laid3 D k k = D := by unfold laid3; rw [Nat.sub_self, List.take_of_length_le (by rw [HDL.out]; exact Nat.le_refl _)]; simp
      rw [hl] at hown
      clear hl
      have e1 : (0 : Int) ≤ (k : Int) := by omega
      have e2 : (k : Int) ≤ (ca : Int) := by have := HA.out.len_le; omega
      have e3 : (k : Int) ≤ (cb : Int) := by have := HB.out.len_le; omega
      have e4 : (k : Int) ≤ (cc : Int) := by have := HC.out.len_le; omega
      have ta : Has wr.drew (.slice aa k ca) (za.take k) := (HA.out.below hbr.drew).head (by have := LA.out; omega)
      have tb : Has wr.drew (.slice ab k cb) (zb.take k) := (HB.out.below hbr.drew).head (by have := LB.out; omega)
      have tc : Has wr.drew (.slice ac k cc) (zc.take k) := (HC.out.below hbr.drew).head (by have := LC.out; omega)
      have hDb : ∀ x ∈ D, 0 ≤ x ∧ x ≤ 255 := by rw [HD.out]; exact over3_byte _ _ _ (nats_lt ta.byte) (nats_lt tb.byte) (nats_lt tc.byte)
      have td : Has wr.drew (.slice (some ⟨w.heap.size, 0, none⟩) k k) D := has_of_own (base := w.heap.size) (n := k) hown.drew hDb (by have := HDL.out; omega)
      have tt : TabOk wr.drew := HT.out.below hbr.drew (Nat.le_refl _)
      have KA := hid (crc_has ta tt)
      have KB := hid (crc_has tb tt)
      have KC := hid (crc_has tc tt)
      have KD := hid (crc_has td tt)
      have KW := hid (awake_any wr.drew tt)
      have hsum : bits .xor .u32 (bits .xor .u32 (crcL (za.take k)) (crcL (zb.take k))) (crcL (zc.take k)) = crcL D := by
        rw [HD.out]
        exact crcL_over3 ta.byte tb.byte tc.byte (by have := LA.out; have := LB.out; simp; omega) (by have := LB.out; have := LC.out; simp; omega)
      generalize crcL (za.take k) = A at *
      generalize crcL (zb.take k) = B at *
      generalize crcL (zc.take k) = C at *
      generalize crcL D = E at *
      clear ta tb tc td tt hDb hown
      go_upto_region 7 with fail
      go_region_with (first | (go_at_call 9; refine KA.out.mono ?_; rintro e wz ⟨rfl, hwz⟩; have hwz' := hwz.symm; clear hwz; subst hwz'; clear KA) | (go_at_call 9; refine KB.out.mono ?_; rintro e wz ⟨rfl, hwz⟩; have hwz' := hwz.symm; clear hwz; subst hwz'; clear KB) | (go_at_call 9; refine KC.out.mono ?_; rintro e wz ⟨rfl, hwz⟩; have hwz' := hwz.symm; clear hwz; subst hwz'; clear KC) | (go_at_call 9; refine KD.out.mono ?_; rintro e wz ⟨rfl, hwz⟩; have hwz' := hwz.symm; clear hwz; subst hwz'; clear KD) | (go_at_call 10; refine KW.out.mono ?_; rintro e w4 ⟨rfl, hb4⟩))

      all_goals
        go_wp2
        go_ret
        exact ⟨rfl, hbr.drew.trans (hb4.mono hbr.size)⟩
end Go.Proofs.YtongdccpoefnlaaDoor
