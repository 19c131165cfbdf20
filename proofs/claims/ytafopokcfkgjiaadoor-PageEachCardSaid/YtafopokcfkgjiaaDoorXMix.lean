/-
  A frame whose sectors are two pages' frames': it is one of them, or it does not open.
-/
import Derived.Test.YtafopokcfkgjiaaDoorXChkA
import Derived.Test.YtafopokcfkgjiaaDoorXChkB
import Derived.Test.YtafopokcfkgjiaaDoorXChkC
import Derived.Test.YtafopokcfkgjiaaDoorXChkD
namespace Go.Proofs.YtafopokcfkgjiaaDoor

def dataZ (n : Nat) : List Int := (List.range 480).map fun k => ((n * (k % 7 + 1) : Nat) : Int) % 256
def pgN (no n : Nat) : Pg := ⟨no, n, dataZ n⟩
/-- A frame's sector. -/
def SC (f : List Int) (i : Nat) : List Int := (f.drop (64 * i)).take 64
theorem dataZ_by (n : Nat) : By (dataZ n) := fun b hb => by
  obtain ⟨k, _, rfl⟩ := List.mem_map.1 hb
  omega
theorem dataZ_len (n : Nat) : (dataZ n).length = 480 := by unfold dataZ; simp
theorem pgN_ok {no n np : Nat} (h : no < np) (hn : n ≤ 65535) : (pgN no n).Ok np := ⟨h, by simp [pgN], by simp [pgN]; omega, dataZ_len n, dataZ_by n⟩
theorem uv_tail {n : Nat} (hn : n < 16384) : uv (n : Int) = if n < 128 then [(n : Int)] else [((n % 128 + 128 : Nat) : Int), ((n / 128 : Nat) : Int)] := by
  by_cases h : n < 128
  · rw [if_pos h]
    exact uvF_small 9 (by omega)
  · rw [if_neg h]
    show uvF 9 (n : Int) = _
    rw [uvF_more 8 (by omega), uvF_small 8 (by omega)]
    congr 1
theorem range_508 : List.range 508 = List.range 480 ++ (List.range 28).map (480 + ·) := by
  have h := List.range_add (n := 480) (m := 28)
  exact h
theorem body_list {no n : Nat} (hno : no < 128) (hn : n < 16384) : bodyOf (pgN no n) = (bodyL no n).map fun x : Nat => (x : Int) := by
  unfold bodyL
  rw [range_508, List.map_append, List.map_append, List.map_map, List.map_map]
  unfold bodyOf pgN
  dsimp only
  have hd : (List.range 480).map ((fun x : Nat => (x : Int)) ∘ bodyN no n) = dataZ n := by
    unfold dataZ
    refine List.map_congr_left fun k hk => ?_
    have := List.mem_range.1 hk
    show ((bodyN no n k : Nat) : Int) = _
    unfold bodyN
    rw [if_pos this]
    omega
  rw [hd, uv_tail hn, show uv (no : Int) = [(no : Int)] from uvF_small 9 (by omega)]
  have l28 : List.range 28 = [0, 1, 2, 3, 4, 5, 6, 7, 8, 9, 10, 11, 12, 13, 14, 15, 16, 17, 18, 19, 20, 21, 22, 23, 24, 25, 26, 27] := rfl
  rw [l28]
  by_cases h : n < 128
  · rw [if_pos h, show (dataZ n ++ [(no : Int)] ++ [(n : Int)]).length = 482 by simp [dataZ_len], List.append_assoc, List.append_assoc]
    refine congrArg (dataZ n ++ ·) ?_
    simp [bodyN, h, zeros, List.replicate]
  · rw [if_neg h, show (dataZ n ++ [(no : Int)] ++ [((n % 128 + 128 : Nat) : Int), ((n / 128 : Nat) : Int)]).length = 483 by simp [dataZ_len], List.append_assoc, List.append_assoc]
    refine congrArg (dataZ n ++ ·) ?_
    simp [bodyN, h, zeros, List.replicate]
theorem nats_map (l : List Nat) : nats (l.map fun x : Nat => (x : Int)) = l := by
  unfold nats
  rw [List.map_map]
  conv => rhs; rw [← List.map_id l]
  exact List.map_congr_left fun x _ => by simp
theorem body_nats {no n : Nat} (hno : no < 128) (hn : n < 16384) : nats (bodyOf (pgN no n)) = bodyL no n := by rw [body_list hno hn, nats_map]
theorem crc_nats {l : List Int} (h : By l) : crcL l = (crcN (nats l) : Int) := by
  have q := crcL_nat (nats l) (nats_lt h)
  rwa [nats_back h] at q
theorem sB_nats {F : List Int} (i : Nat) : sB (nats (F.take 508)) i = nats ((SC F i).take (508 - 64 * i)) := by
  unfold sB nats SC
  rw [← List.map_drop, ← List.map_take, List.drop_take, List.take_take, List.take_take]
  congr 2
  omega
theorem frame_parts {no n : Nat} (_hno : no < 128) (_hn : n < 16384) : (frameOf (pgN no n)).take 508 = bodyOf (pgN no n) ∧ (frameOf (pgN no n)).drop 508 = be4 (crcL (bodyOf (pgN no n))) := by
  have hl := bodyOf_len (p := pgN no n) (dataZ_len n)
  unfold frameOf sealL
  rw [List.take_append_of_le_length (by omega), List.take_of_length_le (by omega), List.drop_append_of_le_length (by omega), List.drop_of_length_le (by omega), List.nil_append]
  exact ⟨rfl, rfl⟩
theorem SC_tail {F : List Int} (h : F.length = 512) : F.drop 508 = (SC F 7).drop 60 := by
  unfold SC
  rw [List.take_of_length_le (by rw [List.length_drop]; omega), List.drop_drop]
/-- With the first one's last sector it is the first one, or does not open. -/
theorem mix_frame {no n no' n' : Nat} (hc : chk no n no' n' = true) (hno : no < 128) (hn : n < 16384) (hno' : no' < 128) (hn' : n' < 16384) {F : List Int} (hF : F.length = 512) (hb : By F) (h7 : SC F 7 = SC (frameOf (pgN no n)) 7)
    (hs : ∀ i, i < 8 → SC F i = SC (frameOf (pgN no n)) i ∨ SC F i = SC (frameOf (pgN no' n')) i) : openE F ≠ 0 ∨ F = frameOf (pgN no n) := by
  by_cases ho : openE F = 0
  · right
    have hfl := frameOf_len (p := pgN no n) (dataZ_len n)
    have htail : F.drop 508 = (frameOf (pgN no n)).drop 508 := by rw [SC_tail hF, SC_tail hfl, h7]
    obtain ⟨t1, t2⟩ := frame_parts hno hn
    have hbody : By (bodyOf (pgN no n)) := bodyOf_by (pgN_ok (np := 4096) (by omega) (by omega)) (by decide)
    have hcrc : crcL (F.take 508) = crcL (bodyOf (pgN no n)) := by
      unfold openE at ho
      rw [hF, if_neg (by decide)] at ho
      by_cases e : crcL (F.take (512 - 4)) = num4 (F.drop (512 - 4))
      · rw [show F.drop (512 - 4) = F.drop 508 from rfl, htail, t2, num4_be4 (crcL_bounds hbody).1 (crcL_bounds hbody).2] at e
        exact e
      · rw [if_neg e] at ho
        cases ho
    have hM : nats (F.take 508) = bodyL no n := by
      have sF : ∀ i, SC F i = SC (frameOf (pgN no n)) i → sB (nats (F.take 508)) i = sB (bodyL no n) i := fun i e => by
        rw [sB_nats, e, ← sB_nats, t1, body_nats hno hn]
      have sG : ∀ i, SC F i = SC (frameOf (pgN no' n')) i → sB (nats (F.take 508)) i = sB (bodyL no' n') i := fun i e => by
        rw [sB_nats, e, ← sB_nats, (frame_parts hno' hn').1, body_nats hno' hn']
      refine mix_first hc (by unfold nats; rw [List.length_map, List.length_take]; omega) (sF 7 h7) (fun i hi => (hs i (by omega)).imp (sF i) (sG i)) ?_
      have q := crc_nats (hb.take 508)
      rw [hcrc, crc_nats hbody, body_nats hno hn] at q
      omega
    have hT : F.take 508 = bodyOf (pgN no n) := by
      rw [← nats_back (hb.take 508), hM, ← body_nats hno hn, nats_back hbody]
    rw [← List.take_append_drop 508 F, hT, htail, ← t1, List.take_append_drop]
  · exact .inl ho
theorem frame_sums {no n no' n' : Nat} (hc : chk no n no' n' = true) (hno : no < 128) (hn : n < 16384) (hno' : no' < 128) (hn' : n' < 16384) : (frameOf (pgN no' n')).drop 508 ≠ (frameOf (pgN no n)).drop 508 := fun e => by
  rw [(frame_parts hno hn).2, (frame_parts hno' hn').2] at e
  have h1 : By (bodyOf (pgN no n)) := bodyOf_by (pgN_ok (np := 4096) (by omega) (by omega)) (by decide)
  have h2 : By (bodyOf (pgN no' n')) := bodyOf_by (pgN_ok (np := 4096) (by omega) (by omega)) (by decide)
  have e2 := congrArg num4 e
  rw [num4_be4 (crcL_bounds h1).1 (crcL_bounds h1).2, num4_be4 (crcL_bounds h2).1 (crcL_bounds h2).2, crc_nats h1, crc_nats h2, body_nats hno hn, body_nats hno' hn'] at e2
  exact chk_sums hc (by omega)
theorem chk_first {a : Nat} (h0 : 10 ≤ a) (h1 : a < 266) : chk 0 1 0 a = true := by
  by_cases h : a < 138
  · exact chkA_all h0 h
  · exact chkB_all (by omega) h1
theorem chk_second {b : Nat} (h0 : 10 ≤ b) (h1 : b < 266) : chk 1 2 2 b = true := by
  by_cases h : b < 138
  · exact chkC_all h0 h
  · exact chkD_all (by omega) h1
end Go.Proofs.YtafopokcfkgjiaaDoor
