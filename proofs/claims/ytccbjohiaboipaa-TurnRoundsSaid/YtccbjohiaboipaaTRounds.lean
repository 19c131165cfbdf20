/-
  TurnRounds, given what turn answers.
-/
import Derived.Test.YtccbjohiaboipaaTLaw
import Derived.Test.YtccbjohiaboipaaTSixteen
import Derived.Test.YtccbjohiaboipaaTStep
import Derived.Deep.CutRange
namespace Go.Proofs.Ytccbjohiaboipaa
open Go.RowKit Go.Sort

theorem and15_i64 (n : Int) : bits .and .i64 n 15 = n % 16 := by
  have h31 : (BitVec.ofInt 64 15).toNat = 2 ^ 4 - 1 := by decide
  have key : (BitVec.ofInt 64 n &&& BitVec.ofInt 64 15).toNat = (n % ((2 ^ 64 : Nat) : Int)).toNat % 2 ^ 4 := by
    rw [BitVec.toNat_and, BitVec.toNat_ofInt, h31, Nat.and_two_pow_sub_one_eq_mod]
  show IntKind.i64.wrap ((BitVec.ofInt 64 n &&& BitVec.ofInt 64 15).toNat : Nat) = n % 16
  rw [key, IntKind.wrap_i64]
  omega

/-- The places that have come up: unlike ones. -/
def Rk (c j : Nat) (rs : List Nat) : Prop := rs.Nodup ∧ rs.length ≤ j ∧ ∀ r ∈ rs, ∃ i, i < j ∧ r = (i * 7 + c) % 16
theorem Rk.more {c j : Nat} {rs : List Nat} (h : Rk c j rs) (hj : j < 16) : Rk c (j + 1) (rs ++ [(j * 7 + c) % 16]) := by
  refine ⟨?_, by rw [List.length_append, List.length_singleton]; exact Nat.succ_le_succ h.2.1, ?_⟩
  · refine List.nodup_append.2 ⟨h.1, by simp, ?_⟩
    intro a ha b hb
    simp only [List.mem_singleton] at hb
    obtain ⟨i, hi, rfl⟩ := h.2.2 a ha
    subst hb
    omega
  · intro r hr
    rcases List.mem_append.1 hr with hr | hr
    · obtain ⟨i, hi, e⟩ := h.2.2 r hr
      exact ⟨i, by omega, e⟩
    · exact ⟨j, by omega, by simpa using hr⟩
theorem Rk.stay {c j : Nat} {rs : List Nat} (h : Rk c j rs) : Rk c (j + 1) rs := ⟨h.1, by have := h.2.1; omega, fun r hr => by obtain ⟨i, hi, e⟩ := h.2.2 r hr; exact ⟨i, by omega, e⟩⟩
theorem Rk.lt {c j : Nat} {rs : List Nat} (h : Rk c j rs) : ∀ r ∈ rs, r < 16 := fun r hr => by obtain ⟨i, hi, e⟩ := h.2.2 r hr; omega

def upN (rs : List Nat) (i k : Nat) : Nat := (List.range k).foldl (upF rs i) i
def downN (rs : List Nat) (i k : Nat) : Nat := (List.range k).foldl (downF rs i) i
theorem upN_succ (rs : List Nat) (i k : Nat) : upN rs i (k + 1) = upF rs i (upN rs i k) k := by unfold upN; rw [range_foldl]
theorem downN_succ (rs : List Nat) (i k : Nat) : downN rs i (k + 1) = downF rs i (downN rs i k) k := by unfold downN; rw [range_foldl]
theorem upN_lt {rs : List Nat} {i : Nat} (hi : i < rs.length) : ∀ k, k ≤ rs.length → upN rs i k < rs.length ∧ downN rs i k < rs.length
  | 0, _ => ⟨hi, hi⟩
  | k + 1, hk => by
    obtain ⟨h1, h2⟩ := upN_lt hi k (by omega)
    rw [upN_succ, downN_succ]
    exact ⟨(upF_lt h1 (by omega)).1, (upF_lt h2 (by omega)).2⟩
theorem up_is {rs : List Nat} (hn : rs.Nodup) (hr : ∀ r ∈ rs, r < 16) {i : Nat} (hi : i < rs.length) : stepD (rs.map dir16) (i : Int) 1 = (upN rs i rs.length : Nat) ∧ stepD (rs.map dir16) (i : Int) (-1) = (downN rs i rs.length : Nat) := by
  obtain ⟨ri, hri⟩ : ∃ r, rs[i]? = some r := ⟨_, List.getElem?_eq_getElem hi⟩
  have li := hr ri (List.mem_of_getElem? hri)
  have hg : (rs.map dir16).getD i (0, 0) = dir16 ri := map16_at hri
  have hno : ¬ ((i : Int) < 0 ∨ ((rs.map dir16).length : Int) ≤ (i : Int) ∨ noneD ((rs.map dir16).getD (i : Int).toNat (0, 0)) = true) := by
    rintro (h | h | h)
    · omega
    · rw [List.length_map] at h; omega
    · rw [Int.toNat_natCast, hg, none16 ri li] at h; cases h
  have key : ∀ k, k ≤ rs.length → (List.range k).foldl (stepF (rs.map dir16) i (dir16 ri) 1) i = upN rs i k ∧ (List.range k).foldl (stepF (rs.map dir16) i (dir16 ri) (-1)) i = downN rs i k := by
    intro k
    induction k with
    | zero => exact fun _ => ⟨rfl, rfl⟩
    | succ k ih =>
      intro hk
      obtain ⟨i1, i2⟩ := ih (by omega)
      obtain ⟨l1, l2⟩ := upN_lt hi k (by omega)
      have s1 := (step16 hn hr hi l1 (show k < rs.length by omega)).1
      have s2 := (step16 hn hr hi l2 (show k < rs.length by omega)).2
      rw [getD_nat hri] at s1 s2
      rw [range_foldl, range_foldl, i1, i2, s1, s2, upN_succ, downN_succ]
      exact ⟨rfl, rfl⟩
  obtain ⟨k1, k2⟩ := key rs.length (Nat.le_refl _)
  unfold stepD
  rw [if_neg hno, if_neg hno]
  unfold stepN
  rw [Int.toNat_natCast, hg, List.length_map, k1, k2]
  exact ⟨rfl, rfl⟩
theorem far_int {i a : Nat} (hi : i < 16) (ha : a < 16) : ((a : Int) - (i : Int) + 16).tmod 16 = (far16 i a : Nat) := by
  unfold far16
  rw [Int.tmod_eq_emod_of_nonneg (by omega)]
  omega
theorem Nums.at {w : World} {v : Value} {rs : List Nat} (h : Nums w v (natsI rs)) (hl : 1 ≤ rs.length) : ∃ b off cap, v = .slice (some ⟨b, off, none⟩) rs.length cap ∧ ∀ (k x : Nat), rs[k]? = some x → w.cell? ⟨b, off + k, none⟩ = some (.int .i64 (x : Int)) := by
  obtain ⟨a, cap, rfl, hx⟩ := h
  simp only [natsI_length] at hx ⊢
  obtain ⟨b, off, rfl, hc⟩ := hx hl
  exact ⟨b, off, cap, rfl, fun k x hk => hc k _ (natsI_at hk)⟩

set_option maxRecDepth 100000 in
set_option maxHeartbeats 16000000 in
theorem turnRounds_core (H : TurnC) (w : World) (v : Int) (_hv0 : -9223372036854775808 ≤ v) (_hv1 : v ≤ 9223372036854775807) :
    Calls Try.prog 6 #[.int .i64 v] w fun e w' => e = .returned (.bool true) ∧ Below w.heap.size w w' := by
  obtain ⟨wA, hwA⟩ : ∃ wA, w.alloc (.cells #[.int .i64 1, .int .i64 0, .int .i64 2, .int .i64 1, .int .i64 1, .int .i64 1, .int .i64 1, .int .i64 2, .int .i64 0, .int .i64 1, .int .i64 (-1), .int .i64 2, .int .i64 (-1), .int .i64 1, .int .i64 (-2), .int .i64 1, .int .i64 (-1), .int .i64 0, .int .i64 (-2), .int .i64 (-1), .int .i64 (-1), .int .i64 (-1), .int .i64 (-1), .int .i64 (-2), .int .i64 0, .int .i64 (-1), .int .i64 1, .int .i64 (-2), .int .i64 1, .int .i64 (-1), .int .i64 2, .int .i64 (-1)] 24) = wA := ⟨_, rfl⟩
  have hszA : wA.heap.size = w.heap.size + 1 := by rw [← hwA]; simp
  have HBA := hid (show Below w.heap.size w wA by rw [← hwA]; exact (Below.refl _ _).alloc (Nat.le_refl _) _)
  have HC16 := hid (show ∀ r, r < 16 → wA.cell? ⟨w.heap.size, r * 2, none⟩ = some (.int .i64 (dir16 r).1) ∧ wA.cell? ⟨w.heap.size, r * 2 + 1, none⟩ = some (.int .i64 (dir16 r).2) by
    have hh : wA.heap[w.heap.size]? = some (.cells #[.int .i64 1, .int .i64 0, .int .i64 2, .int .i64 1, .int .i64 1, .int .i64 1, .int .i64 1, .int .i64 2, .int .i64 0, .int .i64 1, .int .i64 (-1), .int .i64 2, .int .i64 (-1), .int .i64 1, .int .i64 (-2), .int .i64 1, .int .i64 (-1), .int .i64 0, .int .i64 (-2), .int .i64 (-1), .int .i64 (-1), .int .i64 (-1), .int .i64 (-1), .int .i64 (-2), .int .i64 0, .int .i64 (-1), .int .i64 1, .int .i64 (-2), .int .i64 1, .int .i64 (-1), .int .i64 2, .int .i64 (-1)] 24 (0, 0)) := by
      rw [← hwA]
      unfold World.alloc
      simp
    have hc : ∀ i, wA.cell? ⟨w.heap.size, i, none⟩ = (#[.int .i64 1, .int .i64 0, .int .i64 2, .int .i64 1, .int .i64 1, .int .i64 1, .int .i64 1, .int .i64 2, .int .i64 0, .int .i64 1, .int .i64 (-1), .int .i64 2, .int .i64 (-1), .int .i64 1, .int .i64 (-2), .int .i64 1, .int .i64 (-1), .int .i64 0, .int .i64 (-2), .int .i64 (-1), .int .i64 (-1), .int .i64 (-1), .int .i64 (-1), .int .i64 (-2), .int .i64 0, .int .i64 (-1), .int .i64 1, .int .i64 (-2), .int .i64 1, .int .i64 (-1), .int .i64 2, .int .i64 (-1)] : Array Value)[i]? := fun i => by simp [World.cell?, hh]
    intro r hr
    rw [hc, hc]
    match r, hr with
    | 0, _ => exact ⟨rfl, rfl⟩
    | 1, _ => exact ⟨rfl, rfl⟩
    | 2, _ => exact ⟨rfl, rfl⟩
    | 3, _ => exact ⟨rfl, rfl⟩
    | 4, _ => exact ⟨rfl, rfl⟩
    | 5, _ => exact ⟨rfl, rfl⟩
    | 6, _ => exact ⟨rfl, rfl⟩
    | 7, _ => exact ⟨rfl, rfl⟩
    | 8, _ => exact ⟨rfl, rfl⟩
    | 9, _ => exact ⟨rfl, rfl⟩
    | 10, _ => exact ⟨rfl, rfl⟩
    | 11, _ => exact ⟨rfl, rfl⟩
    | 12, _ => exact ⟨rfl, rfl⟩
    | 13, _ => exact ⟨rfl, rfl⟩
    | 14, _ => exact ⟨rfl, rfl⟩
    | 15, _ => exact ⟨rfl, rfl⟩
    | r + 16, hr => omega)
  obtain ⟨c, hc⟩ : ∃ c : Nat, bits .and .i64 (v / 65536) 15 = (c : Int) := ⟨((v / 65536) % 16).toNat, by rw [and15_i64]; omega⟩
  have hc16 : c < 16 := by have := and15_i64 (v / 65536); omega
  go_enter Try.func6, Try.ntmps6
  go_wp2
  go_loopw [3, 5, 6] (fun lv rv iv wr => ∃ (j n : Nat) (rs : List Nat) (ao : Option Addr) (ca : Nat) (bo : Option Addr) (cb : Nat), j ≤ 16 ∧ iv = .int .i64 j ∧ lv = .slice ao n ca ∧ rv = .slice bo n cb ∧ rs.length = n ∧ Rk c j rs ∧ DRow 24 wr wA.heap.size (.slice ao n ca) (rs.map dir16) ∧ NRow wr wA.heap.size (.slice bo n cb) (natsI rs) ∧ Apart (.slice ao n ca) (.slice bo n cb) ∧ Below wA.heap.size wA wr) (fun _ _ iv _ => 16 - (intOf iv).toNat)
  case atStart => exact ⟨0, 0, [], none, 0, none, 0, by omega, rfl, rfl, rfl, rfl, ⟨by simp, by simp, by simp⟩, DRow.nil _ _ _, NRow.nil _ _, (fun k hk => nomatch hk), Below.refl _ _⟩
  case round =>
    obtain ⟨j, n, rs, ao, ca, bo, cb, hj, rfl, rfl, rfl, hn, hrk, hra, hrb, hap, hbr⟩ := hrel
    have hn16 : n ≤ 16 := by have := hrk.2.1; omega
    by_cases hlt : j < 16
    · have hjI : (j : Int) < 16 := by omega
      obtain ⟨r, hr⟩ : ∃ r, (j * 7 + c) % 16 = r := ⟨_, rfl⟩
      have hr16 : r < 16 := by omega
      have hr16I : (r : Int) < 16 := by omega
      have hrI : ((j : Int) * 7 + (c : Int)).tmod 16 = (r : Int) := by rw [Int.tmod_eq_emod_of_nonneg (by omega)]; omega
      obtain ⟨M, hM⟩ : ∃ M, bits .and .i64 (v / 2 ^ r) 1 = M := ⟨_, rfl⟩
      have HHR := hid hr
      have HRK := hid hrk
      have HNN := hid hn
      by_cases hM1 : M = 1
      · subst hM1
        obtain ⟨z0, z1⟩ := HC16.out r hr16
        obtain ⟨⟨px, py⟩, hPK⟩ : ∃ P, dir16 r = P := ⟨_, rfl⟩
        have HDR := hid hPK
        rw [hPK] at z0 z1
        dsimp only at z0 z1
        have y0 := cell_below z0 hbr (by omega)
        have y1 := cell_below z1 hbr (by omega)
        obtain ⟨ao', ca', w1, hrun1, hra1, hb1, hg1⟩ := hra.snocD hbr.size (by rw [List.length_map, hn]; omega) (px, py)
        obtain ⟨hrb1, hap1⟩ := hrb.keep hg1 hap
        have hbw1 : Below wA.heap.size wA w1 := hbr.trans hb1
        rw [List.length_map, hn] at hrun1 hra1 hap1
        obtain ⟨bo', cb', w2, hrun2, hrb2, hb2, hg2⟩ := hrb1.snoc (base := wA.heap.size) hbw1.size (by rw [natsI_length, hn]; omega) (r : Int)
        obtain ⟨hra2, hap2⟩ := hra1.keep hg2 hap1.symm
        rw [natsI_length, hn] at hrun2 hrb2 hap2
        have HRUN1 := hid hrun1
        have HRUN2 := hid hrun2
        have HRA := hid hra2
        have HRB := hid hrb2
        have HAP := hid hap2.symm
        have HBW := hid (show Below wA.heap.size wA w2 from hbw1.trans hb2)
        clear hrun1 hrun2 hra hrb hra1 hrb1 hra2 hrb2 hap hap1 hap2 hbw1 hb1 hb2 hg1 hg2 hbr z0 z1 hr hrk hn hPK
        go_wp2_with (first
          | (at_builtin; refine wpList_append_done rfl (.tmp 49) (.tmp 54) 22 rfl rfl rfl HRUN1.out ?_)
          | (at_builtin; refine wpList_append_done rfl (.tmp 56) (.tmp 58) 46 rfl rfl rfl HRUN2.out ?_))
        go_roundw
        case rel =>
          refine ⟨j + 1, n + 1, rs ++ [r], ao', ca', bo', cb', by omega, by go_num, rfl, rfl, by rw [List.length_append, HNN.out]; rfl, ?_, ?_, ?_, HAP.out, HBW.out⟩
          · rw [← HHR.out]; exact HRK.out.more hlt
          · rw [List.map_append]
            show DRow _ _ _ _ (rs.map dir16 ++ [dir16 r])
            rw [HDR.out]
            exact HRA.out
          · show NRow _ _ _ (List.map _ (rs ++ [r]))
            rw [List.map_append]
            exact HRB.out
        case measure => simp [intOf]; omega
      · have hMb : (M == 1) = false := by simp [hM1]
        have HRA := hid hra
        have HRB := hid hrb
        have HAP := hid hap
        have HBR := hid hbr
        clear hra hrb hap hbr hr hrk hn
        go_wp2
        go_roundw
        case rel => exact ⟨j + 1, n, rs, ao, ca, bo, cb, by omega, by go_num, rfl, rfl, HNN.out, HRK.out.stay, HRA.out, HRB.out, HAP.out, HBR.out⟩
        case measure => simp [intOf]; omega
    · have hjI : ¬ (j : Int) < 16 := by omega
      have HNN := hid hn
      have HRK := hid hrk
      have HA := hid (show Pts wr (.slice ao n ca) (rs.map dir16) from hra.pts)
      have HN := hid (show Nums wr (.slice bo n cb) (natsI rs) from hrb.nums)
      have HB := hid (HBA.out.trans (hbr.mono HBA.out.size))
      have HL := hid (show (rs.map dir16).length ≤ 60 by rw [List.length_map, hn]; omega)
      have H64 := hid (show ∀ p ∈ rs.map dir16, P64 p from fun p hp => by
        obtain ⟨x, hx, rfl⟩ := List.mem_map.1 hp
        have := small16 x (hrk.lt x hx)
        exact ⟨⟨by omega, by omega⟩, ⟨by omega, by omega⟩⟩)
      clear hra hrb hap hbr hrk hn HC16 HBA
      go_wp2
      go_loopw [8] (fun iv wx => ∃ i : Nat, i ≤ n ∧ iv = .int .i64 i ∧ Pts wx (.slice ao n ca) (rs.map dir16) ∧ Nums wx (.slice bo n cb) (natsI rs) ∧ Below w.heap.size w wx) (fun iv _ => n - (intOf iv).toNat)
      case atStart => exact ⟨0, by omega, rfl, HA.out, HN.out, HB.out⟩
      case round =>
        obtain ⟨i, hi, rfl, hA, hN, hbx⟩ := hrel
        clear HA HN HB
        have HA := hid hA
        have HN := hid hN
        have HB := hid hbx
        clear hA hN hbx
        by_cases hil : i < n
        · have hiI : (i : Int) < (n : Int) := by omega
          obtain ⟨ri, hri⟩ : ∃ r, rs[i]? = some r := ⟨_, List.getElem?_eq_getElem (by rw [HNN.out]; exact hil)⟩
          have hli : ri < 16 := HRK.out.lt ri (List.mem_of_getElem? hri)
          have HRI := hid hri
          clear hri
          go_wp2
          go_loopw [9, 10, 11] (fun uv dv kv wy => ∃ (k U D : Nat), k ≤ n ∧ kv = .int .i64 k ∧ uv = .int .i64 U ∧ dv = .int .i64 D ∧ upN rs i k = U ∧ downN rs i k = D ∧ Pts wy (.slice ao n ca) (rs.map dir16) ∧ Nums wy (.slice bo n cb) (natsI rs) ∧ Below w.heap.size w wy) (fun _ _ kv _ => n - (intOf kv).toNat)
          case atStart => exact ⟨0, i, i, by omega, rfl, rfl, rfl, rfl, rfl, HA.out, HN.out, HB.out⟩
          case round =>
            obtain ⟨k, U, D, hk, rfl, rfl, rfl, hU, hD, hA, hN, hby⟩ := hrel
            clear HA HN HB
            have HA := hid hA
            have HN := hid hN
            have HB := hid hby
            have HU := hid hU
            have HD := hid hD
            have hltU := upN_lt (rs := rs) (i := i) (by rw [HNN.out]; exact hil) k (by rw [HNN.out]; exact hk)
            rw [hU, hD, HNN.out] at hltU
            obtain ⟨hUn, hDn⟩ := hltU
            clear hA hN hby hU hD
            by_cases hkl : k < n
            · have hkI : (k : Int) < (n : Int) := by omega
              by_cases hki : k = i
              · subst hki
                go_wp2
                go_roundw
                case rel => exact ⟨k + 1, U, D, by omega, by go_num, rfl, rfl, by rw [upN_succ, HU.out]; simp [upF], by rw [downN_succ, HD.out]; simp [downF], HA.out, HN.out, HB.out⟩
                case measure => simp [intOf]; omega
              · have hkiB : ((k : Int) == (i : Int)) = false := by simpa using fun h => hki (by omega)
                obtain ⟨b, off, cap, hbv, hcell⟩ := HN.out.at (by rw [HNN.out]; omega)
                obtain ⟨rfl, -, rfl⟩ : bo = some ⟨b, off, none⟩ ∧ n = rs.length ∧ cb = cap := by injection hbv with e1 e2 e3; exact ⟨e1, e2, e3⟩
                obtain ⟨rk, hrk⟩ : ∃ r, rs[k]? = some r := ⟨_, List.getElem?_eq_getElem (by rw [HNN.out]; exact hkl)⟩
                obtain ⟨ru, hru⟩ : ∃ r, rs[U]? = some r := ⟨_, List.getElem?_eq_getElem (by rw [HNN.out]; exact hUn)⟩
                obtain ⟨rd, hrd⟩ : ∃ r, rs[D]? = some r := ⟨_, List.getElem?_eq_getElem (by rw [HNN.out]; exact hDn)⟩
                have hlk : rk < 16 := HRK.out.lt rk (List.mem_of_getElem? hrk)
                have hlu : ru < 16 := HRK.out.lt ru (List.mem_of_getElem? hru)
                have hld : rd < 16 := HRK.out.lt rd (List.mem_of_getElem? hrd)
                have f1 := far_int hli hlk
                have f2 := far_int hli hlu
                have f3 := far_int hlk hli
                have f4 := far_int hld hli
                have HUF := hid (show upF rs i U k = if U = i ∨ far16 ri rk < far16 ri ru then k else U by unfold upF; rw [if_neg hki, getD_nat HRI.out, getD_nat hrk, getD_nat hru])
                have HDF := hid (show downF rs i D k = if D = i ∨ far16 rk ri < far16 rd ri then k else D by unfold downF; rw [if_neg hki, getD_nat HRI.out, getD_nat hrk, getD_nat hrd])
                have hci := hcell i ri HRI.out
                have hck := hcell k rk hrk
                have hcu := hcell U ru hru
                have hcd := hcell D rd hrd
                have ki := cell_regrown hci; have kk := cell_regrown hck; have ku := cell_regrown hcu; have kd := cell_regrown hcd
                have hUnI : (U : Int) < (n : Int) := by omega
                have hDnI : (D : Int) < (n : Int) := by omega
                generalize far16 ri rk = F1 at *
                generalize far16 ri ru = F2 at *
                generalize far16 rk ri = F3 at *
                generalize far16 rd ri = F4 at *
                clear hbv hcell hrk hru hrd
                go_wp2
                refine wp_region_quiet_below (by kernel_rfl) (by kernel_rfl) ?_
                go_big_quiet_step (fail)
                go_big_quiet_step (fail)
                go_big_quiet_step (fail)
                go_big_quiet_step (fail)
                go_big_quiet_step (fail)
                go_big_quiet_step (fail)
                go_big_quiet_step (fail)
                go_big_quiet_step (fail)
                go_big_quiet_step (fail)
                go_big_quiet_step (fail)
                go_big_quiet_step (fail)
                go_big_quiet_step (fail)
                go_big_quiet_step (fail)
                go_big_quiet_step (fail)
                go_big_quiet_step (fail)
                go_big_quiet_step (fail)
                go_big_quiet_step (fail)
                go_big_quiet_step (fail)
                go_big_quiet_step (fail)
                go_big_quiet_step (fail)
                go_big_quiet_step (fail)
                go_big_quiet_step (fail)
                go_big_quiet_step (fail)
                go_big_quiet_step (fail)
                refine wpQuiet_nil ?_
                intro W1 hW'
                obtain ⟨⟨dq, osq⟩, hW⟩ := hW'
                have HW1 := hid (show Below wr.heap.size wr W1 by rw [hW]; exact below_regrown _ _ _)
                clear hW
                clear ki kk ku kd
                by_cases hU : U = i
                · have hUB : ((U : Int) == (i : Int)) = true := by simp [hU]
                  have HX := hid hU
                  clear hU
                  have hb1 := HW1.out
                  have ki2 := cell_regrown (cell_below hci hb1 (lt_of_cell hci)); have kk2 := cell_regrown (cell_below hck hb1 (lt_of_cell hck)); have kd2 := cell_regrown (cell_below hcd hb1 (lt_of_cell hcd))
                  clear hb1
                  go_wp2
                  refine wp_region_quiet_below (by kernel_rfl) (by kernel_rfl) ?_
                  go_big_quiet_step (fail)
                  go_big_quiet_step (fail)
                  go_big_quiet_step (fail)
                  go_big_quiet_step (fail)
                  go_big_quiet_step (fail)
                  go_big_quiet_step (fail)
                  go_big_quiet_step (fail)
                  go_big_quiet_step (fail)
                  go_big_quiet_step (fail)
                  go_big_quiet_step (fail)
                  go_big_quiet_step (fail)
                  go_big_quiet_step (fail)
                  go_big_quiet_step (fail)
                  go_big_quiet_step (fail)
                  go_big_quiet_step (fail)
                  go_big_quiet_step (fail)
                  go_big_quiet_step (fail)
                  go_big_quiet_step (fail)
                  go_big_quiet_step (fail)
                  go_big_quiet_step (fail)
                  go_big_quiet_step (fail)
                  go_big_quiet_step (fail)
                  go_big_quiet_step (fail)
                  go_big_quiet_step (fail)
                  refine wpQuiet_nil ?_
                  intro W2 hW'
                  obtain ⟨⟨dq, osq⟩, hW⟩ := hW'
                  have HW2 := hid (show Below W1.heap.size W1 W2 by rw [hW]; exact below_regrown _ _ _)
                  clear hW
                  clear ki2 kk2 kd2
                  by_cases hD : D = i
                  · have hDB : ((D : Int) == (i : Int)) = true := by simp [hD]
                    have HY := hid hD
                    clear hD
                    go_wp2
                    go_roundw
                    case rel =>
                      refine ⟨k + 1, _, _, by omega, by go_num, rfl, rfl, ?_, ?_, HA.out.below (HW1.out.trans (HW2.out.mono HW1.out.size)), HN.out.below (HW1.out.trans (HW2.out.mono HW1.out.size)), HB.out.trans ((HW1.out.trans (HW2.out.mono HW1.out.size)).mono HB.out.size)⟩
                      · rw [upN_succ, HU.out, HUF.out]
                        exact if_pos (.inl HX.out)
                      · rw [downN_succ, HD.out, HDF.out]
                        exact if_pos (.inl HY.out)
                    case measure => simp [intOf]; omega
                  · have hDB : ((D : Int) == (i : Int)) = false := by simpa using fun h => hD (by omega)
                    have HY := hid hD
                    clear hD
                    by_cases hDF : F3 < F4
                    · have hDI : (F3 : Int) < (F4 : Int) := by omega
                      go_wp2
                      go_roundw
                      case rel =>
                        refine ⟨k + 1, _, _, by omega, by go_num, rfl, rfl, ?_, ?_, HA.out.below (HW1.out.trans (HW2.out.mono HW1.out.size)), HN.out.below (HW1.out.trans (HW2.out.mono HW1.out.size)), HB.out.trans ((HW1.out.trans (HW2.out.mono HW1.out.size)).mono HB.out.size)⟩
                        · rw [upN_succ, HU.out, HUF.out]
                          exact if_pos (.inl HX.out)
                        · rw [downN_succ, HD.out, HDF.out]
                          exact if_pos (.inr (by omega))
                      case measure => simp [intOf]; omega
                    · have hDI : ¬ (F3 : Int) < (F4 : Int) := by omega
                      go_wp2
                      go_roundw
                      case rel =>
                        refine ⟨k + 1, _, _, by omega, by go_num, rfl, rfl, ?_, ?_, HA.out.below (HW1.out.trans (HW2.out.mono HW1.out.size)), HN.out.below (HW1.out.trans (HW2.out.mono HW1.out.size)), HB.out.trans ((HW1.out.trans (HW2.out.mono HW1.out.size)).mono HB.out.size)⟩
                        · rw [upN_succ, HU.out, HUF.out]
                          exact if_pos (.inl HX.out)
                        · rw [downN_succ, HD.out, HDF.out]
                          exact if_neg (fun h => h.elim HY.out (by omega))
                      case measure => simp [intOf]; omega
                · have hUB : ((U : Int) == (i : Int)) = false := by simpa using fun h => hU (by omega)
                  have HX := hid hU
                  clear hU
                  by_cases hUF : F1 < F2
                  · have hUI : (F1 : Int) < (F2 : Int) := by omega
                    have hb1 := HW1.out
                    have ki2 := cell_regrown (cell_below hci hb1 (lt_of_cell hci)); have kk2 := cell_regrown (cell_below hck hb1 (lt_of_cell hck)); have kd2 := cell_regrown (cell_below hcd hb1 (lt_of_cell hcd))
                    clear hb1
                    go_wp2
                    refine wp_region_quiet_below (by kernel_rfl) (by kernel_rfl) ?_
                    go_big_quiet_step (fail)
                    go_big_quiet_step (fail)
                    go_big_quiet_step (fail)
                    go_big_quiet_step (fail)
                    go_big_quiet_step (fail)
                    go_big_quiet_step (fail)
                    go_big_quiet_step (fail)
                    go_big_quiet_step (fail)
                    go_big_quiet_step (fail)
                    go_big_quiet_step (fail)
                    go_big_quiet_step (fail)
                    go_big_quiet_step (fail)
                    go_big_quiet_step (fail)
                    go_big_quiet_step (fail)
                    go_big_quiet_step (fail)
                    go_big_quiet_step (fail)
                    go_big_quiet_step (fail)
                    go_big_quiet_step (fail)
                    go_big_quiet_step (fail)
                    go_big_quiet_step (fail)
                    go_big_quiet_step (fail)
                    go_big_quiet_step (fail)
                    go_big_quiet_step (fail)
                    go_big_quiet_step (fail)
                    refine wpQuiet_nil ?_
                    intro W2 hW'
                    obtain ⟨⟨dq, osq⟩, hW⟩ := hW'
                    have HW2 := hid (show Below W1.heap.size W1 W2 by rw [hW]; exact below_regrown _ _ _)
                    clear hW
                    clear ki2 kk2 kd2
                    by_cases hD : D = i
                    · have hDB : ((D : Int) == (i : Int)) = true := by simp [hD]
                      have HY := hid hD
                      clear hD
                      go_wp2
                      go_roundw
                      case rel =>
                        refine ⟨k + 1, _, _, by omega, by go_num, rfl, rfl, ?_, ?_, HA.out.below (HW1.out.trans (HW2.out.mono HW1.out.size)), HN.out.below (HW1.out.trans (HW2.out.mono HW1.out.size)), HB.out.trans ((HW1.out.trans (HW2.out.mono HW1.out.size)).mono HB.out.size)⟩
                        · rw [upN_succ, HU.out, HUF.out]
                          exact if_pos (.inr (by omega))
                        · rw [downN_succ, HD.out, HDF.out]
                          exact if_pos (.inl HY.out)
                      case measure => simp [intOf]; omega
                    · have hDB : ((D : Int) == (i : Int)) = false := by simpa using fun h => hD (by omega)
                      have HY := hid hD
                      clear hD
                      by_cases hDF : F3 < F4
                      · have hDI : (F3 : Int) < (F4 : Int) := by omega
                        go_wp2
                        go_roundw
                        case rel =>
                          refine ⟨k + 1, _, _, by omega, by go_num, rfl, rfl, ?_, ?_, HA.out.below (HW1.out.trans (HW2.out.mono HW1.out.size)), HN.out.below (HW1.out.trans (HW2.out.mono HW1.out.size)), HB.out.trans ((HW1.out.trans (HW2.out.mono HW1.out.size)).mono HB.out.size)⟩
                          · rw [upN_succ, HU.out, HUF.out]
                            exact if_pos (.inr (by omega))
                          · rw [downN_succ, HD.out, HDF.out]
                            exact if_pos (.inr (by omega))
                        case measure => simp [intOf]; omega
                      · have hDI : ¬ (F3 : Int) < (F4 : Int) := by omega
                        go_wp2
                        go_roundw
                        case rel =>
                          refine ⟨k + 1, _, _, by omega, by go_num, rfl, rfl, ?_, ?_, HA.out.below (HW1.out.trans (HW2.out.mono HW1.out.size)), HN.out.below (HW1.out.trans (HW2.out.mono HW1.out.size)), HB.out.trans ((HW1.out.trans (HW2.out.mono HW1.out.size)).mono HB.out.size)⟩
                          · rw [upN_succ, HU.out, HUF.out]
                            exact if_pos (.inr (by omega))
                          · rw [downN_succ, HD.out, HDF.out]
                            exact if_neg (fun h => h.elim HY.out (by omega))
                        case measure => simp [intOf]; omega
                  · have hUI : ¬ (F1 : Int) < (F2 : Int) := by omega
                    have hb1 := HW1.out
                    have ki2 := cell_regrown (cell_below hci hb1 (lt_of_cell hci)); have kk2 := cell_regrown (cell_below hck hb1 (lt_of_cell hck)); have kd2 := cell_regrown (cell_below hcd hb1 (lt_of_cell hcd))
                    clear hb1
                    go_wp2
                    refine wp_region_quiet_below (by kernel_rfl) (by kernel_rfl) ?_
                    go_big_quiet_step (fail)
                    go_big_quiet_step (fail)
                    go_big_quiet_step (fail)
                    go_big_quiet_step (fail)
                    go_big_quiet_step (fail)
                    go_big_quiet_step (fail)
                    go_big_quiet_step (fail)
                    go_big_quiet_step (fail)
                    go_big_quiet_step (fail)
                    go_big_quiet_step (fail)
                    go_big_quiet_step (fail)
                    go_big_quiet_step (fail)
                    go_big_quiet_step (fail)
                    go_big_quiet_step (fail)
                    go_big_quiet_step (fail)
                    go_big_quiet_step (fail)
                    go_big_quiet_step (fail)
                    go_big_quiet_step (fail)
                    go_big_quiet_step (fail)
                    go_big_quiet_step (fail)
                    go_big_quiet_step (fail)
                    go_big_quiet_step (fail)
                    go_big_quiet_step (fail)
                    go_big_quiet_step (fail)
                    refine wpQuiet_nil ?_
                    intro W2 hW'
                    obtain ⟨⟨dq, osq⟩, hW⟩ := hW'
                    have HW2 := hid (show Below W1.heap.size W1 W2 by rw [hW]; exact below_regrown _ _ _)
                    clear hW
                    clear ki2 kk2 kd2
                    by_cases hD : D = i
                    · have hDB : ((D : Int) == (i : Int)) = true := by simp [hD]
                      have HY := hid hD
                      clear hD
                      go_wp2
                      go_roundw
                      case rel =>
                        refine ⟨k + 1, _, _, by omega, by go_num, rfl, rfl, ?_, ?_, HA.out.below (HW1.out.trans (HW2.out.mono HW1.out.size)), HN.out.below (HW1.out.trans (HW2.out.mono HW1.out.size)), HB.out.trans ((HW1.out.trans (HW2.out.mono HW1.out.size)).mono HB.out.size)⟩
                        · rw [upN_succ, HU.out, HUF.out]
                          exact if_neg (fun h => h.elim HX.out (by omega))
                        · rw [downN_succ, HD.out, HDF.out]
                          exact if_pos (.inl HY.out)
                      case measure => simp [intOf]; omega
                    · have hDB : ((D : Int) == (i : Int)) = false := by simpa using fun h => hD (by omega)
                      have HY := hid hD
                      clear hD
                      by_cases hDF : F3 < F4
                      · have hDI : (F3 : Int) < (F4 : Int) := by omega
                        go_wp2
                        go_roundw
                        case rel =>
                          refine ⟨k + 1, _, _, by omega, by go_num, rfl, rfl, ?_, ?_, HA.out.below (HW1.out.trans (HW2.out.mono HW1.out.size)), HN.out.below (HW1.out.trans (HW2.out.mono HW1.out.size)), HB.out.trans ((HW1.out.trans (HW2.out.mono HW1.out.size)).mono HB.out.size)⟩
                          · rw [upN_succ, HU.out, HUF.out]
                            exact if_neg (fun h => h.elim HX.out (by omega))
                          · rw [downN_succ, HD.out, HDF.out]
                            exact if_pos (.inr (by omega))
                        case measure => simp [intOf]; omega
                      · have hDI : ¬ (F3 : Int) < (F4 : Int) := by omega
                        go_wp2
                        go_roundw
                        case rel =>
                          refine ⟨k + 1, _, _, by omega, by go_num, rfl, rfl, ?_, ?_, HA.out.below (HW1.out.trans (HW2.out.mono HW1.out.size)), HN.out.below (HW1.out.trans (HW2.out.mono HW1.out.size)), HB.out.trans ((HW1.out.trans (HW2.out.mono HW1.out.size)).mono HB.out.size)⟩
                          · rw [upN_succ, HU.out, HUF.out]
                            exact if_neg (fun h => h.elim HX.out (by omega))
                          · rw [downN_succ, HD.out, HDF.out]
                            exact if_neg (fun h => h.elim HY.out (by omega))
                        case measure => simp [intOf]; omega
            · have hkI : ¬ (k : Int) < (n : Int) := by omega
              obtain rfl : k = n := by omega
              have hup := up_is HRK.out.1 HRK.out.lt (i := i) (by rw [HNN.out]; exact hil)
              rw [HNN.out, HU.out, HD.out] at hup
              have HX := hid hup.1
              have HY := hid hup.2
              have HK := hid (show I64 (i : Int) from ⟨by omega, by omega⟩)
              clear hup
              go_wp2_with (first
                | (go_at_call 7; refine (H.next _ (rs.map dir16) (i : Int) _ HA.out H64.out HK.out HL.out).mono ?_; rintro e w5 ⟨rfl, hb5⟩; replace HA := hid (HA.out.below hb5); replace HN := hid (HN.out.below hb5); replace HB := hid (HB.out.trans (hb5.mono HB.out.size)); clear hb5; rw [HX.out])
                | (go_at_call 8; refine (H.prev _ (rs.map dir16) (i : Int) _ HA.out H64.out HK.out HL.out).mono ?_; rintro e w6 ⟨rfl, hb6⟩; replace HA := hid (HA.out.below hb6); replace HN := hid (HN.out.below hb6); replace HB := hid (HB.out.trans (hb6.mono HB.out.size)); clear hb6; rw [HY.out]))
              go_roundw
              case rel => exact ⟨i + 1, by omega, by go_num, HA.out, HN.out, HB.out⟩
              case measure => simp [intOf]; omega
        · have hiI : ¬ (i : Int) < (n : Int) := by omega
          go_wp2_with (go_at_call 11; refine (turnAwake_any H _).mono ?_; rintro e w9 ⟨rfl, hb9⟩; replace HB := hid (HB.out.trans (hb9.mono HB.out.size)); clear hb9)
          go_ret
          exact ⟨rfl, HB.out⟩
end Go.Proofs.Ytccbjohiaboipaa
