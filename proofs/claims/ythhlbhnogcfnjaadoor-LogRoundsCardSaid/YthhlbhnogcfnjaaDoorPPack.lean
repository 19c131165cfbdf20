/-
  What pack.Uvar, Var, CRC, Seal, Open and bytes.Clone give, whatever the world; bytes as values.
-/
import Derived.Test.YthhlbhnogcfnjaaDoorMA
import Derived.Test.YthhlbhnogcfnjaaDoorMB
import Derived.Lib.LaidTab
import Derived.WalkSpells
import Derived.Deep.QuietTactic
import Derived.BigQuiet
import Derived.Lib.Strings
import Derived.Laws.AppendOwnNone
namespace Go.Proofs.YthhlbhnogcfnjaaDoor
open Go.RowKit Go.PlainAid


theorem info5 : (Tryd.prog.info? 5).map (fun i => (i.zero, i.size, i.bytes)) = some (some (.int .u8 0), 1, 1) := by kernel_rfl

set_option maxHeartbeats 400000 in
theorem appendUvar_any (v : Value) (n : Nat) (xs : List Value) (X : Int) (w : World) (base : Nat) (h0 : 0 ≤ X) (h1 : X ≤ 18446744073709551615)
    (hown : w.ownsRow base 5 1 v n xs) (hb : base ≤ w.heap.size) (hn : n + 10 ≤ 140737488355328) :
    Calls Tryd.prog 55 #[v, .int .u64 X] w fun e w' => ∃ v', e = .returned v' ∧
      w'.ownsRow base 5 1 v' (n + (uv X).length) (xs ++ (uv X).map (Value.int .u8)) ∧ Below base w w' := by
  obtain ⟨i0, hi, hz0, hz1, hz2⟩ := info_parts info5
  go_enter Tryd.func55, Tryd.ntmps55
  go_wp2
  go_loopw [0, 1] (fun u k wr => ∃ (f : Nat) (K : Int) (done : List Int), 0 ≤ K ∧ K < 2 * 128 ^ f ∧ k = .int .u64 K ∧ done.length + f = 9 ∧ done ++ uvF f K = uv X ∧
      wr.ownsRow base 5 1 u (n + done.length) (xs ++ done.map (Value.int .u8)) ∧ Below base w wr) (fun _ k _ => (intOf k).toNat)
  case atStart => exact ⟨9, X, [], h0, room_start h1, rfl, rfl, rfl, by simpa using hown, Below.refl _ _⟩
  case round =>
    obtain ⟨f, K, done, hK0, hK1, rfl, hf, hdone, hownr, hbr⟩ := hrel
    have hsz := hbr.size
    have h7 := low7 K
    by_cases hlt : 128 ≤ K
    · obtain ⟨g, rfl, hg⟩ := room_step hlt hK1
      have hm := uvF_more g hlt
      have HM : Hid (uvF (g + 1) K = (K % 128 + 128) :: uvF g (K / 128)) := hm
      have HD : Hid (done ++ uvF (g + 1) K = uv X) := hdone
      clear hm hdone
      go_wp2_with (at_builtin; refine wpList_append_own _ rfl (.tmp 7) (.tmp 11) 32 rfl base 5 i0 (.int .u8 0) 1 1 Tryd.underlying32 hi hz0 hz1 hz2 rfl (by decide) _ _ _ rfl (hownr.alloc _) ⟨wr.heap.size, 0, none⟩ 1 1 [.int .u8 (K % 128 + 128)] rfl rfl (cell_one_new _ _ _) (by intro u hu; simp at hu; subst hu; rfl) (by unfold maxLen; omega) (by omega) (by simp; omega) ?_; intro v' w1 hown1 hgrow1 _)
      go_roundw
      case rel =>
        refine ⟨g, K / 128, done ++ [K % 128 + 128], by omega, hg, rfl, by simp; omega, ?_, ?_, ?_⟩
        · rw [← HD.out, HM.out]; simp
        · simpa [Nat.add_assoc] using hown1
        · exact (hbr.alloc (by omega) _).grown hgrow1 (by simp; omega) (own_base hownr)
      case measure => simp [intOf]; omega
    · have HD : Hid (done ++ [K] = uv X) := by rw [← hdone, uvF_small f (by omega)]; exact rfl
      clear hdone
      go_wp2_with (at_builtin; refine wpList_append_own _ rfl (.tmp 15) (.tmp 18) 32 rfl base 5 i0 (.int .u8 0) 1 1 Tryd.underlying32 hi hz0 hz1 hz2 rfl (by decide) _ _ _ rfl (hownr.alloc _) ⟨wr.heap.size, 0, none⟩ 1 1 [.int .u8 K] rfl rfl (cell_one_new _ _ _) (by intro u hu; simp at hu; subst hu; rfl) (by unfold maxLen; omega) (by omega) (by simp; omega) ?_; intro v' w1 hown1 hgrow1 _)
      go_ret
      refine ⟨_, rfl, ?_, ?_⟩
      · rw [← HD.out]; simpa [Nat.add_assoc] using hown1
      · exact (hbr.alloc (by omega) _).grown hgrow1 (by simp; omega) (own_base hownr)

theorem uvar_any (X : Int) (w : World) (h0 : 0 ≤ X) (h1 : X ≤ 18446744073709551615) :
    Calls Tryd.prog 41 #[.int .u64 X] w fun e w' => ∃ v', e = .returned v' ∧
      w'.ownsRow w.heap.size 5 1 v' (uv X).length ((uv X).map (Value.int .u8)) ∧ Below w.heap.size w w' := by
  obtain ⟨i0, hi, hz0, hz1, hz2⟩ := info_parts info5
  go_enter Tryd.func41, Tryd.ntmps41
  go_wp2_with (first | (at_make; refine wpList_make_own _ rfl _ _ 32 rfl w.heap.size 5 i0 (.int .u8 0) 1 Tryd.underlying32 hi hz0 hz1 _ _ _ 10 rfl rfl (by omega) (by rw [hz2]; omega) (by unfold maxLen; omega) (Nat.le_refl _) ?_; intro w1 hown1 hgrow1; have hb1 : Below w.heap.size w w1 := (Below.refl _ _).grown hgrow1 (Nat.le_refl _) (by intro k hk; cases hk)) | (go_at_call 55; refine (appendUvar_any _ _ _ _ _ w.heap.size h0 h1 hown1 hb1.size (by omega)).mono ?_; rintro e w2 ⟨v', rfl, hown2, hb2⟩))
  go_ret
  exact ⟨_, rfl, by simpa using hown2, hb1.trans hb2⟩

theorem var_any (b off len cap : Nat) (zs : List Int) (w : World) (hz : zs.length = len) (hmax : len ≤ 9223372036854775807)
    (hc : ∀ j, j < len → w.cell? ⟨b, off + j, none⟩ = some (.int .u8 (zs.getD j 0)))
    (hr : ∀ j : Nat, 0 ≤ zs[j]?.getD 0 ∧ zs[j]?.getD 0 ≤ 255) :
    Calls Tryd.prog 50 #[.slice (some ⟨b, off, none⟩) len cap] w fun e w' =>
      e = .returned (.tuple #[.int .u64 (dec 0 0 zs).1, .int .i64 (dec 0 0 zs).2.1, .int .i64 (dec 0 0 zs).2.2]) ∧ w' = w := by
  go_enter Tryd.func50, Tryd.ntmps50
  go_wp2
  go_loop [2, 9] (fun x i => ∃ (k : Nat) (X : Int), k ≤ len ∧ k ≤ 9 ∧ i = .int .i64 k ∧ x = .int .u64 X ∧ 0 ≤ X ∧ X < 2 ^ (7 * k) ∧ dec 0 0 zs = dec X k (zs.drop k)) (fun _ i => len - (intOf i).toNat)
  case atStart => exact ⟨0, 0, by omega, by omega, rfl, rfl, by omega, by decide, rfl⟩
  case round =>
    obtain ⟨k, X, hk, hk9, rfl, rfl, hX0, hX1, hd⟩ := hrel
    by_cases hlt : k < len
    · obtain ⟨c, hcc⟩ : ∃ c, c = zs.getD k 0 := ⟨_, rfl⟩
      have hcell : w.cell? ⟨b, off + k, none⟩ = some (.int .u8 c) := hcc ▸ hc k hlt
      have hrk : 0 ≤ c ∧ c ≤ 255 := by have := hr k; rw [hcc]; simpa using this
      have hmask : bits .andNot .u8 c 128 = c % 128 := mask128 hrk.1 hrk.2
      have HD : Hid (dec 0 0 zs = dec X k (c :: zs.drop (k + 1))) := by rw [hd, drop_at hcc (by omega)]; exact rfl
      clear hd hc hr hcc
      by_cases hk9' : k = 9
      · subst hk9'
        rcases (show 1 < c ∨ c = 0 ∨ c = 1 by omega) with h | rfl | rfl
        · have hv : dec 0 0 zs = (0, 0, 5) := by rw [HD.out]; simp [dec, h]
          clear HD
          go_wp2
          go_ret3
          exact ⟨rfl, rfl⟩
        · have hv : dec 0 0 zs = (0, 0, 3) := by rw [HD.out]; simp [dec]
          clear HD
          go_wp2
          go_ret3
          exact ⟨rfl, rfl⟩
        · have hv : dec 0 0 zs = (X + 1 * 2 ^ 63, 10, 0) := by rw [HD.out]; simp [dec]
          have ho : bits .or .u64 X (1 * 2 ^ 63) = X + 1 * 2 ^ 63 := or_add hX0 hX1 (by omega) (by have : (2 : Int) ^ (7 * 9) = 9223372036854775808 := by decide
                                                                                                   omega)
          have HV : Hid (dec 0 0 zs = (bits .or .u64 X 9223372036854775808, 10, 0)) := by
            show _ = _
            rw [hv, ← ho]
            rfl
          clear HD hv ho
          go_wp2
          go_ret3
          refine ⟨?_, rfl⟩
          rw [HV.out]
          rfl
      · obtain ⟨ho, hn0, hn1⟩ := or_more (c := c) hX0 hX1 (show k ≤ 8 by omega)
        rcases (show 128 ≤ c ∨ (c = 0 ∧ 0 < k) ∨ (c = 0 ∧ k = 0) ∨ (0 < c ∧ c < 128) by omega) with h | ⟨rfl, h⟩ | ⟨rfl, rfl⟩ | ⟨h, h'⟩
        · have hv : dec 0 0 zs = dec (X + c % 128 * 2 ^ (7 * k)) (k + 1) (zs.drop (k + 1)) := by rw [HD.out]; simp [dec, h, hk9']
          have HV : Hid (dec 0 0 zs = dec (X + c % 128 * 2 ^ (7 * k)) (k + 1) (zs.drop (k + 1))) := hv
          clear HD hv
          go_wp2
          go_round
          case rel => exact ⟨k + 1, _, by omega, by omega, by go_num, rfl, hn0, hn1, HV.out⟩
          case measure => simp [intOf]; omega
        · have hv : dec 0 0 zs = (0, 0, 3) := by rw [HD.out]; simp [dec, h]
          clear HD
          go_wp2
          go_ret3
          exact ⟨rfl, rfl⟩
        · have hX : X = 0 := by simp at hX1; omega
          subst hX
          have hv : dec 0 0 zs = (0, 1, 0) := by rw [HD.out]; simp [dec]
          clear HD ho hn0 hn1 hX1 hX0 hk9'
          rw [Nat.add_zero] at hcell
          go_wp2
          go_ret3
          exact ⟨rfl, rfl⟩
        · have hv : dec 0 0 zs = (X + c % 128 * 2 ^ (7 * k), ((k + 1 : Nat) : Int), 0) := by
            rw [HD.out]
            have h1 : ¬ c = 0 := by omega
            have h2 : ¬ 128 ≤ c := by omega
            simp [dec, h1, h2, hk9']
          clear HD
          go_wp2
          go_ret3
          exact ⟨rfl, rfl⟩
    · have hv : dec 0 0 zs = (0, 0, 4) := by rw [hd, List.drop_eq_nil_of_le (by omega)]; rfl
      clear hd hc hr
      go_wp2
      go_ret3
      exact ⟨rfl, rfl⟩

theorem crc_any (b off len cap : Nat) (zs : List Int) (w : World) (hz : zs.length = len) (hmax : len ≤ 9223372036854775807)
    (hc : ∀ j, j < len → w.cell? ⟨b, off + j, none⟩ = some (.int .u8 (zs.getD j 0)))
    (hr : ∀ j : Nat, 0 ≤ zs[j]?.getD 0 ∧ zs[j]?.getD 0 ≤ 255)
    (ht : ∀ i, i < 16 → w.cell? ⟨0, i, none⟩ = some (.int .u32 (crcTab.getD i 0))) :
    Calls Tryd.prog 56 #[.slice (some ⟨b, off, none⟩) len cap] w fun e w' =>
      e = .returned (.int .u32 (crcL zs)) ∧ w' = w := by
  go_enter Tryd.func56, Tryd.ntmps56
  go_wp2
  go_loop [3, 8] (fun s i => ∃ (k : Nat), k ≤ len ∧ i = .int .i64 k ∧ s = .int .u32 (crcS (zs.take k))) (fun _ i => len - (intOf i).toNat)
  case atStart => exact ⟨0, by omega, rfl, rfl⟩
  case round =>
    obtain ⟨k, hk, rfl, rfl⟩ := hrel
    obtain ⟨S, hS⟩ : ∃ S, S = crcS (zs.take k) := ⟨_, rfl⟩
    rw [← hS]
    have HS : Hid (S = crcS (zs.take k)) := hS
    clear hS
    by_cases hlt : k < len
    · obtain ⟨c, hcc⟩ : ∃ c, c = zs.getD k 0 := ⟨_, rfl⟩
      have hcell : w.cell? ⟨b, off + k, none⟩ = some (.int .u8 c) := hcc ▸ hc k hlt
      have hrk : 0 ≤ c ∧ c ≤ 255 := by have := hr k; rw [hcc]; simpa using this
      have HC : Hid (c = zs.getD k 0) := hcc
      obtain ⟨T1, hT1⟩ : ∃ T, bits .xor .u32 S c = T := ⟨_, rfl⟩
      have b1 : 0 ≤ T1 ∧ T1 ≤ 4294967295 := hT1 ▸ xor32_bounds S c
      have a1 := and15 b1.1 b1.2
      obtain ⟨V1, hV1⟩ : ∃ V, V = crcTab.getD (T1 % 16).toNat 0 := ⟨_, rfl⟩
      have c1 : w.cell? ⟨0, (T1 % 16).toNat, none⟩ = some (.int .u32 V1) := hV1 ▸ ht _ (by omega)
      obtain ⟨T2, hT2⟩ : ∃ T, bits .xor .u32 (T1 / 16) V1 = T := ⟨_, rfl⟩
      have b2 : 0 ≤ T2 ∧ T2 ≤ 4294967295 := hT2 ▸ xor32_bounds _ _
      have a2 := and15 b2.1 b2.2
      obtain ⟨V2, hV2⟩ : ∃ V, V = crcTab.getD (T2 % 16).toNat 0 := ⟨_, rfl⟩
      have c2 : w.cell? ⟨0, (T2 % 16).toNat, none⟩ = some (.int .u32 V2) := hV2 ▸ ht _ (by omega)
      obtain ⟨T3, hT3⟩ : ∃ T, bits .xor .u32 (T2 / 16) V2 = T := ⟨_, rfl⟩
      have HT : Hid (T3 = crcStep S c) := by
        show T3 = crcHalf (crcHalf _)
        rw [hT1]; unfold crcHalf; rw [← hV1, hT2, ← hV2, hT3]
      clear hcc hV1 hV2 hc hr ht
      go_wp2
      go_round
      case rel => exact ⟨k + 1, by omega, by go_num, by rw [HT.out, HS.out, take_at HC.out (by omega)]; simp [crcS]⟩
      case measure => simp [intOf]; omega
    · clear hc hr ht
      have hv : crcS zs = S := by rw [HS.out, List.take_of_length_le (by omega)]
      go_wp2
      go_ret
      exact ⟨by first | rfl | (unfold crcL; rw [hv]; rfl), rfl⟩
/-- The slice v holds the bytes zs. -/
def Bs (w : World) (v : Value) (zs : List Int) : Prop :=
  (∀ j : Nat, 0 ≤ zs[j]?.getD 0 ∧ zs[j]?.getD 0 ≤ 255) ∧ zs.length ≤ 140737488355328 ∧
  ((∃ a cap, v = .slice a 0 cap ∧ zs = [] ∧ (a = none → cap = 0)) ∨
   ∃ b off cap, v = .slice (some ⟨b, off, none⟩) zs.length cap ∧ zs.length ≤ cap ∧ ∀ j, j < zs.length → w.cell? ⟨b, off + j, none⟩ = some (.int .u8 (zs.getD j 0)))

theorem Bs.byte {w : World} {v : Value} {zs : List Int} (h : Bs w v zs) : ∀ b ∈ zs, 0 ≤ b ∧ b ≤ 255 := fun b hb => by
  obtain ⟨i, hi, rfl⟩ := List.mem_iff_getElem.1 hb
  have := h.1 i
  rwa [List.getElem?_eq_getElem hi] at this

/-- The program's table stands. -/
def TabOk (w : World) : Prop := ∀ i, i < 16 → w.cell? ⟨0, i, none⟩ = some (.int .u32 (crcTab.getD i 0))

theorem TabOk.lt {w : World} (h : TabOk w) : 0 < w.heap.size := lt_of_cell (h 0 (by omega))
theorem TabOk.below {w w' : World} {B : Nat} (h : TabOk w) (hb : Below B w w') (hB : w.heap.size ≤ B) : TabOk w' := fun i hi => by
  rw [hb.cell (p := ⟨_, i, none⟩) (Nat.lt_of_lt_of_le h.lt hB)]; exact h i hi
theorem TabOk.alloc {w : World} (h : TabOk w) (o : Obj) : TabOk (w.alloc o) := h.below ((Below.refl w.heap.size w).alloc (Nat.le_refl _) o) (Nat.le_refl _)

theorem Bs.below {w w' : World} {v : Value} {zs : List Int} (h : Bs w v zs) (hb : Below w.heap.size w w') : Bs w' v zs := by
  refine ⟨h.1, h.2.1, ?_⟩
  rcases h.2.2 with h' | ⟨b, off, cap, rfl, hcap, hc⟩
  · exact .inl h'
  · refine .inr ⟨b, off, cap, rfl, hcap, fun j hj => ?_⟩
    rw [hb.cell (p := ⟨b, off + j, none⟩) (lt_of_cell (hc j hj))]; exact hc j hj

theorem Bs.shape {w : World} {v : Value} {zs : List Int} (h : Bs w v zs) (hz : 1 ≤ zs.length) : ∃ b off cap, v = .slice (some ⟨b, off, none⟩) zs.length cap := by
  rcases h.2.2 with ⟨a, cap, rfl, rfl, _⟩ | ⟨b, off, cap, rfl, _⟩
  · simp at hz
  · exact ⟨b, off, cap, rfl⟩

theorem range_of {l : List Int} (h : ∀ b ∈ l, 0 ≤ b ∧ b ≤ 255) (j : Nat) : 0 ≤ l[j]?.getD 0 ∧ l[j]?.getD 0 ≤ 255 := by
  rcases Nat.lt_or_ge j l.length with hj | hj
  · rw [List.getElem?_eq_getElem hj]; exact h _ (List.getElem_mem hj)
  · rw [List.getElem?_eq_none hj]; exact ⟨by decide, by decide⟩

/-- A row of bytes that is owned. -/
theorem bs_of_own {w : World} {base n : Nat} {v : Value} {l : List Int} (h : w.ownsRow base 5 1 v n (l.map (Value.int .u8))) (hr : ∀ b ∈ l, 0 ≤ b ∧ b ≤ 255) (hm : l.length ≤ 140737488355328) : Bs w v l := by
  have hl : l.length = n := by simpa using h.1
  refine ⟨range_of hr, hm, ?_⟩
  rcases h.2 with ⟨rfl, hn⟩ | ⟨g, cap, cur, rfl, hg, hh, hnc, hcm, hcs, ht⟩
  · exact .inl ⟨none, 0, rfl, List.eq_nil_of_length_eq_zero (by omega), fun _ => rfl⟩
  · refine .inr ⟨g, 0, cap, by rw [hl], by omega, fun j hj => ?_⟩
    have hj' : j < cur.size := by omega
    have e : (cur.toList.take (n * 1))[j]? = some (.int .u8 (l.getD j 0)) := by
      rw [ht]; simp [List.getElem?_eq_getElem hj]
    rw [List.getElem?_take] at e
    rw [if_pos (by omega)] at e
    simp only [World.cell?, hh]
    simpa using e

theorem bytesToString_empty (w : World) (a : Option Addr) (cap : Nat) : (convert 32 9 (.slice a 0 cap)).run Tryd.prog w = .ok (.string (strOfNums [])) w := by
  cases a with
  | none => exact run_convert_bytes_nil w 32 5 Tryd.underlying32 Tryd.underlying5 0 cap 9 Tryd.underlying9
  | some ad =>
    rw [run_convert_bytes_string w 32 9 5 _ 0 cap Tryd.underlying32 Tryd.underlying5 Tryd.underlying9]
    have hl : (loadCells ad 0).run Tryd.prog w = .ok ([].map (Value.int .u8)).toArray w := by
      have := run_loadCells_list (P := Tryd.prog) w ad [] (fun j v hj => by simp at hj)
      simpa using this
    rw [run_bytesToString w ad 0 cap [] hl]
    rfl

theorem Bs.conv {w : World} {v : Value} {zs : List Int} (h : Bs w v zs) : (convert 32 9 v).run Tryd.prog w = .ok (.string (strOfNums zs)) w := by
  rcases h.2.2 with ⟨a, cap, rfl, rfl, _⟩ | ⟨b, off, cap, rfl, _, hc⟩
  · exact bytesToString_empty w a cap
  · exact run_convert_bytes_arg w 32 5 Tryd.underlying32 Tryd.underlying5 b off _ cap zs rfl hc 9 Tryd.underlying9

theorem var_empty (a : Option Addr) (cap : Nat) (w : World) :
    Calls Tryd.prog 50 #[.slice a 0 cap] w fun e w' => e = .returned (.tuple #[.int .u64 0, .int .i64 0, .int .i64 4]) ∧ w' = w := by
  go_enter Tryd.func50, Tryd.ntmps50
  go_wp2
  refine wp_loop_rounds 1 ?_
  rw [rounds_succ]
  go_wp2
  go_ret3
  exact ⟨rfl, rfl⟩
theorem var_bs {w : World} {v : Value} {zs : List Int} (h : Bs w v zs) :
    Calls Tryd.prog 50 #[v] w fun e w' => e = .returned (.tuple #[.int .u64 (dec 0 0 zs).1, .int .i64 (dec 0 0 zs).2.1, .int .i64 (dec 0 0 zs).2.2]) ∧ w' = w := by
  rcases h.2.2 with ⟨a, cap, rfl, rfl, _⟩ | ⟨b, off, cap, rfl, _, hc⟩
  · exact var_empty a cap w
  · exact var_any b off _ cap zs w rfl (by have := h.2.1; omega) hc h.1

theorem crc_empty (a : Option Addr) (cap : Nat) (w : World) :
    Calls Tryd.prog 56 #[.slice a 0 cap] w fun e w' => e = .returned (.int .u32 (crcL [])) ∧ w' = w := by
  go_enter Tryd.func56, Tryd.ntmps56
  go_wp2
  refine wp_loop_rounds 1 ?_
  rw [rounds_succ]
  go_wp2
  go_ret
  exact ⟨rfl, rfl⟩
theorem crc_bs {w : World} {v : Value} {zs : List Int} (h : Bs w v zs) (ht : TabOk w) :
    Calls Tryd.prog 56 #[v] w fun e w' => e = .returned (.int .u32 (crcL zs)) ∧ w' = w := by
  rcases h.2.2 with ⟨a, cap, rfl, rfl, _⟩ | ⟨b, off, cap, rfl, _, hc⟩
  · exact crc_empty a cap w
  · exact crc_any b off _ cap zs w rfl (by have := h.2.1; omega) hc h.1 ht

/-- A slice literal of bytes, in the world that it was laid in. -/
theorem bs_new (w : World) (l : List Int) (hr : ∀ b ∈ l, 0 ≤ b ∧ b ≤ 255) (hm : l.length ≤ 140737488355328) : Bs (w.alloc (.cells (l.map (Value.int .u8)).toArray 5)) (.slice (some ⟨w.heap.size, 0, none⟩) l.length l.length) l := by
  refine ⟨range_of hr, hm, .inr ⟨w.heap.size, 0, l.length, rfl, Nat.le_refl _, fun j hj => ?_⟩⟩
  have : (w.alloc (.cells (l.map (Value.int .u8)).toArray 5)).heap[w.heap.size]? = some (.cells (l.map (Value.int .u8)).toArray 5) := by
    show (w.heap.push _)[w.heap.size]? = _
    simp
  simp only [World.cell?, this]
  simp [List.getElem?_eq_getElem hj]

theorem Bs.open {w : World} {v : Value} {zs : List Int} (h : Bs w v zs) : ∃ ao cap, v = .slice ao zs.length cap ∧ (1 ≤ zs.length → ∃ b off, ao = some ⟨b, off, none⟩ ∧ ∀ j, j < zs.length → w.cell? ⟨b, off + j, none⟩ = some (.int .u8 (zs.getD j 0))) := by
  rcases h.2.2 with ⟨a, cap, rfl, rfl, _⟩ | ⟨b, off, cap, rfl, hcap, hc⟩
  · exact ⟨a, cap, rfl, fun h => by simp at h⟩
  · exact ⟨some ⟨b, off, none⟩, cap, rfl, fun _ => ⟨b, off, rfl, hc⟩⟩
theorem Bs.len_le {w : World} {ao : Option Addr} {len cap : Nat} {zs : List Int} (h : Bs w (.slice ao len cap) zs) : len = zs.length ∧ len ≤ cap := by
  rcases h.2.2 with ⟨a, c, hv, rfl, _⟩ | ⟨b, off, c, hv, hcap, _⟩
  · injection hv with _ e2 e3
    subst e2
    exact ⟨rfl, Nat.zero_le _⟩
  · injection hv with _ e2 e3
    subst e2 e3
    exact ⟨rfl, hcap⟩

theorem Bs.head {w : World} {ao : Option Addr} {len cap hi : Nat} {zs : List Int} (h : Bs w (.slice ao len cap) zs) (h2 : hi ≤ zs.length) : Bs w (.slice ao hi cap) (zs.take hi) := by
  have hb : ∀ b ∈ zs.take hi, 0 ≤ b ∧ b ≤ 255 := fun b hb => h.byte b (List.mem_of_mem_take hb)
  have hlen : (zs.take hi).length = hi := by simp; omega
  refine ⟨range_of hb, by have := h.2.1; omega, ?_⟩
  rcases h.2.2 with ⟨a, c, hv, rfl, hn⟩ | ⟨b, off, c, hv, hcap, hc⟩
  · injection hv with e1 e2 e3
    subst e1 e2 e3
    obtain rfl : hi = 0 := by simpa using h2
    exact .inl ⟨_, _, rfl, by simp, hn⟩
  · injection hv with e1 e2 e3
    subst e1 e2 e3
    refine .inr ⟨b, off, cap, by rw [hlen], by omega, fun j hj => ?_⟩
    rw [hlen] at hj
    rw [hc j (by omega)]
    simp [hj]


/-- 'append(buf, xs...)', buf a row of bytes that the call itself made, xs bytes of whatever kind. -/
theorem wpList_append_bs {w : World} {ops : Array Oper} {rest : List Oper} {o : Oper} {a : Act} {Q : Exit → Act → World → Prop} (hgd : o.guard = none) (s x : Operand)
    (ho : o.op = .call { callee := .builtin .append, args := #[s, x], argTypes := #[32, 32] })
    (base : Nat) (v : Value) (n : Nat) (xs : List Value) (hs : a.eval s = v) (hown : w.ownsRow base 5 1 v n xs) (u : Value) (zs : List Int) (hx : a.eval x = u) (hu : Bs w u zs)
    (hbytes : n + zs.length ≤ 140737488355328) (hbase : base ≤ w.heap.size)
    (h : ∀ v' w', w'.ownsRow base 5 1 v' (n + zs.length) (xs ++ zs.map (Value.int .u8)) → w.grownBy w' v.ownBlock → wpList Tryd.prog ops Q rest (a.put o.dst v') w') : wpList Tryd.prog ops Q (o :: rest) a w := by
  obtain ⟨i0, hi, hz0, hz1, hz2⟩ := info_parts info5
  rcases hu.2.2 with ⟨ao, cap, rfl, rfl, hn⟩ | ⟨b, off, cap, rfl, _, hc⟩
  · cases ao with
    | none =>
      obtain rfl := hn rfl
      exact wpList_append_own_none hgd s x 32 ho base 5 i0 1 Tryd.underlying32 hi v n xs hs hown hx (h v w (by simpa using hown) (World.grownBy.refl _ _))
    | some ad =>
      exact wpList_append_own w hgd s x 32 ho base 5 i0 (.int .u8 0) 1 1 Tryd.underlying32 hi hz0 hz1 hz2 rfl (by decide) v n xs hs hown ad 0 cap [] hx rfl (by intro j u hj; simp at hj) (by intro u hu; simp at hu) (by unfold maxLen; simp at hbytes; omega) (by simp at hbytes; omega) hbase
        (fun v' w' h1 h2 _ => h v' w' (by simpa using h1) h2)
  · refine wpList_append_own w hgd s x 32 ho base 5 i0 (.int .u8 0) 1 1 Tryd.underlying32 hi hz0 hz1 hz2 rfl (by decide) v n xs hs hown ⟨b, off, none⟩ zs.length cap (zs.map (Value.int .u8)) hx (by simp) (fun j u hj => ?_) (ints_oneCell _ _) (by unfold maxLen; omega) (by omega) hbase
        (fun v' w' h1 h2 _ => h v' w' h1 h2)
    have hjl : j < zs.length := by
      have := (List.getElem?_eq_some_iff.1 hj).1
      simpa using this
    rw [Addr.add_lit, hc j hjl, ← hj]
    simp [hjl]
/-- A slice of a slice of bytes. -/
theorem Bs.cutAt {w : World} {ao : Option Addr} {len cap lo hi : Nat} {zs : List Int} (h : Bs w (.slice ao len cap) zs) (h1 : lo ≤ hi) (h2 : hi ≤ zs.length) : Bs w (.slice (if cap = lo then ao else ao.map (·.add lo)) (hi - lo) (cap - lo)) ((zs.take hi).drop lo) := by
  have hb : ∀ b ∈ (zs.take hi).drop lo, 0 ≤ b ∧ b ≤ 255 := fun b hb => h.byte b (List.mem_of_mem_take (List.mem_of_mem_drop hb))
  have hlen : ((zs.take hi).drop lo).length = hi - lo := by simp; omega
  refine ⟨range_of hb, by have := h.2.1; omega, ?_⟩
  rcases h.2.2 with ⟨a, c, hv, rfl, hn⟩ | ⟨b, off, c, hv, hcap, hc⟩
  · injection hv with e1 e2 e3
    subst e1 e2 e3
    obtain rfl : hi = 0 := by simpa using h2
    obtain rfl : lo = 0 := by omega
    refine .inl ⟨_, _, rfl, by simp, fun hno => ?_⟩
    cases ao with
    | none => simp [hn rfl]
    | some ad => split at hno <;> simp at hno
  · injection hv with e1 e2 e3
    subst e1 e2 e3
    by_cases h0 : hi = lo
    · subst h0
      refine .inl ⟨if cap = hi then some ⟨b, off, none⟩ else some (Addr.add ⟨b, off, none⟩ hi), cap - hi, by simp, ?_, fun hno => ?_⟩
      · exact List.eq_nil_of_length_eq_zero (by omega)
      · split at hno <;> simp at hno
    · refine .inr ⟨b, off + lo, cap - lo, ?_, by omega, fun j hj => ?_⟩
      · rw [if_neg (by omega), hlen]
        simp [Addr.add_lit]
      · rw [hlen] at hj
        rw [Nat.add_assoc, hc (lo + j) (by omega)]
        simp [show lo + j < hi by omega]

/-- '[]byte{}', just laid, is a row of the call's own. -/
theorem own_empty (w : World) (base : Nat) (hb : base ≤ w.heap.size) : (w.alloc (.cells #[] 5)).ownsRow base 5 1 (.slice (some ⟨w.heap.size, 0, none⟩) 0 0) 0 [] := by
  refine ⟨rfl, .inr ⟨w.heap.size, 0, #[], rfl, hb, ?_, Nat.le_refl _, Nat.zero_le _, rfl, rfl⟩⟩
  show (w.heap.push _)[w.heap.size]? = _
  simp
/-- Four bytes, just laid. -/
theorem bs_four (w : World) (a b c d : Int) (h : ∀ x ∈ [a, b, c, d], 0 ≤ x ∧ x ≤ 255) : Bs (w.alloc (.cells #[.int .u8 a, .int .u8 b, .int .u8 c, .int .u8 d] 5)) (.slice (some ⟨w.heap.size, 0, none⟩) 4 4) [a, b, c, d] := bs_new w [a, b, c, d] h (by simp)
theorem be4_low {C : Int} (h0 : 0 ≤ C) (h1 : C ≤ 4294967295) : [C / 16777216, C / 65536 % 256, C / 256 % 256, C % 256] = be4 C := by
  have : C / 16777216 % 256 = C / 16777216 := by omega
  simp [be4, this]

theorem seal_any {w : World} {v : Value} {zs : List Int} (h : Bs w v zs) (ht : TabOk w) (hl : zs.length + 4 ≤ 140737488355328) :
    Calls Tryd.prog 42 #[v] w fun e w' => ∃ v', e = .returned v' ∧ w'.ownsRow w.heap.size 5 1 v' (sealL zs).length ((sealL zs).map (Value.int .u8)) ∧ Below w.heap.size w w' := by
  obtain ⟨i0, hi, hz0, hz1, hz2⟩ := info_parts info5
  obtain ⟨ao, cap, rfl, _⟩ := h.open
  have H := hid h
  have HC := hid (crc_bs h ht)
  have hb := crcL_bounds h.byte
  have hbl := be4_low hb.1 hb.2
  have HS : Hid (sealL zs = zs ++ be4 (crcL zs)) := rfl
  clear h ht
  generalize crcL zs = C at *
  have HBL := hid hbl
  have hby : ∀ x ∈ [C / 16777216, C / 65536 % 256, C / 256 % 256, C % 256], 0 ≤ x ∧ x ≤ 255 := hbl ▸ be4_byte C
  have HBY := hid hby
  clear hbl hby
  obtain ⟨n, hn⟩ : ∃ n, n = zs.length := ⟨_, rfl⟩
  rw [← hn] at H HC hl ⊢
  have HN := hid hn
  clear hn
  go_enter Tryd.func42, Tryd.ntmps42
  go_wp2_with (first | (go_at_call 56; refine HC.out.mono ?_; rintro e wz ⟨rfl, hwz⟩; have hwz' := hwz.symm; clear hwz; subst hwz') | (at_make; refine wpList_make_own _ rfl _ _ 32 rfl w.heap.size 5 i0 (.int .u8 0) 1 Tryd.underlying32 hi hz0 hz1 _ _ _ (n + 4) rfl rfl (by omega) (by rw [hz2]; omega) (by unfold maxLen; omega) (Nat.le_refl _) ?_; intro w1 hown1 hgrow1; have hB1 : Below w.heap.size w w1 := (Below.refl _ _).grown hgrow1 (Nat.le_refl _) (by intro k hk; cases hk)) | (at_builtin; refine wpList_append_bs rfl (.tmp 11) (.tmp 12) rfl w.heap.size _ _ _ rfl hown1 (.slice ao n cap) zs rfl (H.out.below hB1) (by have := HN.out; omega) hB1.size ?_; intro v2 w2 hown2 hgrow2; have hB2 := hB1.grown hgrow2 hB1.size (own_base hown1)) | (at_builtin; refine wpList_append_bs rfl (.tmp 14) (.tmp 26) rfl w.heap.size v2 _ _ rfl (hown2.alloc _) (.slice (some ⟨w2.heap.size, 0, none⟩) 4 4) _ rfl (bs_four w2 _ _ _ _ HBY.out) (by have := HN.out; simp; omega) (by have := hB2.size; simp; omega) ?_; intro v3 w3 hown3 hgrow3; have hB3 := (hB2.alloc hB2.size _).grown hgrow3 (by have := hB2.size; simp; omega) (own_base hown2)))
  go_ret
  refine ⟨_, rfl, ?_, hB3⟩
  rw [HS.out]
  rw [HBL.out] at hown3
  simpa using hown3

theorem bs_clone_own {w : World} {v : Value} {zs : List Int} (h : Bs w v zs) (hl : zs.length ≤ 140737488355328) :
    Calls Tryd.prog 22 #[v] w fun e w' => ∃ v', e = .returned v' ∧ w'.ownsRow w.heap.size 5 1 v' zs.length (zs.map (Value.int .u8)) ∧ Below w.heap.size w w' := by
  obtain ⟨ao, cap, rfl, _⟩ := h.open
  have H := hid h
  have hnil : ∀ (wx : World) (a : Option Addr) (n c : Nat), (binOp .eql 32 (.slice a n c) (.slice none 0 0)).run Tryd.prog wx = .ok (.bool a.isNone) wx := fun wx a n c => Lib.run_eql_slice_nil wx _ _ a n c 0 0 Tryd.underlying32
  cases ao with
  | none =>
    obtain rfl : zs = [] := by
      rcases h.2.2 with ⟨a, c, hv, h0, _⟩ | ⟨b, off, c, hv, _⟩
      · exact h0
      · injection hv with e1; cases e1
    have hcap : cap = 0 := by
      rcases h.2.2 with ⟨a, c, hv, _, hn⟩ | ⟨b, off, c, hv, _⟩
      · injection hv with e1 e2 e3
        rw [e3]; exact hn e1.symm
      · injection hv with e1; cases e1
    subst hcap
    clear h
    go_enter Tryd.func22, Tryd.ntmps22
    go_wp2
    go_ret
    exact ⟨_, rfl, World.ownsRow_nil _ _ _ _, Below.refl _ _⟩
  | some ad =>
    have hby := h.byte
    clear h
    have HBY := hid hby
    clear hby
    go_enter Tryd.func22, Tryd.ntmps22
    go_wp2_with (at_builtin; refine wpList_append_bs rfl (.tmp 5) (.tmp 6) rfl w.heap.size (.slice (some ⟨w.heap.size, 0, none⟩) 0 0) _ _ rfl (own_empty w _ (Nat.le_refl _)) (.slice (some ad) zs.length cap) zs rfl (H.out.below ((Below.refl _ _).alloc (Nat.le_refl _) _)) (by omega) (by simp) ?_; intro v2 w2 hown2 hgrow2; have hB2 : Below w.heap.size w w2 := ((Below.refl _ _).alloc (Nat.le_refl _) _).grown hgrow2 (by simp) (own_base (own_empty w w.heap.size (Nat.le_refl _))))
    go_ret
    exact ⟨_, rfl, by simpa using hown2, hB2⟩
theorem bs_clone {w : World} {v : Value} {zs : List Int} (h : Bs w v zs) (hl : zs.length ≤ 140737488355328) :
    Calls Tryd.prog 22 #[v] w fun e w' => ∃ v', e = .returned v' ∧ Bs w' v' zs ∧ Below w.heap.size w w' :=
  (bs_clone_own h hl).mono fun _ _ ⟨v', he, ho, hb⟩ => ⟨v', he, bs_of_own ho h.byte hl, hb⟩
theorem num4_or {a b c d : Int} (ha : 0 ≤ a ∧ a ≤ 255) (hb : 0 ≤ b ∧ b ≤ 255) (hc : 0 ≤ c ∧ c ≤ 255) (hd : 0 ≤ d ∧ d ≤ 255) :
    bits .or .u32 (bits .or .u32 (bits .or .u32 (a * 16777216) (b * 65536)) (c * 256)) d = a * 16777216 + b * 65536 + c * 256 + d := by
  obtain ⟨x, rfl⟩ := Int.eq_ofNat_of_zero_le ha.1
  obtain ⟨y, rfl⟩ := Int.eq_ofNat_of_zero_le hb.1
  obtain ⟨z, rfl⟩ := Int.eq_ofNat_of_zero_le hc.1
  obtain ⟨u, rfl⟩ := Int.eq_ofNat_of_zero_le hd.1
  have e1 : bits .or .u32 ((x : Int) * 16777216) ((y : Int) * 65536) = ((x * 16777216 + y * 65536 : Nat) : Int) := by
    rw [u32_or _ _ (by omega) (by omega) (by omega) (by omega), show ((x : Int) * 16777216).toNat = x * 16777216 by omega, show ((y : Int) * 65536).toNat = y * 65536 by omega,
      nat_join 24 (x * 16777216) (y * 65536) (by simp) (by omega)]
  have e2 : bits .or .u32 ((x * 16777216 + y * 65536 : Nat) : Int) ((z : Int) * 256) = ((x * 16777216 + y * 65536 + z * 256 : Nat) : Int) := by
    rw [u32_or _ _ (by omega) (by omega) (by omega) (by omega), Int.toNat_natCast, show ((z : Int) * 256).toNat = z * 256 by omega,
      nat_join 16 (x * 16777216 + y * 65536) (z * 256) (by omega) (by omega)]
  have e3 : bits .or .u32 ((x * 16777216 + y * 65536 + z * 256 : Nat) : Int) (u : Int) = ((x * 16777216 + y * 65536 + z * 256 + u : Nat) : Int) := by
    rw [u32_or_nat _ _ (by omega) (by omega), nat_join 8 (x * 16777216 + y * 65536 + z * 256) u (by omega) (by omega)]
  rw [e1, e2, e3]
  omega

theorem Bs.tail {w : World} {b off n cap lo : Nat} {zs : List Int} (h : Bs w (.slice (some ⟨b, off, none⟩) n cap) zs) (hlo : lo < zs.length) : ∀ j, lo + j < zs.length → w.cell? ⟨b, off + lo + j, none⟩ = some (.int .u8 (zs.getD (lo + j) 0)) := by
  intro j hj
  rcases h.2.2 with ⟨a, c, hv, rfl, _⟩ | ⟨b', off', c, hv, _, hc⟩
  · simp at hlo
  · injection hv with e1 _ _
    injection e1 with e1
    injection e1 with e1 e2 _
    subst e1 e2
    have := hc (lo + j) hj
    rw [← Nat.add_assoc] at this
    exact this

set_option maxRecDepth 8000 in
set_option maxHeartbeats 1600000 in
theorem open_own {w : World} {v : Value} {zs : List Int} (h : Bs w v zs) (ht : TabOk w) :
    Calls Tryd.prog 54 #[v] w fun e w' => ∃ v', e = .returned (.tuple #[v', .int .i64 (openE zs)]) ∧ w'.ownsRow w.heap.size 5 1 v' (openB zs).length ((openB zs).map (Value.int .u8)) ∧ Below w.heap.size w w' := by
  obtain ⟨ao, cap, rfl, hfo⟩ := h.open
  have H := hid h
  have HT := hid ht
  have hln := h.len_le
  have hbz := h.byte
  have hmx := h.2.1
  clear h ht
  obtain ⟨n, hn⟩ : ∃ n, n = zs.length := ⟨_, rfl⟩
  rw [← hn] at H hfo hln hmx ⊢
  have HN := hid hn
  by_cases h4 : n < 4
  · have he : openE zs = 4 := by unfold openE; rw [if_pos (by omega)]
    have hB : openB zs = [] := by unfold openB; rw [he]; rfl
    rw [he, hB]
    clear he hB hn hfo hbz
    go_enter Tryd.func54, Tryd.ntmps54
    go_wp2
    go_ret2
    exact ⟨_, rfl, World.ownsRow_nil _ _ _ _, Below.refl _ _⟩
  · obtain ⟨b, off, rfl, _⟩ := hfo (by omega)
    have htl := H.out.tail (lo := n - 4) (by omega)
    have c0 := htl 0 (by omega)
    have c1 := htl 1 (by omega)
    have c2 := htl 2 (by omega)
    have c3 := htl 3 (by omega)
    have hbody := H.out.head (hi := n - 4) (by omega)
    have hbyte : ∀ k, k < n → 0 ≤ zs.getD k 0 ∧ zs.getD k 0 ≤ 255 := fun k hk => by have := H.out.1 k; rw [← List.getD_eq_getElem?_getD] at this; exact this
    have hor := num4_or (hbyte (n - 4 + 0) (by omega)) (hbyte (n - 4 + 1) (by omega)) (hbyte (n - 4 + 2) (by omega)) (hbyte (n - 4 + 3) (by omega))
    have hnum : num4 (zs.drop (n - 4)) = zs.getD (n - 4 + 0) 0 * 16777216 + zs.getD (n - 4 + 1) 0 * 65536 + zs.getD (n - 4 + 2) 0 * 256 + zs.getD (n - 4 + 3) 0 := by
      unfold num4; simp
    obtain ⟨x0, h0⟩ : ∃ x, x = zs.getD (n - 4 + 0) 0 := ⟨_, rfl⟩
    obtain ⟨x1, h1⟩ : ∃ x, x = zs.getD (n - 4 + 1) 0 := ⟨_, rfl⟩
    obtain ⟨x2, h2⟩ : ∃ x, x = zs.getD (n - 4 + 2) 0 := ⟨_, rfl⟩
    obtain ⟨x3, h3⟩ : ∃ x, x = zs.getD (n - 4 + 3) 0 := ⟨_, rfl⟩
    have r0 : 0 ≤ x0 ∧ x0 ≤ 255 := h0 ▸ hbyte _ (by omega)
    have r1 : 0 ≤ x1 ∧ x1 ≤ 255 := h1 ▸ hbyte _ (by omega)
    have r2 : 0 ≤ x2 ∧ x2 ≤ 255 := h2 ▸ hbyte _ (by omega)
    have r3 : 0 ≤ x3 ∧ x3 ≤ 255 := h3 ▸ hbyte _ (by omega)
    rw [← h0] at c0
    rw [← h1] at c1
    rw [← h2] at c2
    rw [← h3] at c3
    rw [← h0, ← h1, ← h2, ← h3] at hor hnum
    obtain ⟨N, hN⟩ : ∃ N, N = x0 * 16777216 + x1 * 65536 + x2 * 256 + x3 := ⟨_, rfl⟩
    rw [← hN] at hor hnum
    have hd : ∀ m, Below w.heap.size w (w.drewN m) := fun m => below_drewN (Below.refl _ _) m
    have HD := hid hd
    have HC := hid (fun m => crc_bs (hbody.below (hd m)) (HT.out.below (hd m) (Nat.le_refl _)))
    have HK := hid (fun m => bs_clone_own (hbody.below (hd m)) (by simp; omega))
    have hopen : openE zs = if crcL (zs.take (n - 4)) = N then 0 else 3 := by unfold openE; rw [← HN.out, if_neg h4, hnum]
    obtain ⟨C, hC⟩ : ∃ C, C = crcL (zs.take (n - 4)) := ⟨_, rfl⟩
    rw [← hC] at HC hopen
    have hdec : decide ((n : Int) < 4) = false := by simp; omega
    rw [Nat.add_zero] at c0
    clear h0 h1 h2 h3 hbyte htl hnum hn hbz hC hN hd hbody
    by_cases hq : C = N
    · have hB : openB zs = zs.take (n - 4) := by unfold openB; rw [hopen, if_pos hq, if_pos rfl, ← HN.out]
      have he : openE zs = 0 := by rw [hopen, if_pos hq]
      have hne : (C != N) = false := by simp [hq]
      rw [hB, he]
      clear hB he hopen hq
      go_enter Tryd.func54, Tryd.ntmps54
      go_wp2
      go_quiet (fail)
      go_wp2
      have i0 : (0 : Int) < ((n - (n - 4) : Nat) : Int) := by omega
      have i1 : (1 : Int) < ((n - (n - 4) : Nat) : Int) := by omega
      have i2 : (2 : Int) < ((n - (n - 4) : Nat) : Int) := by omega
      have i3 : (3 : Int) < ((n - (n - 4) : Nat) : Int) := by omega
      go_quiet (fail)
      go_wp2_with (first | (go_at_call 56; refine (HC.out _).mono ?_; rintro e wz ⟨rfl, hwz⟩; have hwz' := hwz.symm; clear hwz; subst hwz') | (go_at_call 22; refine (HK.out _).mono ?_; rintro e w2 ⟨v2, rfl, hh2, hb2⟩))
      go_ret2
      exact ⟨_, rfl, hh2, (HD.out _).trans hb2⟩
    · have he : openE zs = 3 := by rw [hopen, if_neg hq]
      have hB : openB zs = [] := by unfold openB; rw [he]; rfl
      have hne : (C != N) = true := by simpa using hq
      rw [hB, he]
      clear hB he hopen hq
      go_enter Tryd.func54, Tryd.ntmps54
      go_wp2
      go_quiet (fail)
      go_wp2
      have i0 : (0 : Int) < ((n - (n - 4) : Nat) : Int) := by omega
      have i1 : (1 : Int) < ((n - (n - 4) : Nat) : Int) := by omega
      have i2 : (2 : Int) < ((n - (n - 4) : Nat) : Int) := by omega
      have i3 : (3 : Int) < ((n - (n - 4) : Nat) : Int) := by omega
      go_quiet (fail)
      go_wp2_with (go_at_call 56; refine (HC.out _).mono ?_; rintro e wz ⟨rfl, hwz⟩; have hwz' := hwz.symm; clear hwz; subst hwz')
      go_ret2
      exact ⟨_, rfl, World.ownsRow_nil _ _ _ _, HD.out _⟩
theorem open_any {w : World} {v : Value} {zs : List Int} (h : Bs w v zs) (ht : TabOk w) :
    Calls Tryd.prog 54 #[v] w fun e w' => ∃ v', e = .returned (.tuple #[v', .int .i64 (openE zs)]) ∧ Bs w' v' (openB zs) ∧ Below w.heap.size w w' := by
  have hl := h.2.1
  have hb := h.byte
  refine (open_own h ht).mono fun _ _ ⟨v', he, ho, hb'⟩ => ⟨v', he, bs_of_own ho (fun b hx => hb b ?_) ?_, hb'⟩
  · unfold openB at hx
    split at hx
    · exact List.mem_of_mem_take hx
    · simp at hx
  · unfold openB
    split
    · simp; omega
    · simp
end Go.Proofs.YthhlbhnogcfnjaaDoor
