/-
  Bytes as values; empty slices; what awake gives: true, and nothing old turned.
-/
import Derived.Test.YtongdccpoefnlaaDoorRead
import Derived.WalkLawsBesides
namespace Go.Proofs.YtongdccpoefnlaaDoor
open Go.RowKit

/-- A fact that the walk is not to use by itself. -/
theorem hid {p : Prop} (h : p) : Hid p := h

/-- The slice v holds the bytes zs. -/
def Has (w : World) (v : Value) (zs : List Int) : Prop :=
  (∀ j : Nat, 0 ≤ zs[j]?.getD 0 ∧ zs[j]?.getD 0 ≤ 255) ∧ zs.length ≤ 140737488355328 ∧
  ((∃ a cap, v = .slice a 0 cap ∧ zs = [] ∧ (a = none → cap = 0)) ∨
   ∃ b off cap, v = .slice (some ⟨b, off, none⟩) zs.length cap ∧ zs.length ≤ cap ∧ ∀ j, j < zs.length → w.cell? ⟨b, off + j, none⟩ = some (.int .u8 (zs.getD j 0)))

/-- The program's table stands. -/
def TabOk (w : World) : Prop := ∀ i, i < 16 → w.cell? ⟨0, i, none⟩ = some (.int .u32 (crcTab.getD i 0))

theorem lt_of_cell {w : World} {b o : Nat} {v : Value} (h : w.cell? ⟨b, o, none⟩ = some v) : b < w.heap.size := by
  rcases Nat.lt_or_ge b w.heap.size with hb | hb
  · exact hb
  · have : w.heap[b]? = none := by simpa using hb
    simp [World.cell?, this] at h
theorem TabOk.lt {w : World} (h : TabOk w) : 0 < w.heap.size := lt_of_cell (h 0 (by omega))
theorem TabOk.below {w w' : World} {B : Nat} (h : TabOk w) (hb : Below B w w') (hB : w.heap.size ≤ B) : TabOk w' := fun i hi => by
  rw [hb.cell (p := ⟨_, i, none⟩) (Nat.lt_of_lt_of_le h.lt hB)]; exact h i hi
theorem TabOk.alloc {w : World} (h : TabOk w) (o : Obj) : TabOk (w.alloc o) := h.below ((Below.refl w.heap.size w).alloc (Nat.le_refl _) o) (Nat.le_refl _)

theorem Has.below {w w' : World} {v : Value} {zs : List Int} (h : Has w v zs) (hb : Below w.heap.size w w') : Has w' v zs := by
  refine ⟨h.1, h.2.1, ?_⟩
  rcases h.2.2 with h' | ⟨b, off, cap, rfl, hcap, hc⟩
  · exact .inl h'
  · refine .inr ⟨b, off, cap, rfl, hcap, fun j hj => ?_⟩
    rw [hb.cell (p := ⟨b, off + j, none⟩) (lt_of_cell (hc j hj))]; exact hc j hj

theorem Has.shape {w : World} {v : Value} {zs : List Int} (h : Has w v zs) (hz : 1 ≤ zs.length) : ∃ b off cap, v = .slice (some ⟨b, off, none⟩) zs.length cap := by
  rcases h.2.2 with ⟨a, cap, rfl, rfl, _⟩ | ⟨b, off, cap, rfl, _⟩
  · simp at hz
  · exact ⟨b, off, cap, rfl⟩

theorem range_of {l : List Int} (h : ∀ b ∈ l, 0 ≤ b ∧ b ≤ 255) (j : Nat) : 0 ≤ l[j]?.getD 0 ∧ l[j]?.getD 0 ≤ 255 := by
  rcases Nat.lt_or_ge j l.length with hj | hj
  · rw [List.getElem?_eq_getElem hj]; exact h _ (List.getElem_mem hj)
  · rw [List.getElem?_eq_none hj]; exact ⟨by decide, by decide⟩

/-- A row of bytes that is owned. -/
theorem has_of_own {w : World} {base n : Nat} {v : Value} {l : List Int} (h : w.ownsRow base 5 1 v n (l.map (Value.int .u8))) (hr : ∀ b ∈ l, 0 ≤ b ∧ b ≤ 255) (hm : l.length ≤ 140737488355328) : Has w v l := by
  have hl : l.length = n := by simpa using h.1
  refine ⟨range_of hr, hm, ?_⟩
  rcases h.2 with ⟨rfl, hn⟩ | ⟨g, cap, cur, rfl, hg, hh, hnc, hcm, hcs, ht⟩
  · exact .inl ⟨none, 0, rfl, List.eq_nil_of_length_eq_zero (by omega), fun _ => rfl⟩
  · refine .inr ⟨g, 0, cap, by rw [hl], by omega, fun j hj => ?_⟩
    have hj' : j < cur.size := by omega
    have e : (cur.toList.take (n * 1))[j]? = some (.int .u8 (l.getD j 0)) := by
      rw [ht]; simp [List.getElem?_eq_getElem hj]
    rw [List.getElem?_take] at e
    rw [if_pos (by omega)] at e
    simp only [World.cell?, hh]
    simpa using e

theorem bytesToString_empty (w : World) (a : Option Addr) (cap : Nat) : (convert 22 9 (.slice a 0 cap)).run Tryd.prog w = .ok (.string (strOfNums [])) w := by
  cases a with
  | none => exact run_convert_bytes_nil w 22 5 Tryd.underlying22 Tryd.underlying5 0 cap 9 Tryd.underlying9
  | some ad =>
    rw [run_convert_bytes_string w 22 9 5 _ 0 cap Tryd.underlying22 Tryd.underlying5 Tryd.underlying9]
    have hl : (loadCells ad 0).run Tryd.prog w = .ok ([].map (Value.int .u8)).toArray w := by
      have := run_loadCells_list (P := Tryd.prog) w ad [] (fun j v hj => by simp at hj)
      simpa using this
    rw [run_bytesToString w ad 0 cap [] hl]
    rfl

theorem Has.conv {w : World} {v : Value} {zs : List Int} (h : Has w v zs) : (convert 22 9 v).run Tryd.prog w = .ok (.string (strOfNums zs)) w := by
  rcases h.2.2 with ⟨a, cap, rfl, rfl, _⟩ | ⟨b, off, cap, rfl, _, hc⟩
  · exact bytesToString_empty w a cap
  · exact run_convert_bytes_arg w 22 5 Tryd.underlying22 Tryd.underlying5 b off _ cap zs rfl hc 9 Tryd.underlying9

theorem var_empty (a : Option Addr) (cap : Nat) (w : World) :
    Calls Tryd.prog 16 #[.slice a 0 cap] w fun e w' => e = .returned (.tuple #[.int .u64 0, .int .i64 0, .int .i64 4]) ∧ w' = w := by
  go_enter Tryd.func16, Tryd.ntmps16
  go_wp2
  refine wp_loop_rounds 1 ?_
  rw [rounds_succ]
  go_wp2
  go_ret3
  exact ⟨rfl, rfl⟩
theorem var_has {w : World} {v : Value} {zs : List Int} (h : Has w v zs) :
    Calls Tryd.prog 16 #[v] w fun e w' => e = .returned (.tuple #[.int .u64 (dec 0 0 zs).1, .int .i64 (dec 0 0 zs).2.1, .int .i64 (dec 0 0 zs).2.2]) ∧ w' = w := by
  rcases h.2.2 with ⟨a, cap, rfl, rfl, _⟩ | ⟨b, off, cap, rfl, _, hc⟩
  · exact var_empty a cap w
  · exact var_any b off _ cap zs w rfl (by have := h.2.1; omega) hc h.1

theorem crc_empty (a : Option Addr) (cap : Nat) (w : World) :
    Calls Tryd.prog 9 #[.slice a 0 cap] w fun e w' => e = .returned (.int .u32 (crcL [])) ∧ w' = w := by
  go_enter Tryd.func9, Tryd.ntmps9
  go_wp2
  refine wp_loop_rounds 1 ?_
  rw [rounds_succ]
  go_wp2
  go_ret
  exact ⟨rfl, rfl⟩
theorem crc_has {w : World} {v : Value} {zs : List Int} (h : Has w v zs) (ht : TabOk w) :
    Calls Tryd.prog 9 #[v] w fun e w' => e = .returned (.int .u32 (crcL zs)) ∧ w' = w := by
  rcases h.2.2 with ⟨a, cap, rfl, rfl, _⟩ | ⟨b, off, cap, rfl, _, hc⟩
  · exact crc_empty a cap w
  · exact crc_any b off _ cap zs w rfl (by have := h.2.1; omega) hc h.1 ht

/-- A slice literal of bytes, in the world that it was laid in. -/
theorem has_new (w : World) (l : List Int) (hr : ∀ b ∈ l, 0 ≤ b ∧ b ≤ 255) (hm : l.length ≤ 140737488355328) : Has (w.alloc (.cells (l.map (Value.int .u8)).toArray 5)) (.slice (some ⟨w.heap.size, 0, none⟩) l.length l.length) l := by
  refine ⟨range_of hr, hm, .inr ⟨w.heap.size, 0, l.length, rfl, Nat.le_refl _, fun j hj => ?_⟩⟩
  have : (w.alloc (.cells (l.map (Value.int .u8)).toArray 5)).heap[w.heap.size]? = some (.cells (l.map (Value.int .u8)).toArray 5) := by
    show (w.heap.push _)[w.heap.size]? = _
    simp
  simp only [World.cell?, this]
  simp [List.getElem?_eq_getElem hj]

theorem dec_awake : dec 0 0 [172, 2, 9] = (300, 2, 0) := by decide
theorem uv_300 : strOfNums (uv 300) = ⟨#[172, 2]⟩ := by decide
theorem uv_m3 : strOfNums (uv (zig (-3))) = ⟨#[5]⟩ := by decide
theorem crc_check : crcL [49, 50, 51, 52, 53, 54, 55, 56, 57] = 3421780262 := by decide +kernel

/-- A slice of bytes out of a text that is written in the program: its row bears the mark behind its last cell. -/
theorem conv_same (w : World) (C : Array Value) (n c : Nat) : (convert 22 22 (.slice (some ⟨w.heap.size, 0, none⟩) n c)).run Tryd.prog (w.alloc (.cells C 5)) =
    .ok (.slice (some ⟨w.heap.size, 0, none⟩) n c) (w.alloc (.cells C 5 (C.size, C.size + 1))) := by
  have hsh : (w.alloc (.cells C 5)).shape? w.heap.size = some (5, C.size) := by
    have : (w.alloc (.cells C 5)).heap[w.heap.size]? = some (.cells C 5) := by
      show (w.heap.push (.cells C 5))[w.heap.size]? = _
      simp
    unfold World.shape?
    rw [this]
  have hfr : (w.alloc (.cells C 5)).freeze ⟨w.heap.size, C.size, none⟩ 1 = w.alloc (.cells C 5 (C.size, C.size + 1)) := by
    have hm : ∀ (a : Array Obj) (x : Obj) (f : Obj → Obj), (a.push x).modify a.size f = a.push (f x) := by
      intro a x f
      apply Array.ext
      · simp
      · intro i h1 h2
        simp only [Array.getElem_modify, Array.getElem_push]
        by_cases h : a.size = i
        · subst h
          simp
        · have hi : i < a.size := by simp at h1; omega
          simp [h, hi]
    unfold World.freeze
    rw [if_neg (by decide)]
    show ({ w.alloc (.cells C 5) with heap := (w.heap.push (.cells C 5)).modify w.heap.size _ } : World) = _
    rw [hm]
    rfl
  simp [convert, run_underlying Tryd.underlying22, run_underlying Tryd.underlying5, markStringish, hsh]
  exact hfr
/-- A row of bytes with that mark. -/
theorem has_text (w : World) (l : List Int) (m : Nat × Nat) (hr : ∀ b ∈ l, 0 ≤ b ∧ b ≤ 255) (hm : l.length ≤ 140737488355328) : Has (w.alloc (.cells (l.map (Value.int .u8)).toArray 5 m)) (.slice (some ⟨w.heap.size, 0, none⟩) l.length l.length) l := by
  refine ⟨range_of hr, hm, .inr ⟨w.heap.size, 0, l.length, rfl, Nat.le_refl _, fun j hj => ?_⟩⟩
  have : (w.alloc (.cells (l.map (Value.int .u8)).toArray 5 m)).heap[w.heap.size]? = some (.cells (l.map (Value.int .u8)).toArray 5 m) := by
    show (w.heap.push _)[w.heap.size]? = _
    simp
  simp only [World.cell?, this]
  simp [List.getElem?_eq_getElem hj]

theorem awake_var (w : World) : Calls Tryd.prog 16 #[.slice (some ⟨w.heap.size, 0, none⟩) 3 3] (w.alloc (.cells #[.int .u8 172, .int .u8 2, .int .u8 9] 5))
    fun e w' => e = .returned (.tuple #[.int .u64 300, .int .i64 2, .int .i64 0]) ∧ w' = w.alloc (.cells #[.int .u8 172, .int .u8 2, .int .u8 9] 5) := by
  have h := var_has (has_new w [172, 2, 9] (by decide) (by decide))
  rw [dec_awake] at h
  exact h
theorem awake_crc (w : World) (ht : TabOk w) : Calls Tryd.prog 9 #[.slice (some ⟨w.heap.size, 0, none⟩) 9 9] (w.alloc (.cells #[.int .u8 49, .int .u8 50, .int .u8 51, .int .u8 52, .int .u8 53, .int .u8 54, .int .u8 55, .int .u8 56, .int .u8 57] 5 (9, 10)))
    fun e w' => e = .returned (.int .u32 3421780262) ∧ Below w.heap.size w w' := by
  have h := crc_has (has_text w [49, 50, 51, 52, 53, 54, 55, 56, 57] (9, 10) (by decide) (by decide)) (ht.alloc _)
  rw [crc_check] at h
  exact h.mono fun e w' ⟨he, hw⟩ => ⟨he, hw ▸ (Below.refl w.heap.size w).alloc (Nat.le_refl _) _⟩
/-- What Uvar's answer is as a string. -/
theorem uvar_str (X : Int) (w : World) (h0 : 0 ≤ X) (h1 : X ≤ 18446744073709551615) :
    Calls Tryd.prog 13 #[.int .u64 X] w fun e w' => ∃ v', e = .returned v' ∧ Has w' v' (uv X) ∧ Below w.heap.size w w' :=
  (uvar_any X w h0 h1).mono fun _ _ ⟨v', he, ho, hb⟩ => ⟨v', he, has_of_own ho (uv_byte h0 h1) (by have := uv_len X; omega), hb⟩
theorem int_str (y : Int) (w : World) (h0 : -9223372036854775808 ≤ y) (h1 : y ≤ 9223372036854775807) :
    Calls Tryd.prog 11 #[.int .i64 y] w fun e w' => ∃ v', e = .returned v' ∧ Has w' v' (uv (zig y)) ∧ Below w.heap.size w w' :=
  (int_any y w h0 h1).mono fun _ _ ⟨v', he, ho, hb⟩ => ⟨v', he, has_of_own ho (uv_byte (zig_bounds h0 h1).1 (zig_bounds h0 h1).2) (by have := uv_len (zig y); omega), hb⟩

set_option maxHeartbeats 400000 in
theorem awake_any (w : World) (ht : TabOk w) :
    Calls Tryd.prog 10 #[] w fun e w' => e = .returned (.bool true) ∧ Below w.heap.size w w' := by
  have HT : Hid (TabOk w) := ht
  clear ht
  have hb0 : Below w.heap.size w (w.alloc (.cells #[.int .u8 172, .int .u8 2, .int .u8 9] 5)) := (Below.refl w.heap.size w).alloc (Nat.le_refl _) _
  have hsame := conv_same
  go_enter Tryd.func10, Tryd.ntmps10
  go_wp2_with (first | (go_at_call 16; refine (awake_var w).mono ?_; rintro e w1 ⟨rfl, rfl⟩) | (go_at_call 13; refine (uvar_str 300 _ (by omega) (by omega)).mono ?_; rintro e w2 ⟨v2, rfl, hh2, hb2⟩; have hc2 := hh2.conv; rw [uv_300] at hc2; have hB2 := hb0.trans (hb2.mono (by simp))) | (go_at_call 11; refine (int_str (-3) _ (by omega) (by omega)).mono ?_; rintro e w3 ⟨v3, rfl, hh3, hb3⟩; have hc3 := hh3.conv; rw [uv_m3] at hc3; have hB3 := hB2.trans (hb3.mono hB2.size)) | (go_at_call 9; refine (awake_crc _ (HT.out.below hB3 (Nat.le_refl _))).mono ?_; rintro e w4 ⟨rfl, hb4⟩; have hB4 := hB3.trans (hb4.mono hB3.size)))
  go_ret
  exact ⟨rfl, hB4⟩
end Go.Proofs.YtongdccpoefnlaaDoor
