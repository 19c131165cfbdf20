/-
  LogRounds: the Log and its disk between two calls.
-/
import Derived.Test.YthhlbhnogcfnjaaDoorWRing
import Derived.Test.YthhlbhnogcfnjaaDoorWCut
import Derived.Test.YthhlbhnogcfnjaaDoorWCutL
import Derived.Test.YthhlbhnogcfnjaaDoorWOpenSame
import Derived.Test.YthhlbhnogcfnjaaDoorDCrash
import Derived.Test.YthhlbhnogcfnjaaDoorWTellsWalk
namespace Go.Proofs.YthhlbhnogcfnjaaDoor
open Go.RowKit Go.Shelf

/-- The Log with the records c to i, those up to i0 flushed, and its disk. -/
structure LrI (w : World) (T c i i0 L B N : Nat) (W : World) : Prop where
  log : ∃ d, LogIs W w.heap.size L B 64 0 40 d (lgR T c i i0) ∧ d.left = -1 ∧ d.wait = [] ∧ d.writes ≤ N ∧ RgD T i0 d.now ∧ HdIs T c d.now
  below : Below w.heap.size w W
/-- What the numbers keep to. -/
structure LrN (T c i i0 : Nat) : Prop where
  tt : T ≤ 255
  ii : i ≤ 60
  c1 : 1 ≤ c
  ci : c ≤ i + 1
  oo : i0 ≤ i
  room : i + 1 ≤ c + 5
  late : i ≤ i0 + 5
theorem LrN.mul {T c i i0 : Nat} (h : LrN T c i i0) : (i + 1 - c) * (T + 16) ≤ 1355 ∧ (c - 1) * (T + 16) + (i + 1 - c) * (T + 16) = i * (T + 16) ∧ i * (T + 16) ≤ 16260 ∧ i0 * (T + 16) ≤ i * (T + 16) ∧ i * (T + 16) ≤ i0 * (T + 16) + 1355 := by
  have h1 := h.tt; have h2 := h.ii; have h3 := h.c1; have h4 := h.ci; have h5 := h.oo; have h6 := h.room; have h7 := h.late
  refine ⟨?_, ?_, ?_, Nat.mul_le_mul_right _ h5, ?_⟩
  · have : (i + 1 - c) * (T + 16) ≤ 5 * 271 := Nat.mul_le_mul (by omega) (by omega)
    omega
  · rw [← Nat.add_mul, show c - 1 + (i + 1 - c) = i by omega]
  · have : i * (T + 16) ≤ 60 * 271 := Nat.mul_le_mul (by omega) (by omega)
    omega
  · have e : i * (T + 16) = i0 * (T + 16) + (i - i0) * (T + 16) := by rw [← Nat.add_mul, show i0 + (i - i0) = i by omega]
    have : (i - i0) * (T + 16) ≤ 5 * 271 := Nat.mul_le_mul (by omega) (by omega)
    omega
theorem lgR_tail {T c i i0 : Nat} (h : LrN T c i i0) : (lgR T c i i0).tail.length = i * (T + 16) - i0 * (T + 16) / 48 * 48 := by
  show ((str T i).drop _).length = _
  rw [List.length_drop, str_len h.tt (by have := h.ii; omega)]
theorem lgR_recs {T c i i0 : Nat} : (lgR T c i i0).recs.length = i + 1 - c := rcs_len _ _ _

theorem LrI.start {w W : World} {L B T : Nat} (h : LogIs W w.heap.size L B 64 0 40 (Dk.new 64).flush Lg.fresh) (hb : Below w.heap.size w W) : LrI w T 1 0 0 L B 0 W :=
  ⟨⟨_, by rw [← lgR_new]; exact h, rfl, rfl, Int.le_refl _, RgD.new T, HdIs.new T⟩, hb⟩
theorem LrI.app {w W W1 : World} {T c i i0 L B N : Nat} (h : LrI w T c i i0 L B N W) (hn : LrN T c i i0) (hn1 : LrN T c (i + 1) i0) (ht : TabOk w) (hb : Below W.heap.size W W1) {v : Value} (hv : ArgBs W.heap.size W1 v (recL (i + 1) T)) :
    Calls Tryd.prog 6 #[.pointer (some ⟨L, 0, none⟩), v] W1 fun e w' => e = .returned (.tuple #[.int .u64 ((i + 1 : Nat) : Int), .int .i64 0]) ∧ LrI w T c (i + 1) i0 L B N w' := by
  obtain ⟨d, hl, h1, h2, h3, h4, h5⟩ := h.log
  obtain ⟨m1, m2, m3, m4, m5⟩ := hn.mul
  obtain ⟨n1, n2, n3, n4, n5⟩ := hn1.mul
  have hT := hn.tt; have hi := hn.ii; have hc := hn.ci; have hi0 := hn.oo; have hc1 := hn.c1
  have htl := lgR_tail hn
  have hrl := lgR_recs (T := T) (c := c) (i := i) (i0 := i0)
  have hbw : Below w.heap.size w W1 := h.below.trans (hb.mono h.below.size)
  have hsuc : (i + 1) * (T + 16) = i * (T + 16) + (T + 16) := Nat.succ_mul _ _
  refine (append_any hl hb (by rw [h1]; decide) (ht.below hbw (Nat.le_refl _)) ht.lt hv (by rw [recL_len]; omega) (by show (c - 1) * (T + 16) ≤ i * (T + 16); omega) (by rw [recL_len]; show T + 16 + (i * (T + 16) - (c - 1) * (T + 16)) ≤ 48 * (40 - 8); omega) (by rw [hrl]; show c + (i + 1 - c) ≤ _; omega) (by show i * (T + 16) ≤ _; omega) (by rw [hrl]; omega) (by rw [htl]; omega)).mono ?_
  rintro e w' ⟨rfl, hl', hk'⟩
  rw [lgR_add hT (by omega) hi0 hc] at hl'
  refine ⟨?_, ⟨d, hl', h1, h2, h3, h4, h5⟩, hbw.trans hk'.below⟩
  rw [hrl, show (lgR T c i i0).first + (i + 1 - c) = i + 1 by show c + (i + 1 - c) = _; omega]

/-- What a Flush leaves on the disk. -/
theorem lr_flush {T c i i0 q : Nat} {d : Dk} (hn : LrN T c i i0) (h1 : d.left = -1) (h4 : RgD T i0 d.now) (hq1 : (lgR T c i i0).tail.length ≤ q * 48) (hq2 : q * 48 < (lgR T c i i0).tail.length + 48) :
    RgD T i (flushD 0 40 q d (lgR T c i i0)).now ∧ (flushD 0 40 q d (lgR T c i i0)).now.getD 0 [] = d.now.getD 0 [] := by
  obtain ⟨m1, m2, m3, m4, m5⟩ := hn.mul
  have hT := hn.tt; have hi := hn.ii; have hc := hn.ci; have hi0 := hn.oo; have hc1 := hn.c1
  have htl := lgR_tail hn
  have hrl := lgR_recs (T := T) (c := c) (i := i) (i0 := i0)
  unfold flushD
  by_cases hlt : i0 < i
  · rw [if_pos (by rw [hrl]; show i0 + 1 < c + (i + 1 - c); omega), htl, show (lgR T c i i0).stop = i * (T + 16) from rfl, show (i * (T + 16) - (i * (T + 16) - i0 * (T + 16) / 48 * 48)) / 48 = i0 * (T + 16) / 48 by omega]
    exact h4.flush h1 hi0 hT (by omega) hq1 hq2 (by rw [htl] at hq2; omega)
  · rw [if_neg (by rw [hrl]; show ¬ (i0 + 1 < c + (i + 1 - c)); omega), show i = i0 by omega]
    exact ⟨h4, rfl⟩
theorem lr_q {T c i i0 : Nat} (hn : LrN T c i i0) : ∃ q, (lgR T c i i0).tail.length ≤ q * 48 ∧ q * 48 < (lgR T c i i0).tail.length + 48 ∧ q ≤ 31 := by
  obtain ⟨m1, m2, m3, m4, m5⟩ := hn.mul
  refine ⟨((lgR T c i i0).tail.length + 47) / 48, by omega, by omega, ?_⟩
  rw [lgR_tail hn]
  omega
theorem LrI.flush {w W : World} {T c i i0 L B N : Nat} (h : LrI w T c i i0 L B N W) (hn : LrN T c i i0) (hN : N ≤ 100000) (ht : TabOk w) :
    Calls Tryd.prog 10 #[.pointer (some ⟨L, 0, none⟩)] W fun e w' => e = .returned (.int .i64 0) ∧ LrI w T c i i L B (N + 40) w' := by
  obtain ⟨d, hl, h1, h2, h3, h4, h5⟩ := h.log
  obtain ⟨m1, m2, m3, m4, m5⟩ := hn.mul
  have hT := hn.tt; have hi := hn.ii; have hc := hn.ci; have hi0 := hn.oo; have hc1 := hn.c1
  have htl := lgR_tail hn
  obtain ⟨q, q1, q2, q3⟩ := lr_q hn
  refine (lflush_any hl (ht.below h.below (Nat.le_refl _)) ht.lt h1 hc1 (by rw [htl]; show _ ≤ i * (T + 16); omega) (by rw [htl]; omega) (by rw [h2]; simp) (by omega) q1 q2).mono ?_
  rintro e w' ⟨rfl, hl', hk'⟩
  rw [lgR_flush hT (by omega) hi0 hc] at hl'
  obtain ⟨r1, r2⟩ := lr_flush hn h1 h4 q1 q2
  have hwr := flushD_writes 0 40 q d (lgR T c i i0)
  refine ⟨rfl, ⟨_, hl', ?_, rfl, ?_, r1, ?_⟩, h.below.trans hk'.below⟩
  · show burn (flushD 0 40 q d (lgR T c i i0)).left = -1
    rw [flushD_left h1]; rfl
  · show (flushD 0 40 q d (lgR T c i i0)).writes ≤ _
    omega
  · show HdIs T c (flushD 0 40 q d (lgR T c i i0)).now
    unfold HdIs
    rw [r2]
    exact h5
theorem LrI.cut {w W : World} {T c i i0 L B N : Nat} (h : LrI w T c i i0 L B N W) (hn : LrN T c i i0) (hci : c ≤ i) (hN : N ≤ 100000) (ht : TabOk w) :
    Calls Tryd.prog 8 #[.pointer (some ⟨L, 0, none⟩), .int .u64 (i : Int)] W fun e w' => e = .returned (.int .i64 0) ∧ LrI w T i i i L B (N + 41) w' := by
  obtain ⟨d, hl, h1, h2, h3, h4, h5⟩ := h.log
  obtain ⟨m1, m2, m3, m4, m5⟩ := hn.mul
  have hT := hn.tt; have hi := hn.ii; have hc := hn.ci; have hi0 := hn.oo; have hc1 := hn.c1
  have htl := lgR_tail hn
  have hrl := lgR_recs (T := T) (c := c) (i := i) (i0 := i0)
  obtain ⟨q, q1, q2, q3⟩ := lr_q hn
  obtain ⟨r1, r2⟩ := lr_flush hn h1 h4 q1 q2
  have hwr := flushD_writes 0 40 q d (lgR T c i i0)
  have hb0 : HdIs T c (flushD 0 40 q d (lgR T c i i0)).now := by
    unfold HdIs
    rw [r2]
    exact h5
  rcases Nat.lt_or_ge c i with hlt | hge
  · refine (callsIn_wide.1 (cut_in hl (ht.below h.below (Nat.le_refl _)) ht.lt h1 hc1 (by rw [htl]; show _ ≤ i * (T + 16); omega) (by rw [htl]; omega) (by rw [h2]; simp) (by omega) q1 q2 (by show (c - 1) * (T + 16) + bulkOf (rcs T c (i + 1 - c)) ≤ _; rw [rcs_bulk]; omega) (lsn := i) hlt (by rw [hrl]; show i < c + (i + 1 - c); omega))).mono ?_
    rintro e w' ⟨rfl, hl', hk'⟩
    have hst : (c - 1) * (T + 16) + bulkOf ((rcs T c (i + 1 - c)).take (i - c)) = (i - 1) * (T + 16) := by rw [rcs_take (by omega), rcs_bulk, ← Nat.add_mul, show c - 1 + (i - c) = i - 1 by omega]
    have hg : (lgR T c i i0).cut i = lgR T i i i := by
      rw [← lgR_cut (T := T) (c := c) (i := i) (c' := i) hc1 (by omega) (by omega), ← lgR_flush hT (by omega) hi0 hc]
      rfl
    rw [hg] at hl'
    have hD : cutD 0 40 q d (lgR T c i i0) i = (((flushD 0 40 q d (lgR T c i i0)).flush).write 0 (headL i ((i - 1) * (T + 16)))).flush := by
      unfold cutD
      show (((flushD 0 40 q d (lgR T c i i0)).flush).write 0 (headL i ((c - 1) * (T + 16) + bulkOf ((rcs T c (i + 1 - c)).take (i - c))))).flush = _
      rw [hst]
    rw [hD] at hl'
    refine ⟨rfl, ⟨_, hl', ?_, rfl, ?_, ?_, ?_⟩, h.below.trans hk'.below⟩
    · show burn (burn (burn (flushD 0 40 q d (lgR T c i i0)).left)) = -1
      rw [flushD_left h1]; rfl
    · show (flushD 0 40 q d (lgR T c i i0)).writes + 1 ≤ _
      omega
    · exact r1.head _
    · exact HdIs.put r1.len (by omega) (by omega) hT
  · obtain rfl : c = i := by omega
    refine (cut_low hl (ht.below h.below (Nat.le_refl _)) ht.lt h1 hc1 (by rw [htl]; show _ ≤ c * (T + 16); omega) (by rw [htl]; omega) (by rw [h2]; simp) (by omega) q1 q2 (lsn := c) (Nat.le_refl _)).mono ?_
    rintro e w' ⟨rfl, hl', hk'⟩
    rw [lgR_flush hT (by omega) hi0 hc] at hl'
    refine ⟨rfl, ⟨_, hl', ?_, rfl, ?_, r1, hb0⟩, h.below.trans hk'.below⟩
    · show burn (flushD 0 40 q d (lgR T c c i0)).left = -1
      rw [flushD_left h1]; rfl
    · show (flushD 0 40 q d (lgR T c c i0)).writes ≤ _
      omega

/-- Behind a crash. -/
structure LrC (w : World) (T c i B N : Nat) (W : World) : Prop where
  disk : ∃ d, DiskIs W w.heap.size B 64 d ∧ d.left = -1 ∧ d.wait = [] ∧ d.writes ≤ N ∧ RgD T i d.now ∧ HdIs T c d.now
  below : Below w.heap.size w W
theorem LrI.crash {w W : World} {T c i L B N : Nat} (h : LrI w T c i i L B N W) :
    Calls Tryd.prog 11 #[.pointer (some ⟨B, 0, none⟩), .slice none 0 0] W fun e w' => (∃ v, e = .returned v) ∧ LrC w T c i B N w' := by
  obtain ⟨d, hl, h1, h2, h3, h4, h5⟩ := h.log
  have hi : Ints W (.slice none 0 0) [] := ⟨fun y hy => by simp at hy, none, 0, rfl, fun hx => by simp at hx⟩
  refine (crash_any hl.1 (by rw [h2]; simp) hi (by simp)).mono ?_
  rintro e w' ⟨he, hd', hk'⟩
  have hnow : (d.crash []).now = d.now := by
    unfold Dk.crash Dk.now
    rw [h2]
    rfl
  exact ⟨he, ⟨_, hd', rfl, rfl, h3, by rw [hnow]; exact h4, by rw [hnow]; exact h5⟩, h.below.trans hk'.below⟩
theorem LrC.open {w W : World} {T c i B N : Nat} (h : LrC w T c i B N W) (hn : LrN T c i i) (hci : c ≤ i) (ht : TabOk w) :
    Calls Tryd.prog 5 #[.pointer (some ⟨B, 0, none⟩), .int .i64 0, .int .i64 40] W fun e w' => ∃ L, e = .returned (.tuple #[.pointer (some ⟨L, 0, none⟩), .int .i64 0]) ∧ LrI w T c i i L B N w' := by
  obtain ⟨d, hd, h1, h2, h3, h4, h5⟩ := h.disk
  obtain ⟨m1, m2, m3, m4, m5⟩ := hn.mul
  have hT := hn.tt; have hi := hn.ii; have hc := hn.ci; have hi0 := hn.oo; have hc1 := hn.c1
  have ho : openG d.now 0 40 = lgR T c i i := ring_read h4 h5 hT hc1 hci (by omega) (by omega)
  refine (lopen_same (at' := 0) (sc := 40) hd (by omega) (by rw [h1]; decide) (ht.below h.below (Nat.le_refl _)) ht.lt (by rw [h2]; simp) (by
    rw [ho]
    exact ring_clear h4 hT (by omega))).mono ?_
  rintro e w' ⟨L, rfl, hl', hk', _⟩
  rw [ho] at hl'
  exact ⟨L, rfl, ⟨_, hl', by show burn d.left = -1; rw [h1]; rfl, rfl, h3, h4, h5⟩, h.below.trans hk'.below⟩
theorem LrI.tell {w W : World} {T c i i0 L B N : Nat} (h : LrI w T c i i0 L B N W) :
    Calls Tryd.prog 12 #[.pointer (some ⟨L, 0, none⟩)] W fun e w' => ∃ ao cap, e = .returned (.tuple #[.slice ao (i + 1 - c) cap, .bool true]) ∧ StrRow w' W.heap.size (.slice ao (i + 1 - c) cap) (rcs T c (i + 1 - c)) ∧ LrI w T c i i0 L B N w' := by
  obtain ⟨d, hl, hx⟩ := h.log
  refine (tells_any hl).mono ?_
  rintro e w' ⟨ao, cap, rfl, hS, hl', hb'⟩
  rw [lgR_recs] at hS ⊢
  exact ⟨ao, cap, rfl, hS, ⟨d, hl', hx⟩, h.below.trans (hb'.mono h.below.size)⟩
theorem LrI.keep {w W W' : World} {T c i i0 L B N : Nat} (h : LrI w T c i i0 L B N W) (hb : Below W.heap.size W W') : LrI w T c i i0 L B N W' := by
  obtain ⟨d, hl, hx⟩ := h.log
  exact ⟨⟨d, hl.below hb, hx⟩, h.below.trans (hb.mono h.below.size)⟩
theorem LrI.more {w W : World} {T c i i0 L B N N' : Nat} (h : LrI w T c i i0 L B N W) (hN : N ≤ N') : LrI w T c i i0 L B N' W := by
  obtain ⟨d, hl, h1, h2, h3, h4, h5⟩ := h.log
  exact ⟨⟨d, hl, h1, h2, by omega, h4, h5⟩, h.below⟩
end Go.Proofs.YthhlbhnogcfnjaaDoor
