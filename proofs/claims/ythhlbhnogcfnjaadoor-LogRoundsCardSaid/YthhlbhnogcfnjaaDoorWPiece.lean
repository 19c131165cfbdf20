/-
  Layer 4: what wal.pieceIn, headIn and recordIn give.
-/
import Derived.Test.YthhlbhnogcfnjaaDoorWMem
import Derived.Test.YthhlbhnogcfnjaaDoorWPlain
namespace Go.Proofs.YthhlbhnogcfnjaaDoor
open Go.RowKit Go.Shelf

/-- Bytes in new memory. -/
def NewBs (N : Nat) (w : World) (v : Value) (zs : List Int) : Prop := Bs w v zs ∧ ∀ b, v.ownBlock = some b → N ≤ b ∧ ∃ c, w.heap[b]? = some (.cells c 5 (0, 0))
theorem NewBs.nil (N : Nat) (w : World) : NewBs N w (.slice none 0 0) [] := ⟨⟨fun j => by simp, by simp, .inl ⟨none, 0, rfl, rfl, fun _ => rfl⟩⟩, fun b h => by simp [Value.ownBlock] at h⟩
theorem NewBs.same {N : Nat} {w w' : World} {v : Value} {zs : List Int} (h : NewBs N w v zs) (hk : ∀ (k : Nat) c, w.heap[k]? = some (.cells c 5 (0, 0)) → w'.heap[k]? = w.heap[k]?) : NewBs N w' v zs := by
  refine ⟨h.1.same fun b e => ?_, fun b e => ?_⟩
  · obtain ⟨h1, c, h3⟩ := h.2 b e
    exact hk b c h3
  · obtain ⟨h1, c, h3⟩ := h.2 b e
    exact ⟨h1, c, (hk b c h3).trans h3⟩
theorem NewBs.below {N : Nat} {w w' : World} {v : Value} {zs : List Int} (h : NewBs N w v zs) (hb : Below w.heap.size w w') : NewBs N w' v zs := h.same fun k _ hk => hb.block k (lt_of_heap hk)
theorem NewBs.mono {N M : Nat} {w : World} {v : Value} {zs : List Int} (h : NewBs N w v zs) (hm : M ≤ N) : NewBs M w v zs := ⟨h.1, fun b e => ⟨Nat.le_trans hm (h.2 b e).1, (h.2 b e).2⟩⟩
theorem newBs_own {N n : Nat} {w : World} {v : Value} {zs : List Int} (h : w.ownsRow N 5 1 v n (zs.map (Value.int .u8))) (hb : By zs) (hl : zs.length ≤ 140737488355328) : NewBs N w v zs := by
  refine ⟨bs_of_own h hb hl, fun b e => ?_⟩
  obtain ⟨c, hc⟩ := own_heap h e
  exact ⟨own_base h b e, c, hc⟩
/-- A part of it. -/
theorem NewBs.cut {N : Nat} {w : World} {b off n cap lo hi : Nat} {zs : List Int} (h : NewBs N w (.slice (some ⟨b, off, none⟩) n cap) zs) (h1 : lo ≤ hi) (h2 : hi ≤ zs.length) (h3 : lo < cap) : NewBs N w (.slice (some ⟨b, off + lo, none⟩) (hi - lo) (cap - lo)) ((zs.take hi).drop lo) := by
  refine ⟨?_, fun q e => h.2 q (by simpa [Value.ownBlock] using e)⟩
  have := h.1.cutAt h1 h2
  rw [if_neg (by omega)] at this
  simpa [Addr.add_lit] using this
theorem NewBs.head {N : Nat} {w : World} {ao : Option Addr} {n cap hi : Nat} {zs : List Int} (h : NewBs N w (.slice ao n cap) zs) (h2 : hi ≤ zs.length) : NewBs N w (.slice ao hi cap) (zs.take hi) :=
  ⟨h.1.head h2, fun q e => h.2 q (by cases ao with
    | none => simp [Value.ownBlock] at e
    | some a => simpa [Value.ownBlock] using e)⟩

/-- What an opened text gives, parted. -/
theorem opened {w : World} {v : Value} {s : List Int} (h : Bs w v s) (ht : TabOk w) (he : openE s = 0) (hs : 5 ≤ s.length) :
    Calls Tryd.prog 54 #[v] w fun e w' => ∃ b off cap, e = .returned (.tuple #[.slice (some ⟨b, off, none⟩) (s.length - 4) cap, .int .i64 0]) ∧ NewBs w.heap.size w' (.slice (some ⟨b, off, none⟩) (s.length - 4) cap) (openB s) ∧ s.length - 4 ≤ cap ∧ Below w.heap.size w w' := by
  have hb := h.byte
  have hl := h.2.1
  refine (open_own h ht).mono fun e w' ⟨v', e1, ho, hb'⟩ => ?_
  have hn := openB_size he
  have hN := newBs_own ho (openB_by hb) (by rw [hn]; omega)
  rcases ho.2 with ⟨_, h0⟩ | ⟨g, cap, cur, rfl, _, _, hc, _⟩
  · omega
  · rw [he] at e1
    rw [hn] at e1 hN hc
    exact ⟨g, 0, cap, e1, hN, hc, hb'⟩
theorem not_opened {w : World} {v : Value} {s : List Int} (h : Bs w v s) (ht : TabOk w) (he : openE s ≠ 0) :
    Calls Tryd.prog 54 #[v] w fun e w' => ∃ v' E, e = .returned (.tuple #[v', .int .i64 E]) ∧ E ≠ 0 ∧ Below w.heap.size w w' :=
  (open_own h ht).mono fun _e _w' ⟨v', e1, _, hb'⟩ => ⟨v', _, e1, he, hb'⟩

set_option maxHeartbeats 800000 in
theorem pieceIn_any {w : World} {v : Value} {s : List Int} (h : Bs w v s) (ht : TabOk w) (hs : s.length = 64) :
    Calls Tryd.prog 38 #[v] w fun e w' => ∃ v', e = .returned (.tuple #[.int .u64 (pcNo s), v', .bool (pcOk s)]) ∧ NewBs w.heap.size w' v' (pcBy s) ∧ Below w.heap.size w w' := by
  by_cases he : openE s = 0
  · have HO := hid (opened h ht he (by omega))
    have hn := openB_size he
    rw [hs] at HO hn
    clear h ht
    by_cases h2 : (dec 0 0 ((openB s).drop 48)).2.2 = 0
    · have hok : pcOk s = true := by simp [pcOk, he, h2]
      have e1 : pcNo s = (dec 0 0 ((openB s).drop 48)).1 := by rw [pcNo, if_pos hok]
      have e2 : pcBy s = (openB s).take 48 := by rw [pcBy, if_pos hok]
      rw [hok, e1, e2]
      clear hok e1 e2 he
      have HE := hid h2
      have HN := hid hn
      clear h2 hn
      obtain ⟨X, hX⟩ : ∃ X, X = (dec 0 0 ((openB s).drop 48)).1 := ⟨_, rfl⟩
      rw [← hX]
      have HX := hid hX
      clear hX
      go_enter Tryd.func38, Tryd.ntmps38
      go_wp2_with (first
        | (go_at_call 54; refine HO.out.mono ?_; rintro e w1 ⟨b, off, cap, rfl, hN1, hc1, hb1⟩; clear HO; have hcut := hN1.cut (lo := 48) (hi := 60) (by omega) (by rw [HN.out]; omega) (by omega); rw [List.take_of_length_le (by rw [HN.out]; omega)] at hcut; have HV := hid (var_bs hcut.1); have HH := hid (hN1.head (hi := 48) (by rw [HN.out]; omega)); rw [← HX.out, HE.out] at HV; clear hcut hN1)
        | (go_at_call 50; refine HV.out.mono ?_; rintro e wz ⟨rfl, hwz⟩; have hwz' := hwz.symm; clear hwz; subst hwz'; clear HV))
      go_quiet (fail)
      go_wp2
      go_ret3
      exact ⟨_, rfl, HH.out.below (below_drewN (Below.refl _ _) _), below_drewN hb1 _⟩
    · have hok : pcOk s = false := by simp [pcOk, h2]
      have e1 : pcNo s = 0 := by rw [pcNo, if_neg (by rw [hok]; decide)]
      have e2 : pcBy s = [] := by rw [pcBy, if_neg (by rw [hok]; decide)]
      rw [hok, e1, e2]
      clear hok e1 e2 he
      obtain ⟨E, hE⟩ : ∃ E, E = (dec 0 0 ((openB s).drop 48)).2.2 := ⟨_, rfl⟩
      rw [← hE] at h2
      have h2' : (E != 0) = true := by simpa using h2
      have HE := hid hE
      have HN := hid hn
      clear h2 hn hE
      go_enter Tryd.func38, Tryd.ntmps38
      go_wp2_with (first
        | (go_at_call 54; refine HO.out.mono ?_; rintro e w1 ⟨b, off, cap, rfl, hN1, hc1, hb1⟩; clear HO; have hcut := hN1.cut (lo := 48) (hi := 60) (by omega) (by rw [HN.out]; omega) (by omega); rw [List.take_of_length_le (by rw [HN.out]; omega)] at hcut; have HV := hid (var_bs hcut.1); rw [← HE.out] at HV; clear hcut hN1)
        | (go_at_call 50; refine HV.out.mono ?_; rintro e wz ⟨rfl, hwz⟩; have hwz' := hwz.symm; clear hwz; subst hwz'; clear HV))
      go_ret3
      exact ⟨_, rfl, NewBs.nil _ _, hb1⟩
  · have HO := hid (not_opened h ht he)
    have hok : pcOk s = false := by simp [pcOk, he]
    have e1 : pcNo s = 0 := by rw [pcNo, if_neg (by rw [hok]; decide)]
    have e2 : pcBy s = [] := by rw [pcBy, if_neg (by rw [hok]; decide)]
    rw [hok, e1, e2]
    clear h ht hok e1 e2 he
    go_enter Tryd.func38, Tryd.ntmps38
    go_wp2_with (go_at_call 54; refine HO.out.mono ?_; rintro e w1 ⟨v1, E, rfl, hE, hb1⟩; have hE' : (E != 0) = true := by simpa using hE)
    go_ret3
    exact ⟨_, rfl, NewBs.nil _ _, hb1⟩
end Go.Proofs.YthhlbhnogcfnjaaDoor
