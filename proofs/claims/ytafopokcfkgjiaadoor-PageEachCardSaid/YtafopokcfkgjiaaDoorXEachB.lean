/-
  PageEach, plain: what an Open finds behind a Write that may die and a crash; what the first Write leaves.
-/
import Derived.Test.YtafopokcfkgjiaaDoorXEach
namespace Go.Proofs.YtafopokcfkgjiaaDoor

theorem redo_old {d : Dk} (hl : d.left = -1) (hn : d.now.length = 104) : ∀ no, no < 3 → secs (redoP 0 d ps0).now (no * 8) 8 = frameOf (pgN no (no + 1)) := by
  obtain ⟨_, h2, _⟩ := redoL_now 0 3 ps0 d false hl (fun p hp => ⟨(takes0.2.1 p hp).no, (takes0.2.1 p hp).len⟩) takes0.2.2 (by omega)
  rw [← redoP_now] at h2
  intro no hno
  match no, hno with
  | 0, _ => exact h2 (pgN 0 1) (by simp [ps0])
  | 1, _ => exact h2 (pgN 1 2) (by simp [ps0])
  | 2, _ => exact h2 (pgN 2 3) (by simp [ps0])
theorem redo_new {d : Dk} {a b : Nat} (ha : a < 266) (hb : b < 266) (hl : d.left = -1) (hn : d.now.length = 104) :
    secs (redoP 0 d (ps1 a b)).now (0 * 8) 8 = frameOf (pgN 0 a) ∧ secs (redoP 0 d (ps1 a b)).now (1 * 8) 8 = secs d.now (1 * 8) 8 ∧ secs (redoP 0 d (ps1 a b)).now (2 * 8) 8 = frameOf (pgN 2 b) := by
  have ht := takes1 ha hb
  obtain ⟨h1, h2, h3⟩ := redoL_now 0 3 (ps1 a b) d false hl (fun p hp => ⟨(ht.2.1 p hp).no, (ht.2.1 p hp).len⟩) ht.2.2 (by omega)
  rw [← redoP_now] at h1 h2 h3
  refine ⟨h2 (pgN 0 a) (by simp [ps1]), secs_congr (by omega) (by omega) fun j j1 j2 => h3 j fun p hp => ?_, h2 (pgN 2 b) (by simp [ps1])⟩
  simp only [ps1, List.mem_cons, List.not_mem_nil, or_false] at hp
  rcases hp with rfl | rfl
  · right; show 0 + 0 * 8 + 8 ≤ j; omega
  · left; show j < 0 + 2 * 8; omega

/-- What is on the pages then: the old ones, if an error was told, or the new ones. -/
def Each (a b : Nat) (e : Int) (l : List (List Int)) : Prop :=
  secs l (1 * 8) 8 = frameOf (pgN 1 2) ∧ ((e ≠ 0 ∧ secs l (0 * 8) 8 = frameOf (pgN 0 1) ∧ secs l (2 * 8) 8 = frameOf (pgN 2 3)) ∨ (secs l (0 * 8) 8 = frameOf (pgN 0 a) ∧ secs l (2 * 8) 8 = frameOf (pgN 2 b)))
theorem each_plain {d d2 : Dk} {a b : Nat} (ha : 10 ≤ a ∧ a < 266) (hb : 10 ≤ b ∧ b < 266) (hw : d.wait = []) (ho : Old1 d.last) (keep : List Int) (hd2 : d2 = ((writeP 0 3 d (ps1 a b)).1).crash keep) (hs : ∀ s ∈ d2.now, Sec s) (hn : d2.now.length = 104) :
    JOk d2.now 24 3 ∧ Each a b (writeP 0 3 d (ps1 a b)).2 (redoP 0 d2 (notedP d2.now 24)).now := by
  have hl : d2.left = -1 := by rw [hd2]; rfl
  have hlo := ho.len
  have hc := write_crash (p0 := 0) (np := 3) (ps := ps1 a b) hw (by simp [ps1]) keep
  rw [← hd2, len1] at hc
  rcases hc with ⟨he, hm⟩ | hm
  · obtain ⟨j1, j2⟩ := each_mix ha hb ho hs hn (fun j => (hm j).imp id fun ⟨t, h1, h2, h3⟩ => ⟨t, h1, by omega, h3⟩)
    have hp : ∀ no, no < 3 → secs d2.now (no * 8) 8 = frameOf (pgN no (no + 1)) := fun no hno => by
      rw [← ho.pages no hno]
      refine secs_congr (by omega) (by omega) fun j h1 h2 => ?_
      rcases hm j with h | ⟨t, _, h, _⟩
      · exact h
      · omega
    refine ⟨j1, ?_⟩
    rcases j2 with h | h | h
    · rw [h]
      exact ⟨hp 1 (by decide), .inl ⟨he, hp 0 (by decide), hp 2 (by decide)⟩⟩
    · rw [h]
      have q := redo_old hl hn
      exact ⟨q 1 (by decide), .inl ⟨he, q 0 (by decide), q 2 (by decide)⟩⟩
    · rw [h]
      obtain ⟨q0, q1, q2⟩ := redo_new ha.2 hb.2 hl hn
      exact ⟨q1.trans (hp 1 (by decide)), .inr ⟨q0, q2⟩⟩
  · have far : ∀ j, 8 ≤ j ∧ j < 16 ∨ 24 ≤ j → ∀ p ∈ ps1 a b, j < 0 + p.no * 8 ∨ 0 + p.no * 8 + 8 ≤ j := fun j hj p hp => by
      simp only [ps1, List.mem_cons, List.not_mem_nil, or_false] at hp
      rcases hp with rfl | rfl
      · right; show 0 + 0 * 8 + 8 ≤ j; omega
      · show j < 0 + 2 * 8 ∨ 0 + 2 * 8 + 8 ≤ j; omega
    have hcl : (cut64 (1 + 8 * 2) (jBytes (ps1 a b))).length = 17 := cut64_len _ _
    have hJ : ∀ t, t < 1 + 8 * (ps1 a b).length → d2.now.getD (24 + t) [] = (cut64 (1 + 8 * (ps1 a b).length) (jBytes (ps1 a b))).getD t [] := fun t ht => by
      rw [len1] at ht ⊢
      rw [hm (24 + t) (far _ (.inr (by omega)))]
      exact putS_in _ _ _ _ (by rw [hcl, hlo]; decide) (by rw [hcl]; omega)
    obtain ⟨j1, j2⟩ := noted_whole (np := 3) hs (by rw [len1, hn]; decide) (takes1 ha.2 hb.2) (by decide) hJ
    refine ⟨j1, ?_⟩
    rw [j2]
    obtain ⟨q0, q1, q2⟩ := redo_new ha.2 hb.2 hl hn
    refine ⟨q1.trans ?_, .inr ⟨q0, q2⟩⟩
    rw [← ho.pages 1 (by decide)]
    refine secs_congr (by omega) (by omega) fun j h1 h2 => ?_
    rw [hm j (far j (.inl (by omega)))]
    exact putS_out _ _ _ _ (.inl (by omega))
theorem writeP_err (p0 np : Nat) (d : Dk) (ps : List Pg) : (writeP p0 np d ps).2 = 0 ∨ (writeP p0 np d ps).2 = 50 := by
  unfold writeP
  split
  · exact .inl rfl
  · unfold thenP
    split
    · exact noteP_err _ _ _
    · dsimp only
      split
      · exact placeP_err _ _ _
      · unfold flushP
        split
        · exact .inr rfl
        · exact .inl rfl
/-- What the first Write leaves. -/
theorem old_first {d : Dk} (hok : d.Ok 104) (hl : d.left = -1) (hst : FSt d.now 0 3 (fun _ => none)) (hw : d.wait = []) (hok2 : (writeP 0 3 d ps0).1.Ok 104) : Old1 (writeP 0 3 d ps0).1.last := by
  obtain ⟨w1, _, w3, w4, _, w6, _⟩ := hst.write hok hl takes0 (by simp [ps0])
  have hst2 := w6 hok2
  have hnl := hok2.now_len
  have hlast := w4
  refine ⟨by rw [hlast]; exact hnl, fun no hno => ?_, fun t ht => ?_⟩
  · rw [hlast]
    have q := hst2.pages no hno
    rw [Nat.zero_add] at q
    rw [q]
    match no, hno with
    | 0, _ => rfl
    | 1, _ => rfl
    | 2, _ => rfl
  · have hc := write_crash (p0 := 0) (np := 3) (ps := ps0) hw (by simp [ps0]) []
    rw [len0] at hc
    rcases hc with ⟨he, _⟩ | hm
    · exact absurd w1 he
    · have hcl : (cut64 (1 + 8 * 3) (jBytes ps0)).length = 25 := cut64_len _ _
      have q := hm (24 + t) (fun p hp => by
        simp only [ps0, List.mem_cons, List.not_mem_nil, or_false] at hp
        right
        rcases hp with rfl | rfl | rfl
        · show 0 + 0 * 8 + 8 ≤ 24 + t; omega
        · show 0 + 1 * 8 + 8 ≤ 24 + t; omega
        · show 0 + 2 * 8 + 8 ≤ 24 + t; omega)
      have e : ((writeP 0 3 d ps0).1.crash []).now = (writeP 0 3 d ps0).1.last := by
        unfold Dk.crash Dk.now
        rw [w3]
        rfl
      rw [e] at q
      rw [q]
      have hnow : d.now = d.last := by unfold Dk.now; rw [hw]; rfl
      exact putS_in _ _ _ _ (by rw [hcl, ← hnow, hok.now_len]; decide) (by rw [hcl]; omega)
/-- A page that stands in its place is told. -/
theorem page_told {l : List (List Int)} {no n : Nat} (hno : no < 3) (hn : n ≤ 65535) (h : secs l (no * 8) 8 = frameOf (pgN no n)) : OkAt (secs l (0 + no * 8) 8) no ∧ fetchP (secs l (0 + no * 8) 8) no = pgN no n := by
  rw [Nat.zero_add, h]
  have ho := pgN_ok (np := 3) hno hn
  have hb := page_back ho (by decide)
  exact ⟨.inr ⟨hb.1, by rw [hb.2]; rfl⟩, fetch_frame ho (by decide)⟩
end Go.Proofs.YtafopokcfkgjiaaDoor
