/-
  PageEach, plain, as its walk asks for it.
-/
import Derived.Test.YtafopokcfkgjiaaDoorXEachB
import Derived.Test.YtafopokcfkgjiaaDoorXRow
namespace Go.Proofs.YtafopokcfkgjiaaDoor
open Go.RowKit

theorem pg_same (no n : Nat) : pgN no n = pgOf no n := rfl
theorem ps0_same : [pgOf 0 1, pgOf 1 2, pgOf 2 3] = ps0 := rfl
theorem ps1_same (a b : Nat) : [pgOf 0 a, pgOf 2 b] = ps1 a b := rfl
theorem first_all : ∃ D1 : Dk, writeP 0 3 (Dk.new 104) [pgOf 0 1, pgOf 1 2, pgOf 2 3] = (D1, 0) ∧ D1.left = -1 ∧ D1.wait = [] ∧ D1.writes ≤ 200 ∧ (D1.Ok 104 → Old1 D1.last) := by
  rw [ps0_same]
  have hst := new_st (n := 104) (p0 := 0) (np := 3) (by omega) (by omega)
  obtain ⟨D1, h1, h2, h3, _, h5, _, _⟩ := wrote hst (Dk.ok_new 104) rfl takes0 (by simp [ps0])
  refine ⟨D1, h1, h2, h3, ?_, fun hok => ?_⟩
  · have : (Dk.new 104).writes = 0 := rfl
    omega
  · have := old_first (Dk.ok_new 104) rfl hst rfl (by rw [h1]; exact hok)
    rw [h1] at this
    exact this
theorem writeP_wait (p0 np : Nat) (d : Dk) (ps : List Pg) : (writeP p0 np d ps).1.wait.length ≤ d.wait.length + (1 + 16 * ps.length) ∧ (writeP p0 np d ps).1.writes ≤ d.writes + (1 + 16 * ps.length) := by
  have h1 := noteP_wait d (p0 + np * 8) ps
  have h2 := placeP_wait p0 ps (noteP d (p0 + np * 8) ps).1
  have h3 := flushP_wait (placeP p0 (noteP d (p0 + np * 8) ps).1 ps).1
  unfold writeP
  split
  · dsimp only; omega
  · unfold thenP
    split
    · omega
    · dsimp only
      split <;> omega
/-- What is told of the three pages then. -/
structure Told3 (d : Dk) (m0 m2 : Nat) : Prop where
  ok : ∀ no, no < 3 → OkAt (secs d.now (0 + no * 8) 8) no
  p0 : fetchP (secs d.now (0 + 0 * 8) 8) 0 = pgOf 0 m0
  p1 : fetchP (secs d.now (0 + 1 * 8) 8) 1 = pgOf 1 2
  p2 : fetchP (secs d.now (0 + 2 * 8) 8) 2 = pgOf 2 m2
theorem second_all {D1 : Dk} (hw : D1.wait = []) (ho : Old1 D1.last) (hwr : D1.writes ≤ 200) {k : Int} {a b : Nat} (ha : 10 ≤ a ∧ a < 266) (hb : 10 ≤ b ∧ b < 266) :
    ∃ (D2 : Dk) (E : Int), writeP 0 3 (D1.fuse k) [pgOf 0 a, pgOf 2 b] = (D2, E) ∧ (E = 0 ∨ E = 50) ∧ D2.wait.length ≤ 1000 ∧ D2.writes ≤ 1000 ∧
      ∀ keep, (D2.crash keep).Ok 104 → JOk (D2.crash keep).now 24 3 ∧ ∃ m0 m2, (m0 = 1 ∧ m2 = 3 ∧ E = 50 ∨ m0 = a ∧ m2 = b) ∧ Told3 (redoP 0 (D2.crash keep) (notedP (D2.crash keep).now 24)) m0 m2 := by
  rw [ps1_same]
  have hfw : (D1.fuse k).wait = [] := by unfold Dk.fuse; split <;> exact hw
  have hfl : (D1.fuse k).last = D1.last := by unfold Dk.fuse; split <;> rfl
  have hfr : (D1.fuse k).writes = D1.writes := by unfold Dk.fuse; split <;> rfl
  have hww := writeP_wait 0 3 (D1.fuse k) (ps1 a b)
  rw [hfw, hfr, len1] at hww
  refine ⟨(writeP 0 3 (D1.fuse k) (ps1 a b)).1, (writeP 0 3 (D1.fuse k) (ps1 a b)).2, Prod.ext rfl rfl, writeP_err _ _ _ _, by simp at hww; omega, by omega, fun keep hok => ?_⟩
  obtain ⟨j1, e1, e2⟩ := each_plain ha hb hfw (by rw [hfl]; exact ho) keep rfl hok.now_secs hok.now_len
  refine ⟨j1, ?_⟩
  have he := writeP_err 0 3 (D1.fuse k) (ps1 a b)
  have t1 := page_told (no := 1) (n := 2) (by decide) (by decide) e1
  rcases e2 with ⟨en, e0, e2⟩ | ⟨e0, e2⟩
  · have t0 := page_told (no := 0) (n := 1) (by decide) (by decide) e0
    have t2 := page_told (no := 2) (n := 3) (by decide) (by decide) e2
    exact ⟨1, 3, .inl ⟨rfl, rfl, he.resolve_left en⟩, fun no hno => match no, hno with
      | 0, _ => t0.1
      | 1, _ => t1.1
      | 2, _ => t2.1, t0.2, t1.2, t2.2⟩
  · have t0 := page_told (no := 0) (n := a) (by decide) (by omega) e0
    have t2 := page_told (no := 2) (n := b) (by decide) (by omega) e2
    exact ⟨a, b, .inr ⟨rfl, rfl⟩, fun no hno => match no, hno with
      | 0, _ => t0.1
      | 1, _ => t1.1
      | 2, _ => t2.1, t0.2, t1.2, t2.2⟩
end Go.Proofs.YtafopokcfkgjiaaDoor
