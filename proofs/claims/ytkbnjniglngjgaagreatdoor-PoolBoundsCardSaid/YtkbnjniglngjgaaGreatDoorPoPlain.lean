/-
  Layer 5, plain: a File beside what a Flush of the Log writes.
-/
import Derived.Test.YtkbnjniglngjgaaGreatDoorPoFlush
import Derived.Test.YtkbnjniglngjgaaGreatDoorMO
import Derived.Test.YtkbnjniglngjgaaGreatDoorWAppend
import Derived.Test.YtkbnjniglngjgaaGreatDoorMN
import Derived.Test.YtkbnjniglngjgaaGreatDoorGState
import Derived.Test.YtkbnjniglngjgaaGreatDoorGLaws
namespace Go.Proofs.YtkbnjniglngjgaaGreatDoor
open Go.RowKit

theorem tailP_far (at' sc : Nat) : ∀ (ss : List (List Int)) (d : Dk) (i : Nat), d.left = -1 → (tailP at' sc d i ss).1.now.length = d.now.length ∧ ∀ j, j ≤ at' → (tailP at' sc d i ss).1.now.getD j [] = d.now.getD j []
  | [], d, i, _ => ⟨rfl, fun _ _ => rfl⟩
  | s :: r, d, i, h => by
    have h0 : ¬ d.left = 0 := by omega
    rw [tailP, if_neg h0]
    have hnow : (d.write (at' + 1 + i % (sc - 1)) (secL i s)).now = d.now.set (at' + 1 + i % (sc - 1)) (secL i s) := app_snoc _ _ _
    obtain ⟨h1, h2⟩ := tailP_far at' sc r (d.write (at' + 1 + i % (sc - 1)) (secL i s)) (i + 1) (by simp [Dk.write, burn, h])
    rw [hnow] at h1 h2
    refine ⟨by rw [h1, List.length_set], fun j hj => ?_⟩
    rw [h2 j hj]
    simp only [List.getD_eq_getElem?_getD]
    rw [List.getElem?_set_ne (by omega)]
theorem FSt.same {l l' : List (List Int)} {p0 np : Nat} {c : Nat → Option Pg} (h : FSt l p0 np c) (hs : ∀ s ∈ l', Sec s) (hl : l'.length = l.length) (he : ∀ j, p0 ≤ j → j < p0 + np * 8 + 80 → l'.getD j [] = l.getD j []) : FSt l' p0 np c := by
  have hr := h.room
  refine ⟨hs, by omega, h.most, fun no hno => ?_, h.okc, ?_⟩
  · rw [← h.pages no hno]
    exact secs_congr (by omega) (by omega) fun j h1 h2 => he j (by omega) (by omega)
  · obtain ⟨js, h1, h2, h3⟩ := h.jour
    refine ⟨js, h1, h2, ?_⟩
    have := h1.1
    rw [← h3]
    exact secs_congr (by omega) (by omega) fun j h1 h2 => he j (by omega) (by omega)
/-- awake's Log behind its first record, and behind its first Flush. -/
def g1 : Lg := Lg.fresh.add [120]
def d1 : Dk := (flushD 144 80 1 (Dk.new 224).flush g1).flush
theorem g1_tail : g1.tail.length = 17 := by
  have h := (rc_frame (lsn := 1) (rec := [120]) (by omega) (fun b hb => by simp at hb; omega) (by simp) []).2.2
  show ([] ++ frameL 1 [120]).length = 17
  rw [List.nil_append]
  simpa using h
theorem fl_left {x : Dk} (h : x.left = -1) : x.flush.left = -1 := by simp [Dk.flush, burn, h]
theorem fl_writes (x : Dk) : x.flush.writes = x.writes := rfl
theorem d0_left : (Dk.new 224).flush.left = -1 := fl_left (by simp [Dk.new])
theorem d1_is : d1 = (tailP 144 80 (Dk.new 224).flush 0 (cut48 1 g1.tail)).1.flush := by
  have h1 : g1.stop - g1.tail.length = 0 := by rw [g1_tail]; rfl
  rw [d1, flushD, if_pos (by decide), h1]
theorem d1_left : d1.left = -1 := by
  rw [d1_is]
  exact fl_left (tailP_live 144 80 (cut48 1 g1.tail) (Dk.new 224).flush 0 d0_left).2
theorem d1_small : d1.wait.length ≤ 700000 ∧ d1.writes ≤ 700000000 := by
  rw [d1_is]
  have := tailP_wait 144 80 (cut48 1 g1.tail) (Dk.new 224).flush 0
  rw [cut48_len] at this
  refine ⟨by simp [Dk.flush], ?_⟩
  rw [fl_writes]
  have h2 : (Dk.new 224).flush.writes = 0 := by rw [fl_writes]; simp [Dk.new]
  omega
theorem d1_st (h : d1.Ok 224) : FSt d1.now 0 8 (fun _ => none) := by
  have hf := tailP_far 144 80 (cut48 1 g1.tail) (Dk.new 224).flush 0 d0_left
  have hn : d1.now = (tailP 144 80 (Dk.new 224).flush 0 (cut48 1 g1.tail)).1.now := by rw [d1_is, flush_now]
  refine FSt.same (l := (Dk.new 224).now) (FSt.fresh (by omega) (by omega)) h.now_secs ?_ fun j _ hj => ?_
  · rw [hn, hf.1, flush_now]
  · rw [hn, hf.2 j (by omega), flush_now]
def pg3 : Pg := ⟨3, 1, dataL 9⟩
theorem takes3 : takes 8 [pg3] := ⟨by simp, fun p hp => by
  simp at hp
  subst hp
  exact ⟨by decide, by decide, by decide, dataL_len 9, dataL_by 9⟩, by simp⟩
def d2 : Dk := (writeP 0 8 d1 [pg3]).1
theorem d2_all (h : d1.Ok 224) : (writeP 0 8 d1 [pg3]).2 = 0 ∧ d2.left = -1 ∧ (d2.Ok 224 → FSt d2.now 0 8 (upd (fun _ => none) [pg3])) := by
  obtain ⟨e, h1, _, _, _, h5, _⟩ := (d1_st h).write h d1_left takes3 (by simp)
  exact ⟨e, h1, h5⟩
end Go.Proofs.YtkbnjniglngjgaaGreatDoor
