/-
  The plain mathematics of a File over sectors: what stands in its pages and its journal; what a Write that comes back makes of it. Nothing of the program is named here.
-/
import Derived.Test.YtkbnjniglngjgaaGreatDoorMA
import Derived.Test.YtkbnjniglngjgaaGreatDoorGWrite
namespace Go.Proofs.YtkbnjniglngjgaaGreatDoor
open Go.RowKit

theorem secs_range {l : List (List Int)} {i k : Nat} (h : i + k ≤ l.length) : (l.drop i).take k = (List.range k).map fun t => l.getD (i + t) [] := by
  apply List.ext_getElem (by simp; omega)
  intro t h1 h2
  have ht : t < k := by simp at h2; exact h2
  simp [List.getD, show i + t < l.length by omega]
theorem secs_congr {l l' : List (List Int)} {i k : Nat} (h : i + k ≤ l.length) (h' : i + k ≤ l'.length) (he : ∀ j, i ≤ j → j < i + k → l.getD j [] = l'.getD j []) : secs l i k = secs l' i k := by
  unfold secs
  rw [secs_range h, secs_range h']
  congr 1
  apply List.map_congr_left
  intro t ht
  have := List.mem_range.1 ht
  exact he (i + t) (by omega) (by omega)
theorem secs_split {l : List (List Int)} {i a b : Nat} (h : i + (a + b) ≤ l.length) : secs l i (a + b) = secs l i a ++ secs l (i + a) b := by
  unfold secs
  rw [secs_range (by omega), secs_range (i := i) (k := a) (by omega), secs_range (i := i + a) (k := b) (by omega), List.range_add, List.map_append, List.flatten_append, List.map_map]
  congr 3
  funext t
  simp [Nat.add_assoc]
/-- Sectors are put from i on. -/
def putS : List (List Int) → Nat → List (List Int) → List (List Int)
  | l, _, [] => l
  | l, i, s :: r => putS (l.set i s) (i + 1) r
theorem putS_len : ∀ (ss l : List (List Int)) (i : Nat), (putS l i ss).length = l.length
  | [], _, _ => rfl
  | s :: r, l, i => by simp [putS, putS_len r]
theorem putS_out : ∀ (ss l : List (List Int)) (i j : Nat), j < i ∨ i + ss.length ≤ j → (putS l i ss).getD j [] = l.getD j []
  | [], _, _, _, _ => rfl
  | s :: r, l, i, j, h => by
    simp only [List.length_cons] at h
    rw [putS, putS_out r _ _ _ (by omega)]
    simp [List.getD, show ¬ i = j by omega]
theorem putS_in : ∀ (ss l : List (List Int)) (i t : Nat), i + ss.length ≤ l.length → t < ss.length → (putS l i ss).getD (i + t) [] = ss.getD t []
  | [], _, _, t, _, h => by simp at h
  | s :: r, l, i, 0, h, _ => by
    simp only [List.length_cons] at h
    rw [putS, Nat.add_zero, putS_out r _ _ _ (.inl (by omega))]
    simp [List.getD, show i < l.length by omega]
  | s :: r, l, i, t + 1, h, ht => by
    simp only [List.length_cons] at h ht
    rw [putS, show i + (t + 1) = (i + 1) + t by omega, putS_in r _ _ t (by simp; omega) (by omega)]
    simp [List.getD]
theorem putS_secs {l ss : List (List Int)} {i : Nat} (h : i + ss.length ≤ l.length) : secs (putS l i ss) i ss.length = ss.flatten := by
  unfold secs
  rw [secs_range (by rw [putS_len]; exact h)]
  congr 1
  apply List.ext_getElem (by simp)
  intro t h1 h2
  have := putS_in ss l i t h h2
  simp only [List.getElem_map, List.getElem_range, this]
  simp [List.getD, h2]
theorem app_write (d : Dk) (i : Nat) (s : List Int) : (d.write i s).now = d.now.set i s := app_snoc _ _ _
theorem storeP_now : ∀ (ss : List (List Int)) (d : Dk) (i : Nat), d.left = -1 → (storeP d i ss).1.now = putS d.now i ss
  | [], d, i, _ => rfl
  | s :: r, d, i, h => by
    unfold storeP putS
    rw [if_neg (by omega), storeP_now r _ _ (by simp [Dk.write, burn, h]), app_write]
theorem flush_now (d : Dk) : d.flush.now = d.now := rfl

/-- What stands in a page's sectors. -/
def cellF (c : Nat → Option Pg) (no : Nat) : List Int := match c no with
  | none => zeros 512
  | some p => frameOf p
/-- The page that is told. -/
def told (c : Nat → Option Pg) (no : Nat) : Pg := match c no with
  | none => ⟨no, 0, zeros 480⟩
  | some p => p
/-- A File's sectors: its pages, the journal, which tells pages that are in place. -/
structure FSt (l : List (List Int)) (p0 np : Nat) (c : Nat → Option Pg) : Prop where
  sec : ∀ s ∈ l, Sec s
  room : p0 + np * 8 + 80 ≤ l.length
  most : np ≤ 4096
  pages : ∀ no, no < np → secs l (p0 + no * 8) 8 = cellF c no
  okc : ∀ no p, c no = some p → p.no = no ∧ p.Ok np
  jour : ∃ js : List Pg, takes np js ∧ (∀ p ∈ js, c p.no = some p) ∧ secs l (p0 + np * 8) (1 + 8 * js.length) = jBytes js

theorem uv_zero {x : Int} (h : allZ (uv x) = true) : x = 0 := by
  unfold uv at h
  by_cases hx : x < 128
  · rw [uvF_small 9 hx] at h
    simpa [allZ] using h
  · rw [uvF_more 8 (by omega)] at h
    simp [allZ] at h
    omega
theorem allZ_app {a b : List Int} (h : allZ (a ++ b) = true) : allZ a = true ∧ allZ b = true := by
  unfold allZ at *
  rw [List.all_append, Bool.and_eq_true] at h
  exact h
theorem allZ_eq {a : List Int} (h : allZ a = true) : a = zeros a.length := by
  unfold allZ at h
  rw [List.all_eq_true] at h
  apply List.ext_getElem (by simp [zeros])
  intro i h1 h2
  have := h a[i] (List.getElem_mem h1)
  simp [zeros] at this ⊢
  exact this
theorem allZ_zeros (n : Nat) : allZ (zeros n) = true := by
  unfold allZ zeros
  rw [List.all_eq_true]
  intro x hx
  rw [List.eq_of_mem_replicate hx]
  rfl
theorem fetch_frame {p : Pg} {np : Nat} (h : p.Ok np) (hn : np ≤ 4096) : fetchP (frameOf p) p.no = p := by
  unfold fetchP
  split
  · rename_i hz
    have h1 := allZ_app hz
    have h2 := allZ_app h1.1
    have h3 := allZ_app h2.1
    have h4 := allZ_app h3.1
    have e1 : p.data = zeros 480 := by have := allZ_eq h4.1; rw [h.len] at this; exact this
    have e3 : p.lsn = 0 := uv_zero h3.2
    cases p
    simp only at e1 e3 ⊢
    rw [e1, e3]
  · exact (page_back h hn).2
theorem FSt.fetch {l : List (List Int)} {p0 np : Nat} {c : Nat → Option Pg} (h : FSt l p0 np c) {no : Nat} (hno : no < np) : OkAt (secs l (p0 + no * 8) 8) no ∧ fetchP (secs l (p0 + no * 8) 8) no = told c no := by
  rw [h.pages no hno]
  unfold cellF told
  cases hc : c no with
  | none =>
    exact ⟨.inl (allZ_zeros 512), by unfold fetchP; rw [if_pos (allZ_zeros 512)]⟩
  | some p =>
    obtain ⟨e, ho⟩ := h.okc no p hc
    have hb := page_back ho h.most
    refine ⟨.inr ⟨hb.1, by rw [hb.2]; exact e⟩, ?_⟩
    rw [← e]
    exact fetch_frame ho h.most
theorem framesOf_at : ∀ (js : List Pg) (j : Nat) (hj : j < js.length), (∀ p ∈ js, p.data.length = 480) → frameAt (framesOf js) j = frameOf js[j]
  | [], j, hj, _ => by simp at hj
  | p :: r, 0, _, h => by
    have hl := frameOf_len (h p (by simp))
    simp only [frameAt, framesOf, List.map_cons, List.flatten_cons, Nat.mul_zero, List.drop_zero, List.getElem_cons_zero]
    rw [List.take_append_of_le_length (by omega), List.take_of_length_le (by omega)]
  | p :: r, j + 1, hj, h => by
    have hl := frameOf_len (h p (by simp))
    have ih := framesOf_at r j (by simpa using hj) (fun q hq => h q (by simp [hq]))
    simp only [List.getElem_cons_succ, ← ih]
    simp only [frameAt, framesOf, List.map_cons, List.flatten_cons]
    congr 1
    rw [show 512 * (j + 1) = (frameOf p).length + 512 * j by omega, List.drop_append]
    simp
theorem headOf_nil : headOf [] = zeros 64 := by decide
/-- What the journal tells. -/
theorem FSt.noted {l : List (List Int)} {p0 np : Nat} {c : Nat → Option Pg} (h : FSt l p0 np c) : JOk l (p0 + np * 8) np ∧ ∀ p ∈ notedP l (p0 + np * 8), c p.no = some p := by
  obtain ⟨js, htk, hin, hs⟩ := h.jour
  have hroom := h.room
  have hl8 := htk.1
  have hdl : ∀ p ∈ js, p.data.length = 480 := fun p hp => (htk.2.1 p hp).len
  have hfl := framesOf_len hdl
  rw [secs_split (by omega)] at hs
  have hhl := headOf_len hfl hl8
  have hsl : (secs l (p0 + np * 8) 1).length = 64 := by rw [secs_len h.sec (by omega)]
  unfold jBytes at hs
  obtain ⟨e1, e2⟩ := List.append_inj hs (by rw [hsl, hhl])
  have hH : jHead l (p0 + np * 8) = headOf (framesOf js) := e1
  have hc : countOf (jHead l (p0 + np * 8)) = js.length := by rw [hH, countOf_head hfl hl8]
  have hF : jFrames l (p0 + np * 8) = framesOf js := by unfold jFrames; rw [hc]; exact e2
  have herr : ∀ j, j < js.length → pageErr (frameAt (framesOf js) j) = 0 ∧ ∀ hj : j < js.length, pageIn (frameAt (framesOf js) j) = js[j] := fun j hj => by
    rw [framesOf_at js j hj hdl]
    have := page_back (htk.2.1 js[j] (List.getElem_mem hj)) h.most
    exact ⟨this.1, fun _ => this.2⟩
  have hpl : pagesL js.length (framesOf js) = js := by
    unfold pagesL
    rw [if_pos (soundB_iff.2 fun j hj => (herr j hj).1)]
    apply List.ext_getElem (by simp)
    intro j h1 h2
    simp only [List.getElem_map, List.getElem_range]
    exact (herr j h2).2 h2
  have hnp : notedP l (p0 + np * 8) = js := by
    unfold notedP
    rw [hF, hH, if_pos rfl, ← hH, hc, hpl]
  refine ⟨⟨fun _ j hj => ?_, by rw [hnp]; exact htk⟩, by rw [hnp]; exact hin⟩
  rw [hc] at hj
  rw [hF]
  exact .inl (herr j hj).1
/-- Nothing is to be done over. -/
theorem FSt.redo {d : Dk} {p0 np : Nat} {c : Nat → Option Pg} (h : FSt d.now p0 np c) : redoP p0 d (notedP d.now (p0 + np * 8)) = d := by
  have hin := h.noted.2
  have htk := h.noted.1.tk
  generalize notedP d.now (p0 + np * 8) = js at *
  have key : ∀ ps : List Pg, (∀ p ∈ ps, c p.no = some p ∧ p.no < np) → redoL p0 d false ps = (d, false) := by
    intro ps
    induction ps with
    | nil => intro _; rfl
    | cons p r ih =>
      intro hp
      have hp0 := hp p (by simp)
      have e := h.pages p.no hp0.2
      unfold cellF at e
      rw [hp0.1] at e
      unfold redoL
      rw [if_pos e]
      exact ih (fun q hq => hp q (by simp [hq]))
  unfold redoP
  rw [key js (fun p hp => ⟨hin p hp, (htk.2.1 p hp).no⟩)]
  rfl
/-- Sectors elsewhere don't matter. -/
theorem FSt.congr {l l' : List (List Int)} {p0 np : Nat} {c : Nat → Option Pg} (h : FSt l p0 np c) (hs : ∀ s ∈ l', Sec s) (hl : l'.length = l.length) (he : ∀ j, p0 ≤ j → j < p0 + np * 8 + 80 → l'.getD j [] = l.getD j []) : FSt l' p0 np c := by
  have hroom := h.room
  refine ⟨hs, by omega, h.most, fun no hno => ?_, h.okc, ?_⟩
  · rw [← h.pages no hno]
    exact secs_congr (by omega) (by omega) (fun j h1 h2 => he j (by omega) (by omega))
  · obtain ⟨js, htk, hin, hj⟩ := h.jour
    have := htk.1
    refine ⟨js, htk, hin, ?_⟩
    rw [← hj]
    exact secs_congr (by omega) (by omega) (fun j h1 h2 => he j (by omega) (by omega))
/-- Noughts are a File of no pages. -/
theorem secs_noughts (n i k : Nat) (h : i + k ≤ n) : secs (List.replicate n nought) i k = zeros (64 * k) := by
  unfold secs
  rw [List.drop_replicate, List.take_replicate, Nat.min_eq_left (by omega)]
  induction k with
  | zero => rfl
  | succ k ih =>
    rw [List.replicate_succ, List.flatten_cons, ih (by omega)]
    simp only [nought, zeros, List.replicate_append_replicate]
    congr 1
    omega
theorem FSt.fresh {n p0 np : Nat} (h : p0 + np * 8 + 80 ≤ n) (hm : np ≤ 4096) : FSt (List.replicate n nought) p0 np (fun _ => none) := by
  refine ⟨fun s hs => by rw [List.eq_of_mem_replicate hs]; exact sec_nought, by simpa using h, hm, fun no hno => ?_, fun no p hp => by simp at hp, [], ⟨by simp, by simp, by simp⟩, by simp, ?_⟩
  · rw [secs_noughts _ _ _ (by omega)]; rfl
  · rw [secs_noughts _ _ _ (by simp; omega)]
    unfold jBytes
    simp only [framesOf, List.map_nil, List.flatten_nil, List.append_nil, headOf_nil, List.length_nil]
/-- The pages behind a Write. -/
def upd (c : Nat → Option Pg) : List Pg → Nat → Option Pg
  | [], no => c no
  | p :: r, no => if p.no = no then some p else upd c r no
theorem upd_in {c : Nat → Option Pg} : ∀ {ps : List Pg}, (ps.map Pg.no).Nodup → ∀ p ∈ ps, upd c ps p.no = some p
  | [], _, p, hp => by simp at hp
  | q :: r, hn, p, hp => by
    rw [List.map_cons, List.nodup_cons] at hn
    unfold upd
    rcases List.mem_cons.1 hp with rfl | hp
    · simp
    · rw [if_neg (fun e => hn.1 (by rw [e]; exact List.mem_map.2 ⟨p, hp, rfl⟩))]
      exact upd_in hn.2 p hp
theorem upd_out {c : Nat → Option Pg} {no : Nat} : ∀ {ps : List Pg}, (∀ p ∈ ps, p.no ≠ no) → upd c ps no = c no
  | [], _ => rfl
  | q :: r, h => by
    unfold upd
    rw [if_neg (h q (by simp))]
    exact upd_out (fun p hp => h p (by simp [hp]))
theorem upd_some {c : Nat → Option Pg} {no : Nat} {p : Pg} : ∀ {ps : List Pg}, upd c ps no = some p → (p ∈ ps ∧ p.no = no) ∨ c no = some p
  | [], h => .inr h
  | q :: r, h => by
    unfold upd at h
    split at h
    · rename_i e
      injection h with h
      subst h
      exact .inl ⟨by simp, e⟩
    · rcases upd_some h with ⟨h1, h2⟩ | h1
      · exact .inl ⟨by simp [h1], h2⟩
      · exact .inr h1
/-- A Write that comes back. -/
theorem placeP_live (p0 np : Nat) : ∀ (ps : List Pg) (d : Dk), d.left = -1 → (∀ p ∈ ps, p.no < np ∧ p.data.length = 480) → (ps.map Pg.no).Nodup → p0 + np * 8 ≤ d.now.length →
    (placeP p0 d ps).2 = 0 ∧ (placeP p0 d ps).1.left = -1 ∧ (placeP p0 d ps).1.now.length = d.now.length ∧ (∀ p ∈ ps, secs (placeP p0 d ps).1.now (p0 + p.no * 8) 8 = frameOf p) ∧
      (∀ j, (∀ p ∈ ps, j < p0 + p.no * 8 ∨ p0 + p.no * 8 + 8 ≤ j) → (placeP p0 d ps).1.now.getD j [] = d.now.getD j [])
  | [], d, h, _, _, _ => ⟨rfl, h, rfl, by simp, fun _ _ => rfl⟩
  | p :: r, d, h, hp, hn, hl => by
    rw [List.map_cons, List.nodup_cons] at hn
    have hp0 := hp p (by simp)
    have hs := storeP_live (cut64 8 (frameOf p)) d (p0 + p.no * 8) h
    have hnow := storeP_now (cut64 8 (frameOf p)) d (p0 + p.no * 8) h
    have hcl : (cut64 8 (frameOf p)).length = 8 := cut64_len _ _
    have hfl : (cut64 8 (frameOf p)).flatten = frameOf p := cut64_flat 8 _ (by rw [frameOf_len hp0.2])
    have hlen : (storeP d (p0 + p.no * 8) (cut64 8 (frameOf p))).1.now.length = d.now.length := by rw [hnow, putS_len]
    obtain ⟨i1, i2, i3, i4, i5⟩ := placeP_live p0 np r _ hs.2 (fun q hq => hp q (by simp [hq])) hn.2 (by rw [hlen]; exact hl)
    unfold placeP thenP
    rw [if_neg (fun e => e hs.1)]
    refine ⟨i1, i2, by rw [i3, hlen], fun q hq => ?_, fun j hj => ?_⟩
    · rcases List.mem_cons.1 hq with rfl | hq
      · have e : secs (putS d.now (p0 + q.no * 8) (cut64 8 (frameOf q))) (p0 + q.no * 8) 8 = frameOf q := by
          have := putS_secs (l := d.now) (ss := cut64 8 (frameOf q)) (i := p0 + q.no * 8) (by rw [hcl]; omega)
          rw [hcl, hfl] at this
          exact this
        refine (secs_congr (l' := (storeP d (p0 + q.no * 8) (cut64 8 (frameOf q))).1.now) (by rw [i3, hlen]; omega) (by rw [hlen]; omega) (fun j h1 h2 => i5 j (fun x hx => ?_))).trans (by rw [hnow]; exact e)
        have hne : x.no ≠ q.no := fun e => hn.1 (by rw [← e]; exact List.mem_map.2 ⟨x, hx, rfl⟩)
        omega
      · exact i4 q hq
    · rw [i5 j (fun q hq => hj q (by simp [hq])), hnow]
      have := hj p (by simp)
      exact putS_out _ _ _ _ (by rw [hcl]; omega)
theorem FSt.write {d : Dk} {p0 np n : Nat} {c : Nat → Option Pg} (h : FSt d.now p0 np c) (_hok : d.Ok n) (hl : d.left = -1) {ps : List Pg} (ht : takes np ps) (hne : ps ≠ []) :
    (writeP p0 np d ps).2 = 0 ∧ (writeP p0 np d ps).1.left = -1 ∧ (writeP p0 np d ps).1.wait = [] ∧ (writeP p0 np d ps).1.last = (writeP p0 np d ps).1.now ∧ (writeP p0 np d ps).1.writes ≤ d.writes + 200 ∧
      ((writeP p0 np d ps).1.Ok n → FSt (writeP p0 np d ps).1.now p0 np (upd c ps)) ∧ (∀ j, j < p0 ∨ p0 + np * 8 + 80 ≤ j → (writeP p0 np d ps).1.now.getD j [] = d.now.getD j []) := by
  have hroom := h.room
  have hl8 := ht.1
  have hdl : ∀ p ∈ ps, p.data.length = 480 := fun p hp => (ht.2.1 p hp).len
  have hfl := framesOf_len hdl
  have hjl : (jBytes ps).length = 64 * (1 + 8 * ps.length) := by
    unfold jBytes; rw [List.length_append, headOf_len hfl hl8, hfl]; omega
  have hs := storeP_live (cut64 (1 + 8 * ps.length) (jBytes ps)) d (p0 + np * 8) hl
  have hnow := storeP_now (cut64 (1 + 8 * ps.length) (jBytes ps)) d (p0 + np * 8) hl
  have hcl : (cut64 (1 + 8 * ps.length) (jBytes ps)).length = 1 + 8 * ps.length := cut64_len _ _
  have hcf : (cut64 (1 + 8 * ps.length) (jBytes ps)).flatten = jBytes ps := cut64_flat _ _ hjl
  have hnote : noteP d (p0 + np * 8) ps = ((storeP d (p0 + np * 8) (cut64 (1 + 8 * ps.length) (jBytes ps))).1.flush, 0) := by
    unfold noteP thenP
    rw [if_neg (fun e => e hs.1)]
    unfold flushP
    rw [if_neg (by rw [hs.2]; omega)]
  have hnw := noteP_wait d (p0 + np * 8) ps
  have hpw := placeP_wait p0 ps (noteP d (p0 + np * 8) ps).1
  rw [hnote] at hpw hnw
  obtain ⟨d1, hd1⟩ : ∃ d1, d1 = (storeP d (p0 + np * 8) (cut64 (1 + 8 * ps.length) (jBytes ps))).1.flush := ⟨_, rfl⟩
  have hd1l : d1.left = -1 := by rw [hd1]; simp [Dk.flush, burn, hs.2]
  have hd1n : d1.now = putS d.now (p0 + np * 8) (cut64 (1 + 8 * ps.length) (jBytes ps)) := by rw [hd1, flush_now, hnow]
  have hlen1 : d1.now.length = d.now.length := by rw [hd1n, putS_len]
  rw [← hd1] at hnote hpw hnw
  obtain ⟨i1, i2, i3, i4, i5⟩ := placeP_live p0 np ps d1 hd1l (fun p hp => ⟨(ht.2.1 p hp).no, hdl p hp⟩) ht.2.2 (by rw [hlen1]; omega)
  have hw : writeP p0 np d ps = ((placeP p0 d1 ps).1.flush, 0) := by
    unfold writeP
    rw [if_neg hne, hnote]
    unfold thenP
    rw [if_neg (fun e => e rfl)]
    simp only
    rw [if_neg (fun e => e i1)]
    unfold flushP
    rw [if_neg (by rw [i2]; omega)]
  rw [hw]
  have hout : ∀ j, j < p0 ∨ p0 + np * 8 + 80 ≤ j → (placeP p0 d1 ps).1.flush.now.getD j [] = d.now.getD j [] := fun j hj => by
    rw [flush_now, i5 j (fun p hp => by have := (ht.2.1 p hp).no; omega), hd1n]
    exact putS_out _ _ _ _ (by rw [hcl]; omega)
  refine ⟨rfl, by simp [Dk.flush, burn, i2], rfl, rfl, ?_, fun hok2 => ?_, hout⟩
  · show (placeP p0 d1 ps).1.writes ≤ _
    have h1 := hnw.2
    have h2 := hpw.2
    simp only at h1 h2
    omega
  · refine ⟨hok2.now_secs, by rw [flush_now, i3, hlen1]; exact hroom, h.most, fun no hno => ?_, fun no p hp => ?_, ps, ht, fun p hp => upd_in ht.2.2 p hp, ?_⟩
    · by_cases hin : ∃ p ∈ ps, p.no = no
      · obtain ⟨p, hp, rfl⟩ := hin
        unfold cellF
        rw [upd_in ht.2.2 p hp]
        exact i4 p hp
      · have hno2 : ∀ p ∈ ps, p.no ≠ no := fun p hp e => hin ⟨p, hp, e⟩
        unfold cellF
        rw [upd_out hno2]
        have e := h.pages no hno
        unfold cellF at e
        rw [← e]
        refine secs_congr (by rw [flush_now, i3, hlen1]; omega) (by omega) (fun j h1 h2 => ?_)
        rw [flush_now, i5 j (fun p hp => by have := hno2 p hp; omega), hd1n]
        exact putS_out _ _ _ _ (by omega)
    · rcases upd_some hp with ⟨h1, h2⟩ | h1
      · exact ⟨h2, ht.2.1 p h1⟩
      · exact h.okc no p h1
    · have e : secs d1.now (p0 + np * 8) (1 + 8 * ps.length) = jBytes ps := by
        have := putS_secs (l := d.now) (ss := cut64 (1 + 8 * ps.length) (jBytes ps)) (i := p0 + np * 8) (by rw [hcl]; omega)
        rw [hcl, hcf] at this
        rw [hd1n]
        exact this
      rw [← e]
      refine secs_congr (by rw [flush_now, i3, hlen1]; omega) (by rw [hlen1]; omega) (fun j h1 h2 => ?_)
      rw [flush_now, i5 j (fun p hp => by have := (ht.2.1 p hp).no; omega)]
end Go.Proofs.YtkbnjniglngjgaaGreatDoor
