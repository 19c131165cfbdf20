/-
  PageAgain: what stands in memory between two rounds; the arguments.
-/
import Derived.Test.YtaoeimijlilclaaDoorGAwake
namespace Go.Proofs.YtaoeimijlilclaaDoor
open Go.RowKit

theorem upd_snoc {c : Nat → Option Pg} {p : Pg} {no : Nat} : ∀ {ps : List Pg}, (∀ q ∈ ps, q.no ≠ p.no) → upd c (ps ++ [p]) no = if p.no = no then some p else upd c ps no
  | [], _ => rfl
  | q :: r, h => by
    have ih := upd_snoc (c := c) (p := p) (no := no) (ps := r) (fun x hx => h x (by simp [hx]))
    simp only [List.cons_append, upd, ih]
    by_cases h1 : q.no = no
    · have : ¬ p.no = no := fun e => h q (by simp) (h1.trans e.symm)
      simp [h1, this]
    · simp [h1]
theorem takes_snoc {np : Nat} {ps : List Pg} {p : Pg} (h : takes np ps) (hl : ps.length < 8) (hp : p.Ok np) (hn : ∀ q ∈ ps, q.no ≠ p.no) : takes np (ps ++ [p]) := by
  refine ⟨by simp; omega, fun q hq => ?_, ?_⟩
  · rcases List.mem_append.1 hq with hq | hq
    · exact h.2.1 q hq
    · simp at hq; subst hq; exact hp
  · rw [List.map_append, List.nodup_append]
    refine ⟨h.2.2, by simp, fun a ha b hb => ?_⟩
    obtain ⟨q, hq, rfl⟩ := List.mem_map.1 ha
    simp at hb
    subst hb
    exact hn q hq
theorem takes_nil (np : Nat) : takes np [] := ⟨by simp, by simp, by simp⟩

/-- A Write of any pages, none too. -/
theorem pwrite_all {w : World} {base n F B p0 np : Nat} {d : Dk} (hd : DiskIs w base B n d) (hf : FileIs w base F B p0 np false) (ht : TabOk w) (hg : 0 < base) (hp : p0 + np * 8 + 80 ≤ n) (hnp : np ≤ 4096) {v : Value} {ps : List Pg} (hpg : Pgs w v ps) (htk : takes np ps) (hwl : d.wait.length ≤ 700000) (hwr : d.writes ≤ 700000000) :
    Calls Tryd.prog 11 #[.pointer (some ⟨F, 0, none⟩), v] w fun e w' => e = .returned (.int .i64 (writeP p0 np d ps).2) ∧ DiskIs w' base B n (writeP p0 np d ps).1 ∧ (∃ half, FileIs w' base F B p0 np half ∧ ((writeP p0 np d ps).2 = 0 → half = false)) ∧ Kp base F w w' := by
  by_cases hne : ps = []
  · subst hne
    have e : writeP p0 np d [] = (d, 0) := by unfold writeP; rw [if_pos rfl]
    rw [e]
    exact (write_none hf hpg).mono fun e w' ⟨h1, h2⟩ => ⟨h1, hd.below h2, ⟨false, hf.below h2, fun _ => rfl⟩, Kp.fresh h2 hd.base_le⟩
  · exact pwrite_any hd hf ht hg hp hnp hpg htk hne hwl hwr
theorem wrote_all {d : Dk} {p0 np n : Nat} {c : Nat → Option Pg} (h : FSt d.now p0 np c) (hok : d.Ok n) (hl : d.left = -1) (hw : d.wait = []) (hs : d.last = d.now) {ps : List Pg} (ht : takes np ps) :
    ∃ d1, writeP p0 np d ps = (d1, 0) ∧ d1.left = -1 ∧ d1.wait = [] ∧ d1.last = d1.now ∧ d1.writes ≤ d.writes + 200 ∧ (d1.Ok n → FSt d1.now p0 np (upd c ps)) := by
  by_cases hne : ps = []
  · subst hne
    exact ⟨d, by unfold writeP; rw [if_pos rfl], hl, hw, hs, by omega, fun _ => h⟩
  · obtain ⟨d1, h1, h2, h3, h4, h5, h6, _⟩ := wrote h hok hl ht hne
    exact ⟨d1, h1, h2, h3, h4, h5, h6⟩

/-- A row of numbers. -/
def nowV (ns : List Nat) : List Value := ns.map fun n : Nat => Value.int .i64 (n : Int)
structure AgI (w : World) (B F NB : Nat) (dk : Dk) (c : Nat → Option Pg) (v : Value) (ps : List Pg) (ns : List Nat) (W : World) : Prop where
  disk : DiskIs W w.heap.size B 144 dk
  live : dk.left = -1
  wt : dk.wait = []
  ls : dk.last = dk.now
  fl : FileIs W w.heap.size F B 0 8 false
  st : FSt dk.now 0 8 c
  row : PgRow W w.heap.size v ps
  tk : takes 8 ps
  nb : W.heap[NB]? = some (.cells (nowV ns).toArray 30 (0, 0))
  nb0 : w.heap.size ≤ NB
  nl : ns.length = 8
  nle : ∀ n ∈ ns, n ≤ 65535
  tl : ∀ no, no < 8 → told (upd c ps) no = pgOf no (ns.getD no 0)
  below : Below w.heap.size w W
theorem AgI.fresh {w W W' : World} {B F NB : Nat} {dk : Dk} {c : Nat → Option Pg} {v : Value} {ps : List Pg} {ns : List Nat} (h : AgI w B F NB dk c v ps ns W) (hb : Below W.heap.size W W') : AgI w B F NB dk c v ps ns W' :=
  ⟨h.disk.below hb, h.live, h.wt, h.ls, h.fl.below hb, h.st, h.row.below hb, h.tk, (hb.block _ (lt_of_heap h.nb)).trans h.nb, h.nb0, h.nl, h.nle, h.tl, h.below.trans (hb.mono h.below.size)⟩
/-- A page more is put aside. -/
theorem AgI.add {w W : World} {B F NB : Nat} {dk : Dk} {c : Nat → Option Pg} {v : Value} {ps : List Pg} {ns : List Nat} (h : AgI w B F NB dk c v ps ns W) (hl : ps.length < 8) {no m : Nat} (hno : no < 8) (hm : m ≤ 65535) (hn : ∀ q ∈ ps, q.no ≠ no) {aS : Option Addr} {cs : Nat} (hs : W.ownsRow 0 5 1 (.slice aS 480 cs) 480 (secV (dataL m))) :
    ∃ a' c' W', (Builtin.append_ #[31, 31] 31 #[v, .slice (some ⟨W.heap.size, 0, none⟩) 1 1]).run Tryd.prog (W.alloc (.cells #[.int .i64 no, .int .u64 m, .slice aS 480 cs] 37)) = .ok (.slice a' (ps.length + 1) c') W' ∧
      W'.heap[NB]? = some (.cells (nowV ns).toArray 30 (0, 0)) ∧ (∀ (k : Nat) (x : Array Value) (t : TypeId) (f : Nat × Nat), W.heap[k]? = some (Obj.cells x t f) → t ≠ 37 → W'.heap[k]? = some (.cells x t f)) ∧
      AgI w B F NB dk c (.slice a' (ps.length + 1) c') (ps ++ [pgOf no m]) (ns.set no m) (W'.setCell ⟨NB, no, none⟩ (.int .i64 m)) := by
  obtain ⟨a', c', W', hrun, hrow, row, hg, hr⟩ := h.row.snoc h.below.size (by omega) (p := pgOf no m) (by rw [show (pgOf no m).data.length = 480 from dataL_len m]; exact hs) 31
  have hbA : Below W.heap.size W (W.alloc (.cells #[.int .i64 no, .int .u64 m, .slice aS 480 cs] 37)) := (Below.refl _ _).alloc (Nat.le_refl _) _
  have key : ∀ (k : Nat) (x : Array Value) (t : TypeId) (f : Nat × Nat), W.heap[k]? = some (Obj.cells x t f) → t ≠ 37 → W'.heap[k]? = some (.cells x t f) := fun k x t f hk ht => by
    refine ((hg.block k (Nat.lt_of_lt_of_le (lt_of_heap hk) hbA.size) (fun e => ?_)).trans (hbA.block k (lt_of_heap hk))).trans hk
    obtain ⟨_, _, c2, f2, h2⟩ := hr k e.symm
    rw [hk] at h2
    injection h2 with e1
    injection e1 with _ e2 _
    exact ht e2
  have nb' := key _ _ _ _ h.nb (by decide)
  have hBW' : Below w.heap.size w W' := (h.below.trans (hbA.mono h.below.size)).grown hg (Nat.le_trans h.below.size hbA.size) (fun k e => (hr k e).1)
  have far : ∀ k, k ≠ NB → (W'.setCell ⟨NB, no, none⟩ (.int .i64 m)).heap[k]? = W'.heap[k]? := fun k hk => Below.heap_setCell W' _ _ k (fun e => hk (by rw [e]))
  have hne : ∀ (k : Nat) (x : Array Value) (t : TypeId) (f : Nat × Nat), W'.heap[k]? = some (Obj.cells x t f) → t ≠ 30 → k ≠ NB := fun k x t f hk ht e => by
    subst e
    rw [nb'] at hk
    injection hk with e1
    injection e1 with _ e2 _
    exact ht e2.symm
  have hdk' : DiskIs W' w.heap.size B 144 dk := h.disk.same fun k x t f hk ht => (key k x t f hk (fun e => by subst e; exact nd_page ht)).trans hk.symm
  refine ⟨a', c', W', hrun, nb', key, ⟨?_, h.live, h.wt, h.ls, ⟨h.fl.1, ?_⟩, h.st, ?_, takes_snoc h.tk hl (pgOf_ok hno hm) hn, ?_, h.nb0, by simp [h.nl], ?_, ?_, hBW'.setCell (p := ⟨NB, no, none⟩) h.nb0 _⟩⟩
  · exact hdk'.box nb' (by unfold diskT; decide) _
  · exact (far F (hne F _ _ _ (key _ _ _ _ h.fl.2 (by decide)) (by decide))).trans (key _ _ _ _ h.fl.2 (by decide))
  · exact hrow.same fun k x t f hk ht => far k (hne k x t f hk (by rcases ht with rfl | rfl <;> decide))
  · rw [heap_setCell_same W' NB no _ _ _ nb']
    have : (nowV ns).toArray.setIfInBounds no (.int .i64 m) = (nowV (ns.set no m)).toArray := by
      rw [List.setIfInBounds_toArray, nowV, nowV, List.map_set]
    rw [this]
  · intro x hx
    rcases List.mem_or_eq_of_mem_set hx with hx | hx
    · exact h.nle x hx
    · omega
  · intro k hk
    have hu := upd_snoc (c := c) (p := pgOf no m) (no := k) hn
    have hns : (ns.set no m).getD k 0 = if no = k then m else ns.getD k 0 := by
      by_cases e : no = k
      · subst e; simp [List.getD, h.nl, hk]
      · simp [List.getD, e]
    rw [hns]
    unfold told
    rw [hu]
    by_cases e : no = k
    · subst e
      simp [pgOf]
    · have : ¬ (pgOf no m).no = k := e
      simp only [this, if_false, e]
      exact h.tl k hk
/-- What was put aside is written, the disk crashed with nothing to lose. -/
theorem crash_same {d : Dk} (hw : d.wait = []) (hs : d.last = d.now) (hl : d.left = -1) : d.crash [] = d := by
  have e : kept [] d.wait = [] := kept_nil _
  cases d
  simp only [Dk.crash, e, app] at *
  rw [hw, hl]
/-- All but the File's own block and the disk's stays. -/
theorem AgI.kp {w W W' : World} {B F F' G NB : Nat} {dk d1 : Dk} {c c' : Nat → Option Pg} {v v' : Value} {ps ps' : List Pg} {ns : List Nat} (h : AgI w B F NB dk c v ps ns W) (hk : Kp w.heap.size G W W') (hd : DiskIs W' w.heap.size B 144 d1) (h1 : d1.left = -1) (h2 : d1.wait = []) (h3 : d1.last = d1.now)
    (hf : FileIs W' w.heap.size F' B 0 8 false) (hs : FSt d1.now 0 8 c') (hr : PgRow W' w.heap.size v' ps') (ht : takes 8 ps') (hu : upd c' ps' = upd c ps) : AgI w B F' NB d1 c' v' ps' ns W' :=
  ⟨hd, h1, h2, h3, hf, hs, hr, ht, (hk.keep _ _ _ _ h.nb (by unfold diskT; decide) (.inl (by decide))).trans h.nb, h.nb0, h.nl, h.nle, fun no hno => by rw [hu]; exact h.tl no hno, h.below.trans hk.below⟩
theorem AgI.write {w W : World} {B F NB : Nat} {dk : Dk} {c : Nat → Option Pg} {v : Value} {ps : List Pg} {ns : List Nat} (h : AgI w B F NB dk c v ps ns W) (ht : TabOk w) (hw : dk.writes ≤ 700000000) :
    Calls Tryd.prog 11 #[.pointer (some ⟨F, 0, none⟩), v] W fun e w' => e = .returned (.int .i64 0) ∧ ∃ d1, AgI w B F NB d1 (upd c ps) (.slice none 0 0) [] ns w' ∧ d1.writes ≤ dk.writes + 200 := by
  obtain ⟨d1, e1, h1, h2, h3, h4, h5⟩ := wrote_all h.st h.disk.ok h.live h.wt h.ls h.tk
  refine (pwrite_all h.disk h.fl (ht.below h.below (Nat.le_refl _)) ht.lt (by omega) (by omega) h.row.pgs h.tk (by rw [h.wt]; simp) hw).mono ?_
  rintro e w' ⟨rfl, hd, ⟨half, hf, hh⟩, hk⟩
  rw [e1] at hd hh ⊢
  obtain rfl := hh rfl
  exact ⟨rfl, d1, h.kp hk hd h1 h2 h3 hf (h5 hd.ok) (PgRow.nil _ _) (takes_nil 8) (funext fun _ => rfl), h4⟩
theorem AgI.crash {w W : World} {B F NB : Nat} {dk : Dk} {c : Nat → Option Pg} {v : Value} {ps : List Pg} {ns : List Nat} (h : AgI w B F NB dk c v ps ns W) :
    Calls Tryd.prog 12 #[.pointer (some ⟨B, 0, none⟩), .slice none 0 0] W fun e w' => (∃ v', e = .returned v') ∧ AgI w B F NB dk c v ps ns w' := by
  refine (crash_any h.disk (by rw [h.wt]; simp) (ints_nil W) (by simp)).mono ?_
  rintro e w' ⟨he, hd, hk⟩
  rw [crash_same h.wt h.ls h.live] at hd
  exact ⟨he, h.kp (G := 0) (.of_kd hk) hd h.live h.wt h.ls (h.fl.kd hk) h.st (h.row.kd hk) h.tk rfl⟩
theorem AgI.open {w W : World} {B F NB : Nat} {dk : Dk} {c : Nat → Option Pg} {v : Value} {ps : List Pg} {ns : List Nat} (h : AgI w B F NB dk c v ps ns W) (ht : TabOk w) (hw : dk.writes ≤ 700000000) :
    Calls Tryd.prog 9 #[.pointer (some ⟨B, 0, none⟩), .int .i64 0, .int .i64 8, .int .i64 (-1), .slice none 0 0] W fun e w' => ∃ F', e = .returned (.pointer (some ⟨F', 0, none⟩)) ∧ AgI w B F' NB dk c v ps ns w' := by
  refine (opened_st (p0 := 0) (np := 8) h.disk h.live (ht.below h.below (Nat.le_refl _)) ht.lt (by omega) h.st (by rw [h.wt]; simp) hw).mono ?_
  rintro e w' ⟨F', rfl, _, hd, hf, hk⟩
  exact ⟨F', rfl, h.kp hk hd h.live h.wt h.ls hf h.st (h.row.kp hk) h.tk rfl⟩
theorem AgI.is {w W : World} {B F NB : Nat} {dk : Dk} {c : Nat → Option Pg} {v : Value} {ns : List Nat} (h : AgI w B F NB dk c v [] ns W) (ht : TabOk w) {no m : Nat} (hno : no < 8) (hm : ns[no]? = some m) :
    Calls Tryd.prog 13 #[.pointer (some ⟨F, 0, none⟩), .int .i64 no, .int .i64 m] W fun e w' => e = .returned (.bool true) ∧ Below W.heap.size W w' := by
  have hl := h.tl no hno
  rw [show ns.getD no 0 = m by simp [List.getD, hm]] at hl
  exact is_st h.disk h.fl (by rw [h.live]; decide) (ht.below h.below (Nat.le_refl _)) h.st hno (h.nle m (List.mem_of_getElem? hm)) hl
end Go.Proofs.YtaoeimijlilclaaDoor
