/-
  Layer 3: what terrierlaw3.is and opened give.
-/
import Derived.Test.YtafopokcfkgjiaaDoorGLaws
namespace Go.Proofs.YtafopokcfkgjiaaDoor
open Go.RowKit

theorem Bs.conv' {w : World} {base : Nat} {v : Value} {l : List Int} (h : w.ownsRow base 5 1 v 480 (secV l)) (hb : By l) : (convert 31 9 v).run Tryd.prog w = .ok (.string (strOfNums l)) w := by
  have hl : l.length = 480 := by have := h.1; simpa [secV] using this
  exact (bs_own h hb (by omega)).conv

set_option maxRecDepth 8000 in
set_option maxHeartbeats 1600000 in
theorem is_true {w : World} {base n F B p0 np no m : Nat} {d : Dk} (hd : DiskIs w base B n d) (hf : FileIs w base F B p0 np false) (hl : d.left ≠ 0) (ht : TabOk w) (hp : p0 + np * 8 ≤ n) (hno : no < np) (hok : OkAt (secs d.now (p0 + no * 8) 8) no) (hm : m ≤ 65535) (hpg : fetchP (secs d.now (p0 + no * 8) 8) no = pgOf no m) :
    Calls Tryd.prog 11 #[.pointer (some ⟨F, 0, none⟩), .int .i64 no, .int .i64 m] w fun e w' => e = .returned (.bool true) ∧ Below w.heap.size w w' := by
  have HRD := hid (pread_any hd hf hl ht hp hno hok)
  rw [hpg] at HRD
  have hno2 : (pgOf no m).no = no := rfl
  have hls2 : (pgOf no m).lsn = (m : Int) := rfl
  have hda2 : (pgOf no m).data = dataL m := rfl
  rw [hno2, hls2, hda2] at HRD
  have hwu : IntKind.u64.wrap (m : Int) = (m : Int) := IntWalk.u64_in _ ⟨by omega, by omega⟩
  obtain ⟨S, hS⟩ : ∃ S, S = strOfNums (dataL m) := ⟨_, rfl⟩
  have HS := hid hS
  clear hd hf hl ht hok hpg hno2 hls2 hda2 hS
  go_enter Tryd.func11, Tryd.ntmps11
  go_wp2_with (go_at_call 25; refine HRD.out.mono ?_; rintro e w2 ⟨s2, rfl, hown2, hb2⟩; obtain ⟨a2, c2, rfl, _⟩ := own_any hown2; have HO2 := hid hown2; have HB2 := hid hb2; clear hown2 hb2 HRD)
  obtain ⟨wB, hwB⟩ : ∃ wB, w2.alloc (.cells #[.int .i64 no, .int .u64 m, .slice a2 480 c2] 33) = wB := ⟨_, rfl⟩
  have hbB : Below w2.heap.size w2 wB := by rw [← hwB]; exact (Below.refl _ _).alloc (Nat.le_refl _) _
  have hbox : wB.heap[w2.heap.size]? = some (.cells #[.int .i64 no, .int .u64 m, .slice a2 480 c2] 33 (0, 0)) := by rw [← hwB]; exact heap_new w2 _
  rw [hwB]
  have HC := hid (fun wx (hb : Below wB.heap.size wB wx) => And.intro (cell_of_row wx w2.heap.size 0 _ _ _ ((hb.block _ (lt_of_heap hbox)).trans hbox)) (And.intro (cell_of_row wx w2.heap.size 1 _ _ _ ((hb.block _ (lt_of_heap hbox)).trans hbox)) (And.intro (cell_of_row wx w2.heap.size 2 _ _ _ ((hb.block _ (lt_of_heap hbox)).trans hbox)) (HS.out ▸ Bs.conv' (own_below (own_below HO2.out hbB) hb) (dataL_by m)))))
  have HDA := hid (data_any m wB.drew hm)
  have HBB := hid (HB2.out.trans (hbB.mono HB2.out.size))
  clear hwB hbB hbox
  go_region_held (fun w' => w'.cell? ⟨w2.heap.size, 0, none⟩ = some (.int .i64 no) ∧ w'.cell? ⟨w2.heap.size, 1, none⟩ = some (.int .u64 m) ∧ w'.cell? ⟨w2.heap.size, 2, none⟩ = some (.slice a2 480 c2) ∧ (convert 31 9 (.slice a2 480 c2)).run Tryd.prog w' = .ok (.string S) w') (first | exact HC.out _ (Below.refl _ wB).drew | exact HC.out _ HBC.out) (first
    | (go_at_call 22; refine HDA.out.mono ?_; rintro e w3 ⟨g3, rfl, hown3, hb3⟩; have HBC := hid ((Below.refl _ wB).drew.trans hb3); have hcv3 := HS.out ▸ Bs.conv' hown3 (dataL_by m); have HB3 := hid (HBB.out.trans (HBC.out.mono HBB.out.size)); clear hown3 hb3))
  all_goals
    go_wp2
    go_ret
    exact ⟨rfl, HB3.out⟩

theorem Dk.fuse_off {d : Dk} (h : d.left = -1) : d.fuse (-1) = d := by
  unfold Dk.fuse
  rw [if_neg (by omega)]
  cases d
  simp only at h
  rw [h]
  rfl
set_option maxRecDepth 8000 in
theorem opened_gen {w : World} {base n B p0 np : Nat} {d : Dk} (hd : DiskIs w base B n d) (hl : d.left = -1) (ht : TabOk w) (hg : 0 < base) (h1 : 1 ≤ np) (hnp : np ≤ 4096) (hp : p0 + np * 8 + 80 ≤ n) (hj : JOk d.now (p0 + np * 8) np)
    (hok : ∀ no, no < np → OkAt (secs (redoP p0 d (notedP d.now (p0 + np * 8))).now (p0 + no * 8) 8) no) (hwl : d.wait.length ≤ 700000) (hwr : d.writes ≤ 700000000) :
    Calls Tryd.prog 6 #[.pointer (some ⟨B, 0, none⟩), .int .i64 p0, .int .i64 np, .int .i64 (-1), .slice none 0 0] w fun e w' => ∃ F, e = .returned (.pointer (some ⟨F, 0, none⟩)) ∧ w.heap.size ≤ F ∧ DiskIs w' base B n (redoP p0 d (notedP d.now (p0 + np * 8))) ∧ FileIs w' base F B p0 np false ∧ Kp base F w w' := by
  have HO := hid (open_good hd hl ht hg h1 hnp hp hj hok hwl hwr)
  have hlive := redoP_live p0 (notedP d.now (p0 + np * 8)) d hl
  generalize redoP p0 d (notedP d.now (p0 + np * 8)) = dr at *
  have hll := hlive.1
  have hlz : (dr.left == 0) = false := by simp [hll]
  have HLL := hid hll
  clear hd hl ht hj hok hlive hll
  go_enter Tryd.func6, Tryd.ntmps6
  go_wp2_with (first
    | (go_at_call 13; refine HO.out.mono ?_; rintro e w2 ⟨F, rfl, hFs, hd2, hf2, hk2⟩; have HDE := hid (dead_any hd2); rw [hlz] at HDE; have HFU := hid (fuse_any hd2 (k := -1) (by omega) (by omega)); rw [Dk.fuse_off HLL.out] at HFU; have HF2 := hid hf2; have HK2 := hid hk2; have HFS := hid hFs; clear hd2 hf2 hk2 HO hFs)
    | (go_at_call 14; refine HDE.out.mono ?_; rintro e w3 ⟨rfl, hw⟩; have hw' := hw.symm; clear hw HDE; subst hw')
    | (go_at_call 9; refine HFU.out.mono ?_; rintro e w3 ⟨⟨v3, rfl⟩, hd3, hk3⟩; have HD3 := hid hd3; have HF3 := hid (HF2.out.kd hk3); have HK3 := hid (HK2.out.trans (Kp.of_kd hk3)); clear hd3 hk3 HFU))
  go_ret
  exact ⟨_, rfl, HFS.out, HD3.out, HF3.out, HK3.out⟩
theorem opened_st {w : World} {base n B p0 np : Nat} {d : Dk} {c : Nat → Option Pg} (hd : DiskIs w base B n d) (hl : d.left = -1) (ht : TabOk w) (hg : 0 < base) (h1 : 1 ≤ np) (hst : FSt d.now p0 np c) (hwl : d.wait.length ≤ 700000) (hwr : d.writes ≤ 700000000) :
    Calls Tryd.prog 6 #[.pointer (some ⟨B, 0, none⟩), .int .i64 p0, .int .i64 np, .int .i64 (-1), .slice none 0 0] w fun e w' => ∃ F, e = .returned (.pointer (some ⟨F, 0, none⟩)) ∧ w.heap.size ≤ F ∧ DiskIs w' base B n d ∧ FileIs w' base F B p0 np false ∧ Kp base F w w' := by
  have hroom := hst.room
  rw [hd.ok.now_len] at hroom
  have hre := hst.redo
  have := opened_gen hd hl ht hg h1 hst.most hroom hst.noted.1 (by rw [hre]; exact fun no hno => (hst.fetch hno).1) hwl hwr
  rw [hre] at this
  exact this
theorem is_st {w : World} {base n F B p0 np no m : Nat} {d : Dk} {c : Nat → Option Pg} (hd : DiskIs w base B n d) (hf : FileIs w base F B p0 np false) (hl : d.left ≠ 0) (ht : TabOk w) (hst : FSt d.now p0 np c) (hno : no < np) (hm : m ≤ 65535) (hpg : told c no = pgOf no m) :
    Calls Tryd.prog 11 #[.pointer (some ⟨F, 0, none⟩), .int .i64 no, .int .i64 m] w fun e w' => e = .returned (.bool true) ∧ Below w.heap.size w w' := by
  have hroom := hst.room
  rw [hd.ok.now_len] at hroom
  exact is_true hd hf hl ht (by omega) hno (hst.fetch hno).1 hm ((hst.fetch hno).2.trans hpg)
set_option maxRecDepth 8000 in
theorem told_none (no : Nat) : told (fun _ => none) no = pgOf no 0 := by
  have : zeros 480 = dataL 0 := by
    apply List.ext_getElem (by rw [zeros_len, dataL_len])
    intro i h1 h2
    simp only [zeros, dataL, dataB, List.getElem_replicate, List.getElem_map, Nat.zero_mul]
    rfl
  simp only [told, pgOf, this]
  rfl
/-- A slice of one page, just laid. -/
theorem pgs_one {w : World} {no m : Nat} {a : Option Addr} {c : Nat} (h : w.ownsRow 0 5 1 (.slice a 480 c) 480 (secV (dataL m))) :
    Pgs (w.alloc (.cells #[.int .i64 no, .int .u64 m, .slice a 480 c] 33)) (.slice (some ⟨w.heap.size, 0, none⟩) 1 1) [pgOf no m] := by
  refine ⟨_, 1, rfl, Nat.le_refl _, fun _ => ⟨w.heap.size, 0, _, (0, 0), rfl, heap_new w _, fun k p hk => ?_⟩⟩
  have hk0 : k = 0 := by
    have := (List.getElem?_eq_some_iff.1 hk).1
    simpa using this
  subst hk0
  simp at hk
  subst hk
  have hc : ∀ j : Nat, (w.alloc (.cells #[.int .i64 no, .int .u64 m, .slice a 480 c] 33)).cell? ⟨w.heap.size, j, none⟩ = (#[Value.int .i64 no, .int .u64 m, .slice a 480 c] : Array Value)[j]? := fun j => cell_of_row _ _ _ _ _ _ (heap_new w _)
  refine ⟨.slice a 480 c, hc 0, hc 1, hc 2, ?_⟩
  rw [show (pgOf no m).data.length = 480 from dataL_len m]
  exact h.alloc _
theorem takes_one {no m np : Nat} (h : no < np) (hm : m ≤ 65535) : takes np [pgOf no m] := ⟨by simp, fun p hp => by simp at hp; subst hp; exact pgOf_ok h hm, by simp⟩
end Go.Proofs.YtafopokcfkgjiaaDoor
