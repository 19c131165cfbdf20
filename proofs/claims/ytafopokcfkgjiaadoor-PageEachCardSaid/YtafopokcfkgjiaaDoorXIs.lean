/-
  Layer 3: what terrierlaw3.is answers of another page; slices of two and of three pages.
-/
import Derived.Test.YtafopokcfkgjiaaDoorGAwake
namespace Go.Proofs.YtafopokcfkgjiaaDoor
open Go.RowKit

set_option maxRecDepth 8000 in
set_option maxHeartbeats 1600000 in
theorem is_false {w : World} {base n F B p0 np no m k : Nat} {d : Dk} (hd : DiskIs w base B n d) (hf : FileIs w base F B p0 np false) (hl : d.left ≠ 0) (ht : TabOk w) (hp : p0 + np * 8 ≤ n) (hno : no < np) (hok : OkAt (secs d.now (p0 + no * 8) 8) no) (hm : m ≤ 65535) (_hk : k ≤ 65535) (hkm : k ≠ m) (hpg : fetchP (secs d.now (p0 + no * 8) 8) no = pgOf no k) :
    Calls Tryd.prog 11 #[.pointer (some ⟨F, 0, none⟩), .int .i64 no, .int .i64 m] w fun e w' => e = .returned (.bool false) ∧ Below w.heap.size w w' := by
  have HRD := hid (pread_any hd hf hl ht hp hno hok)
  rw [hpg] at HRD
  have hno2 : (pgOf no k).no = no := rfl
  have hls2 : (pgOf no k).lsn = (k : Int) := rfl
  have hda2 : (pgOf no k).data = dataL k := rfl
  rw [hno2, hls2, hda2] at HRD
  have hwu : IntKind.u64.wrap (m : Int) = (m : Int) := IntWalk.u64_in _ ⟨by omega, by omega⟩
  have hkm2 : ¬ ((k : Int) = (m : Int)) := by omega
  have hkm3 : ((k : Int) == (m : Int)) = false := by simp; omega
  have hkm4 : decide ((k : Int) = (m : Int)) = false := by simp; omega
  have hkm5 : (k == m) = false := by simp; omega
  have hkm6 : decide (k = m) = false := by simp; omega
  clear hd hf hl ht hok hpg hno2 hls2 hda2
  go_enter Tryd.func11, Tryd.ntmps11
  go_wp2_with (go_at_call 25; refine HRD.out.mono ?_; rintro e w2 ⟨s2, rfl, hown2, hb2⟩; obtain ⟨a2, c2, rfl, _⟩ := own_any hown2; have HO2 := hid hown2; have HB2 := hid hb2; clear hown2 hb2 HRD)
  obtain ⟨wB, hwB⟩ : ∃ wB, w2.alloc (.cells #[.int .i64 no, .int .u64 k, .slice a2 480 c2] 33) = wB := ⟨_, rfl⟩
  have hbB : Below w2.heap.size w2 wB := by rw [← hwB]; exact (Below.refl _ _).alloc (Nat.le_refl _) _
  have hbox : wB.heap[w2.heap.size]? = some (.cells #[.int .i64 no, .int .u64 k, .slice a2 480 c2] 33 (0, 0)) := by rw [← hwB]; exact heap_new w2 _
  rw [hwB]
  have HC := hid (fun wx (hb : Below wB.heap.size wB wx) => And.intro (cell_of_row wx w2.heap.size 0 _ _ _ ((hb.block _ (lt_of_heap hbox)).trans hbox)) (cell_of_row wx w2.heap.size 1 _ _ _ ((hb.block _ (lt_of_heap hbox)).trans hbox)))
  have HBB := hid (HB2.out.trans (hbB.mono HB2.out.size))
  clear hwB hbB hbox
  have cB0 := (HC.out _ (Below.refl _ wB)).1
  have cB1 := (HC.out _ (Below.refl _ wB)).2
  have cD0 := (HC.out _ (Below.refl _ wB).drew).1
  have cD1 := (HC.out _ (Below.refl _ wB).drew).2
  simp only [List.getElem?_toArray, List.getElem?_cons_succ, List.getElem?_cons_zero] at cB0 cB1 cD0 cD1
  go_big_region
  all_goals
    go_wp2
    go_ret
    exact ⟨rfl, HBB.out.drew⟩
end Go.Proofs.YtafopokcfkgjiaaDoor
