/-
  Layer 17: draft's IDs of a row of nodes.
-/
import Derived.Test.YtdjbjadaldndcaaGreatN1
import Derived.Test.YtdjbjadaldndcaaGreatMS
namespace Go.Proofs.YtdjbjadaldndcaaGreat
open Go.RowKit Go.Shelf Go.Sort

theorem make_ints (m : Nat) (hm : m ≤ 100000) : ∃ C, ∀ w : World, (Instr.makeSlice 36 (.int .i64 (m : Int)) (.int .i64 (m : Int))).run Tryz.prog w = .ok (.slice (some ⟨w.heap.size, 0, none⟩) m m) (w.alloc (.cells C 3)) ∧ NRow (w.alloc (.cells C 3)) w.heap.size (.slice (some ⟨w.heap.size, 0, none⟩) m m) (List.replicate m 0) := by
  obtain ⟨i0, hi, hz0, hz1, hz2⟩ := info_parts infoInt
  refine ⟨madeCells #[.int .i64 0] m, fun w => ⟨?_, ?_⟩⟩
  · have := run_make (P := Tryz.prog) w 36 3 i0 _ Tryz.underlying36 hi hz0 .i64 .i64 m m (by omega) (by omega) (by rw [hz2]; omega) (by omega)
    rw [hz1, Nat.mul_one] at this
    exact this
  · have e : (madeCells #[Value.int .i64 0] m).toList = (List.replicate m (0 : Int)).map (Value.int .i64) := by rw [toList_madeCells_one, List.map_replicate]
    refine ⟨by simp, .inr ⟨w.heap.size, m, madeCells #[.int .i64 0] m, by simp, Nat.le_refl _, World.alloc_heap_new w _, by simp, by unfold maxLen; omega, by rw [size_madeCells]; omega, ?_⟩⟩
    rw [e, List.length_replicate, Nat.mul_one, List.take_of_length_le (by simp)]

set_option maxRecDepth 100000 in
set_option maxHeartbeats 1600000 in
theorem nodeID_any (x : NR) (w : World) : Calls Tryz.prog 75 #[nrV x] w fun e w' => e = .returned (.int .i64 x.id) ∧ Below w.heap.size w w' := by
  obtain ⟨wA, hwA⟩ : ∃ wA, w.alloc (nrO x) = wA := ⟨_, rfl⟩
  have hbA : Below w.heap.size w wA := by rw [← hwA]; exact (Below.refl _ w).alloc (Nat.le_refl _) _
  obtain ⟨a0, a1, a2, a3⟩ := nr_cells (show wA.heap[w.heap.size]? = some (nrO x) by rw [← hwA]; exact World.alloc_heap_new w _)
  have HB := hid hbA
  clear hbA
  go_enter Tryz.func75, Tryz.ntmps75
  go_wp2
  go_ret
  exact ⟨rfl, HB.out⟩

/-- A row of numbers under way: the first are there. -/
def wayI (zs : List Int) (k : Nat) : List Int := zs.take k ++ List.replicate (zs.length - k) 0
theorem wayI_zero (zs : List Int) : wayI zs 0 = List.replicate zs.length 0 := by unfold wayI; rw [List.take_zero, List.nil_append, Nat.sub_zero]
theorem wayI_all (zs : List Int) : wayI zs zs.length = zs := by unfold wayI; rw [List.take_length, Nat.sub_self, List.replicate_zero, List.append_nil]
theorem wayI_len (zs : List Int) {k : Nat} (hk : k ≤ zs.length) : (wayI zs k).length = zs.length := by unfold wayI; rw [List.length_append, List.length_take, List.length_replicate]; omega
theorem wayI_set (zs : List Int) {k : Nat} {z : Int} (h : zs[k]? = some z) : (wayI zs k).set k z = wayI zs (k + 1) := by
  have hk : k < zs.length := (List.getElem?_eq_some_iff.1 h).1
  have hl : (zs.take k).length = k := by rw [List.length_take]; omega
  unfold wayI
  rw [List.set_append_right (h := by omega), hl, Nat.sub_self, show zs.length - k = (zs.length - (k + 1)) + 1 by omega, List.replicate_succ, List.set_cons_zero, List.take_add_one, h, List.append_assoc]
  rfl

set_option maxRecDepth 100000 in
set_option maxHeartbeats 3200000 in
theorem idsN_any {w : World} {b off n cap : Nat} {ao : Option Addr} {ns : List NR} (h : NdE w b off n ao ns) :
    Calls Tryz.prog 74 #[.slice ao n cap, .func (.func 75) #[] #[]] w fun e w' => (∃ v, e = .returned v ∧ NRow w' w.heap.size v (ns.map (·.id))) ∧ Below w.heap.size w w' := by
  have hfew := h.few
  have hlen := h.len
  obtain ⟨C, hC⟩ := make_ints n (by omega)
  have hmk := fun wx => (hC wx).1
  obtain ⟨wA, hwA⟩ : ∃ wA, w.alloc (.cells C 3) = wA := ⟨_, rfl⟩
  have hbA : Below w.heap.size w wA := by rw [← hwA]; exact (Below.refl _ w).alloc (Nat.le_refl _) _
  have hrA := (hC w).2
  rw [hwA] at hrA
  obtain ⟨Z, hZ⟩ : ∃ Z, ns.map (·.id) = Z := ⟨_, rfl⟩
  have hZl : Z.length = n := by rw [← hZ, List.length_map, hlen]
  rw [hZ]
  have hWL : ∀ k, k ≤ n → (wayI Z k).length = n := fun k hk => by rw [wayI_len Z (by omega), hZl]
  have HE := hid h
  have HA := hid (show NRow wA w.heap.size (.slice (some ⟨w.heap.size, 0, none⟩) n n) (wayI Z 0) ∧ Below w.heap.size w wA from ⟨by rw [wayI_zero, hZl]; exact hrA, hbA⟩)
  have HID := hid (fun x W => nodeID_any x W)
  clear h hC hrA hbA
  go_enter Tryz.func74, Tryz.ntmps74
  go_wp2
  clear hmk hwA
  go_loopw [6, 7, 13] (fun _ _ iv wr => ∃ k : Nat, k ≤ n ∧ iv = .int .i64 (k : Int) ∧ NRow wr w.heap.size (.slice (some ⟨w.heap.size, 0, none⟩) n n) (wayI Z k) ∧ Below w.heap.size w wr) (fun _ _ iv _ => n - (intOf iv).toNat)
  case atStart => exact ⟨0, Nat.zero_le _, rfl, HA.out.1, HA.out.2⟩
  case round =>
    obtain ⟨k, hk, rfl, hrow, hbr⟩ := hrel
    by_cases hlt : k < n
    · have hltI : (k : Int) < (n : Int) := by omega
      obtain ⟨x, hx⟩ : ∃ x, ns[k]? = some x := ⟨ns[k]'(by omega), by rw [List.getElem?_eq_getElem]⟩
      obtain rfl := HE.out.at' (by omega)
      have hx0 := HE.out.cells k x hx
      obtain ⟨a0, a1, a2, a3⟩ := hx0.below hbr (lt_of_cell hx0.1)
      obtain ⟨V, hV⟩ : ∃ V, wr.alloc (nrO x) = V := ⟨_, rfl⟩
      have hbV : Below wr.heap.size wr V := by rw [← hV]; exact (Below.refl _ wr).alloc (Nat.le_refl _) _
      obtain ⟨e0, e1, e2, e3⟩ := nr_cells (show V.heap[wr.heap.size]? = some (nrO x) by rw [← hV]; exact World.alloc_heap_new wr _)
      have hZk : Z[k]? = some x.id := by rw [← hZ, List.getElem?_map, hx]; rfl
      have HC := hid (HID.out x V)
      have HN := hid (show ∀ w1 : World, Below V.heap.size V w1 → w1.frozen? ⟨w.heap.size, k, none⟩ = false ∧ (∃ z0, w1.cell? ⟨w.heap.size, k, none⟩ = some (.int .i64 z0)) ∧ NRow (w1.setCell ⟨w.heap.size, k, none⟩ (.int .i64 x.id)) w.heap.size (.slice (some ⟨w.heap.size, 0, none⟩) n n) (wayI Z (k + 1)) ∧ Below w.heap.size w w1 from fun w1 hb1 => by
        have r5 := (hrow.below hbV).below hb1
        have hlk : k < (wayI Z k).length := by rw [hWL k (by omega)]; omega
        refine ⟨NRow.frz r5 (hWL k (by omega)) k, ⟨_, NRow.cell r5 (hWL k (by omega)) (List.getElem?_eq_getElem hlk)⟩, ?_, hbr.trans ((hbV.trans (hb1.mono hbV.size)).mono hbr.size)⟩
        rw [← wayI_set Z hZk]
        exact NRow.put r5 (hWL k (by omega)) k x.id)
      clear hx hx0 hbr hbV hrow hZk
      go_wp2_with (go_at_call 75; refine HC.out.mono ?_; rintro e w1 ⟨rfl, hb1⟩; obtain ⟨hf, ⟨z0, hcl⟩, hq, hb2⟩ := HN.out _ hb1; have HQ := hid (And.intro hq hb2); clear hb1 HC HN hq hb2)
      go_roundw
      case rel => exact ⟨k + 1, by omega, by go_num, HQ.out.1, HQ.out.2.setCell (Nat.le_refl _) _⟩
      case measure => simp [intOf]; omega
    · have hltI : ¬ (k : Int) < (n : Int) := by omega
      obtain rfl : k = n := by omega
      have HR := hid (And.intro hrow hbr)
      clear hrow hbr
      go_wp2
      go_ret
      have hq := HR.out.1
      rw [← hZl, wayI_all, hZl] at hq
      exact ⟨⟨_, rfl, hq⟩, HR.out.2⟩
end Go.Proofs.YtdjbjadaldndcaaGreat
