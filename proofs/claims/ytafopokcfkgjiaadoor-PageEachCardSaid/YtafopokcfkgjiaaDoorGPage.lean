/-
  Layer 3: a buffer with its spare room; what page.frameOf, pageOf give.
-/
import Derived.Test.YtafopokcfkgjiaaDoorGFrame
namespace Go.Proofs.YtafopokcfkgjiaaDoor
open Go.RowKit

/-- A row of the call's own with its spare room, which is noughts. -/
def Buf (w : World) (g cap : Nat) (xs : List Int) : Prop :=
  xs.length ≤ cap ∧ w.heap[g]? = some (.cells (secV (xs ++ zeros (cap - xs.length))).toArray 5 (0, 0))
theorem Buf.below {w w' : World} {g cap : Nat} {xs : List Int} (h : Buf w g cap xs) (hb : Below w.heap.size w w') : Buf w' g cap xs := ⟨h.1, (hb.block g (lt_of_heap h.2)).trans h.2⟩
theorem buf_new (w : World) (cap : Nat) : Buf (w.alloc (.cells (madeCells #[Value.int .u8 0] cap) 5)) w.heap.size cap [] := by
  refine ⟨Nat.zero_le _, ?_⟩
  have e : (secV ([] ++ zeros (cap - ([] : List Int).length))).toArray = madeCells #[Value.int .u8 0] cap := by
    apply Array.ext'
    rw [toList_madeCells_one]
    simp [secV, zeros]
  rw [e]
  exact heap_new w _
theorem buf_list (xs ys : List Int) (cap : Nat) (h : xs.length + ys.length ≤ cap) :
    (secV (xs ++ zeros (cap - xs.length))).take xs.length ++ secV ys ++ (secV (xs ++ zeros (cap - xs.length))).drop (xs.length + ys.length) = secV ((xs ++ ys) ++ zeros (cap - (xs ++ ys).length)) := by
  have e1 : (secV (xs ++ zeros (cap - xs.length))).take xs.length = secV xs := by
    rw [secV_app, List.take_append_of_le_length (by simp [secV]), List.take_of_length_le (by simp [secV])]
  have e2 : (secV (xs ++ zeros (cap - xs.length))).drop (xs.length + ys.length) = secV (zeros (cap - (xs ++ ys).length)) := by
    rw [secV_app, List.drop_append, List.drop_of_length_le (by simp [secV]), List.nil_append]
    simp only [secV, List.length_map, zeros, List.map_replicate, List.drop_replicate, List.length_append]
    congr 1
    omega
  rw [e1, e2, secV_app, secV_app]
theorem buf_append {w : World} {g cap n m : Nat} {xs ys : List Int} {u : Value} (h : Buf w g cap xs) (hu : Bs w u ys) (hn : xs.length = n) (hm : ys.length = m) (h1 : 1 ≤ m) (hroom : n + m ≤ cap) (ty : TypeId) :
    ∃ w', (Builtin.append_ #[31, 31] ty #[.slice (some ⟨g, 0, none⟩) n cap, u]).run Tryd.prog w = .ok (.slice (some ⟨g, 0, none⟩) (n + m) cap) w' ∧ Buf w' g cap (xs ++ ys) ∧ w.grownBy w' (some g) := by
  subst hn hm
  obtain ⟨i0, hi, hz0, hz1, hz2⟩ := info_parts info5
  rcases hu.2.2 with ⟨a, c, _, rfl, _⟩ | ⟨b, off, c, rfl, _, hc⟩
  · simp at h1
  · obtain ⟨cur, hcur⟩ : ∃ cur, cur = (secV (xs ++ zeros (cap - xs.length))).toArray := ⟨_, rfl⟩
    have hcl : cur.toList = secV (xs ++ zeros (cap - xs.length)) := by rw [hcur]
    have h2 := h.2
    rw [← hcur] at h2
    have hsz : cur.size = cap := by
      have := h.1
      rw [← Array.length_toList, hcl]
      simp [secV, zeros]; omega
    have hr := run_append_room (P := Tryd.prog) w 31 ty 5 i0 Tryd.underlying31 hi g xs.length cap cur h2 ⟨b, off, none⟩ ys.length c (secV ys) (by rw [hz1]; simp [secV])
      (fun j v hj => by
        have hjl : j < ys.length := by have := (List.getElem?_eq_some_iff.1 hj).1; simpa [secV] using this
        rw [Addr.add_lit, hc j hjl, ← hj]; simp [secV, hjl]) (secV_one ys) hroom (by rw [hz1, hsz]; simp [secV]; omega)
    rw [hz1, Nat.mul_one, hcl, show (secV ys).length = ys.length by simp [secV], buf_list xs ys cap hroom] at hr
    exact ⟨_, hr, ⟨by simp; omega, setRow_heap w g _ _ _ _ h2⟩, ⟨rfl, rfl, rfl, by simp [World.setRow], fun k _ hk => setRow_other w g k _ (fun e => hk (by simp [e]))⟩⟩
theorem Buf.bs {w : World} {g cap k : Nat} {xs : List Int} (h : Buf w g cap xs) (hb : By xs) (hk : k ≤ cap) (hc : cap ≤ 65536) : Bs w (.slice (some ⟨g, 0, none⟩) k cap) ((xs ++ zeros (cap - xs.length)).take k) := by
  have hl : (xs ++ zeros (cap - xs.length)).length = cap := by have := h.1; simp [zeros]; omega
  have hlk : ((xs ++ zeros (cap - xs.length)).take k).length = k := by rw [List.length_take, hl]; omega
  refine ⟨range_of ((hb.app (By.zeros _)).take k), by rw [hlk]; omega, .inr ⟨g, 0, cap, by rw [hlk], by omega, fun j hj => ?_⟩⟩
  rw [hlk] at hj
  rw [Nat.zero_add, cell_of_row _ _ _ _ _ _ h.2]
  have hj2 : j < (xs ++ zeros (cap - xs.length)).length := by omega
  simp only [secV, List.getElem?_toArray, List.getElem?_map, List.getElem?_eq_getElem hj2, Option.map_some]
  congr 2
  rw [List.getD_eq_getElem?_getD, List.getElem?_take, if_pos hj, List.getElem?_eq_getElem hj2]
  rfl

theorem hmk0 (cap : Nat) (hc : cap ≤ 65536) (wx : World) : (Instr.makeSlice 31 (.int .i64 0) (.int .i64 cap)).run Tryd.prog wx = .ok (.slice (some ⟨wx.heap.size, 0, none⟩) 0 cap) (wx.alloc (.cells (madeCells #[Value.int .u8 0] cap) 5)) := by
  obtain ⟨i0, hi, hz0, hz1, hz2⟩ := info_parts info5
  have := run_make (P := Tryd.prog) wx 31 5 i0 _ Tryd.underlying31 hi hz0 .i64 .i64 0 cap (by omega) (by omega) (by rw [hz2]; omega) (by omega)
  rw [hz1] at this
  simpa [Value.cells] using this

theorem grown_below {w w' : World} {g : Nat} {base : Nat} (hg : w.grownBy w' (some g)) (hb : base ≤ g) (hs : base ≤ w.heap.size) : Below base w w' := (Below.refl base w).grown hg hs (fun k e => by cases e; exact hb)

set_option maxRecDepth 8000 in
set_option maxHeartbeats 400000 in
theorem frame_any {w : World} {p : Pg} {n : Nat} (hp : p.Ok n) (hn : n ≤ 4096) {s : Value} (hs : Bs w s p.data) (ht : TabOk w) :
    Calls Tryd.prog 20 #[.agg #[.int .i64 p.no, .int .u64 p.lsn, s]] w fun e w' => ∃ v, e = .returned v ∧ w'.ownsRow w.heap.size 5 1 v 512 (secV (frameOf p)) ∧ Below w.heap.size w w' := by
  have hmk : ∀ wx : World, (Instr.makeSlice 31 (.int .i64 0) (.int .i64 512)).run Tryd.prog wx = .ok (.slice (some ⟨wx.heap.size, 0, none⟩) 0 512) (wx.alloc (.cells (madeCells #[Value.int .u8 0] 512) 5)) := hmk0 512 (by omega)
  have hno := hp.no
  have hl0 := hp.lsn0
  have hl1 := hp.lsn1
  have hlen := hp.len
  have HBY := hid (bodyOf_by hp hn)
  have HBL := hid (bodyOf_len hlen)
  obtain ⟨ao, cap, rfl, _⟩ := hs.open
  have u1 := uv_len (p.no : Int)
  have u2 := uv_len p.lsn
  -- the box, the buffer
  obtain ⟨wB, hwB⟩ : ∃ wB, w.alloc (.cells #[.int .i64 p.no, .int .u64 p.lsn, .slice ao p.data.length cap] 33) = wB := ⟨_, rfl⟩
  have hBB : Below w.heap.size w wB := by rw [← hwB]; exact (Below.refl _ _).alloc (Nat.le_refl _) _
  have hbox : wB.heap[w.heap.size]? = some (.cells #[.int .i64 p.no, .int .u64 p.lsn, .slice ao p.data.length cap] 33 (0, 0)) := by rw [← hwB]; exact heap_new w _
  have hszB : wB.heap.size = w.heap.size + 1 := by rw [← hwB]; simp
  obtain ⟨C, hC⟩ : ∃ C, C = madeCells #[Value.int .u8 0] 512 := ⟨_, rfl⟩
  have hbn := buf_new wB 512
  rw [← hC] at hmk hbn
  obtain ⟨wC, hwC⟩ : ∃ wC, wB.alloc (.cells C 5) = wC := ⟨_, rfl⟩
  have hBC : Below wB.heap.size wB wC := by rw [← hwC]; exact (Below.refl _ _).alloc (Nat.le_refl _) _
  rw [hwC, hszB] at hbn
  have hdata := (hs.below hBB).below hBC
  obtain ⟨w2, hrun2, hbuf2, hg2⟩ := buf_append hbn hdata (n := 0) (m := 480) rfl hlen (by omega) (by omega) 31
  rw [Nat.zero_add, List.nil_append] at *
  have hB2 : Below (w.heap.size + 1) wC w2 := grown_below hg2 (Nat.le_refl _) (by have := hBC.size; omega)
  have hBw2 : Below w.heap.size w w2 := (hBB.trans (hBC.mono (by omega))).trans (hB2.mono (by omega))
  have hbox2 : w2.heap[w.heap.size]? = some (.cells #[.int .i64 p.no, .int .u64 p.lsn, .slice ao p.data.length cap] 33 (0, 0)) := (hB2.block _ (by omega)).trans ((hBC.block _ (by omega)).trans hbox)
  have HBox2 := hid hbox2
  have HBuf2 := hid hbuf2
  have HB2 := hid hBw2
  have HT := hid ht
  have HU1 := hid (uvar_any (p.no : Int) w2 (by omega) (by omega))
  have HR2 := hid hrun2
  have hc0 := cell_of_row w2 w.heap.size 0 _ _ _ hbox2
  simp only [List.getElem?_toArray, List.getElem?_cons_zero] at hc0
  have hsd := hs
  have HSD := hid hs
  clear hs ht hsd hbox2 hbuf2 hBw2 hrun2 hg2 hB2 hdata hbn hBB hBC hbox
  obtain ⟨L1, hL1⟩ : ∃ L, L = (uv (p.no : Int)).length := ⟨_, rfl⟩
  obtain ⟨L2, hL2⟩ : ∃ L, L = (uv p.lsn).length := ⟨_, rfl⟩
  rw [← hL1] at HU1 u1
  rw [← hL2] at u2
  have HL1 := hid hL1
  have HL2 := hid hL2
  clear hL1 hL2
  rw [hlen] at hwB HR2 HSD HBox2 ⊢
  have hszC : wC.heap.size = w.heap.size + 2 := by rw [← hwC]; simp [hszB]
  have HLEN := hid hlen
  clear hp hC hlen
  have hlt : w.heap.size < wB.heap.size := by omega
  have hcd : wC.cell? ⟨w.heap.size, 2, none⟩ = some (.slice ao 480 cap) := by
    rw [← hwC, World.cell?_alloc_lt _ _ _ hlt, ← hwB, cell_of_row _ _ _ _ _ _ (heap_new w _)]; rfl
  have HBYD : Hid (By p.data) := fun b hb => HBY.out b (by unfold bodyOf; simp [hb])
  go_enter Tryd.func20, Tryd.ntmps20
  go_wp2_with (first
    | (at_builtin; refine wpList_exec rfl (exec_append (.tmp 5) (.tmp 7) 31 rfl rfl rfl HR2.out) ?_)
    | (go_at_call 36; refine HU1.out.mono ?_; rintro e w3 ⟨v3, rfl, hown3, hb3⟩; clear HU1
       obtain ⟨w4, hrun4, hbuf4, hg4⟩ := buf_append (HBuf2.out.below hb3) (bs_of_own hown3 (uv_byte (by omega) (by omega)) (by rw [← HL1.out]; omega)) (n := 480) (m := L1) HLEN.out HL1.out.symm (by omega) (by omega) 31
       have hB2s := HB2.out.size
       have hg2s := lt_of_heap HBuf2.out.2
       have hb3s := hb3.size
       have hB4 : Below w.heap.size w w4 := (HB2.out.trans (hb3.mono HB2.out.size)).trans (grown_below hg4 (by omega) (by omega))
       have hbox4 := (hg4.block w.heap.size (by omega) (fun e => by injection e with e; omega)).trans ((hb3.block w.heap.size (by omega)).trans HBox2.out)
       have hc4 := cell_of_row w4 w.heap.size 1 _ _ _ hbox4
       simp only [List.getElem?_toArray, List.getElem?_cons_succ, List.getElem?_cons_zero] at hc4
       have HR4 := hid hrun4
       have HB4 := hid hB4
       have HBuf4 := hid hbuf4
       have HU2 := hid (uvar_any p.lsn w4 hl0 hl1)
       rw [← HL2.out] at HU2
       clear hrun4 hB4 hbox4 hbuf4 hg4 hown3 hb3 hB2s hg2s hb3s)
    | (at_builtin; refine wpList_exec rfl (exec_append (.tmp 9) (.tmp 13) 31 rfl rfl rfl HR4.out) ?_)
    | (go_at_call 36; refine HU2.out.mono ?_; rintro e w5 ⟨v5, rfl, hown5, hb5⟩; clear HU2
       obtain ⟨w6, hrun6, hbuf6, hg6⟩ := buf_append (HBuf4.out.below hb5) (bs_of_own hown5 (uv_byte hl0 hl1) (by rw [← HL2.out]; omega)) (n := 480 + L1) (m := L2) (by rw [List.length_append, HLEN.out, ← HL1.out]) HL2.out.symm (by omega) (by omega) 31
       have hB4s := HB4.out.size
       have hg4s := lt_of_heap HBuf4.out.2
       have hb5s := hb5.size
       have hB6 : Below w.heap.size w w6 := (HB4.out.trans (hb5.mono HB4.out.size)).trans (grown_below hg6 (by omega) (by omega))
       have hbs6 := hbuf6.bs (k := 508) (((HBYD.out.app (uv_byte (by omega) (by omega))).app (uv_byte hl0 hl1))) (by omega) (by omega)
       have hbody : (p.data ++ uv (p.no : Int) ++ uv p.lsn ++ zeros (512 - (p.data ++ uv (p.no : Int) ++ uv p.lsn).length)).take 508 = bodyOf p := by
         have hh := head_len HLEN.out
         unfold bodyOf
         rw [List.take_append, List.take_of_length_le (by omega)]
         congr 1
         unfold zeros
         rw [List.take_replicate]
         congr 1
         omega
       rw [hbody] at hbs6
       have HSE := hid (seal_any hbs6 (HT.out.below hB6 (Nat.le_refl _)) (by rw [HBL.out]; omega))
       rw [show (sealL (bodyOf p)).length = 512 by rw [sealL_len, HBL.out]] at HSE
       have HR6 := hid hrun6
       have HB6 := hid hB6
       clear hrun6 hB6 hbuf6 hg6 hown5 hb5 hB4s hg4s hb5s hbs6 hbody)
    | (at_builtin; refine wpList_exec rfl (exec_append (.tmp 15) (.tmp 18) 31 rfl rfl rfl HR6.out) ?_)
    | (go_at_call 37; refine HSE.out.mono ?_; rintro e w7 ⟨v7, rfl, hown7, hb7⟩; have HO7 := hid hown7; have HB7 := hid hb7; clear HSE hown7 hb7))
  go_ret
  exact ⟨_, rfl, own_mono HO7.out HB6.out.size, HB6.out.trans (HB7.out.mono HB6.out.size)⟩
end Go.Proofs.YtafopokcfkgjiaaDoor
