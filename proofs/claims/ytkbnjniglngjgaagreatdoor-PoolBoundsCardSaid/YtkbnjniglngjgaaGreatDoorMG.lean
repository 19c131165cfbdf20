/-
  Layer 3: what page.load, frameOf, pageOf give.
-/
import Derived.Test.YtkbnjniglngjgaaGreatDoorME
namespace Go.Proofs.YtkbnjniglngjgaaGreatDoor
open Go.RowKit

theorem wpList_exec {P : Program} {ops : Array Oper} {rest : List Oper} {o : Oper} {a : Act} {w w' : World} {Q : Exit → Act → World → Prop} {v : Value} (hgd : o.guard = none) (hrun : (execOp a.eval o).run P w = .ok (.value v) w')
    (h : wpList P ops Q rest (a.put o.dst v) w') : wpList P ops Q (o :: rest) a w :=
  wpList_plain hgd fun K hK => by
    unfold Oper.wp
    rw [hrun]
    exact hK _ _ h

theorem secV_app (a b : List Int) : secV (a ++ b) = secV a ++ secV b := by simp [secV]
theorem bs_own {w : World} {base n : Nat} {v : Value} {l : List Int} (h : w.ownsRow base 5 1 v n (secV l)) (hb : By l) (hl : l.length ≤ 65536) : Bs w v l := bs_of_own h hb (by omega)
theorem Bs.kd {w w' : World} {_base : Nat} {v : Value} {zs : List Int} (h : Bs w v zs) (hk : ∀ b o x, w.cell? ⟨b, o, none⟩ = some (.int .u8 x) → w'.cell? ⟨b, o, none⟩ = some (.int .u8 x)) : Bs w' v zs := by
  refine ⟨h.1, h.2.1, ?_⟩
  rcases h.2.2 with h' | ⟨b, off, cap, rfl, hcap, hc⟩
  · exact .inl h'
  · exact .inr ⟨b, off, cap, rfl, hcap, fun j hj => hk _ _ _ (hc j hj)⟩

set_option maxRecDepth 8000 in
theorem load_any {w : World} {base n F B p0 np : Nat} {d : Dk} {half : Bool} (hd : DiskIs w base B n d) (hf : FileIs w base F B p0 np half) (hl : d.left ≠ 0) {i K : Nat} (hi : i + K ≤ n) (hK : K ≤ 64) :
    Calls Tryz.prog 56 #[.pointer (some ⟨F, 0, none⟩), .int .i64 i, .int .i64 K] w fun e w' => ∃ v, e = .returned (.tuple #[v, .int .i64 0]) ∧ w'.ownsRow w.heap.size 5 1 v (64 * K) (secV (secs d.now i K)) ∧ Below w.heap.size w w' := by
  obtain ⟨i0, hi0, hz0, hz1, hz2⟩ := info_parts info5
  have hn := hd.2.1
  have HN := hid hd.ok.now_len
  have HS := hid hd.ok.now_secs
  have HD := hid hd
  have HF := hid hf
  have HL := hid hl
  clear hd hf hl
  go_enter Tryz.func56, Tryz.ntmps56
  go_wp2_with (at_make; refine wpList_make_own _ rfl _ _ 38 rfl w.heap.size 5 i0 (.int .u8 0) 1 Tryz.underlying38 hi0 hz0 hz1 _ _ _ (K * 64) rfl rfl (by omega) (by rw [hz2]; omega) (by unfold maxLen; omega) (Nat.le_refl _) ?_; intro w1 hown1 hgrow1; have HB1 := hid (show Below w.heap.size w w1 from (Below.refl _ _).grown hgrow1 (Nat.le_refl _) (by intro k hk; cases hk)); have HO1 := hid hown1; clear hown1 hgrow1)
  go_loopw [8, 9, 10, 11, 16] (fun u _ _ _ t wr => ∃ k : Nat, k ≤ K ∧ t = .int .i64 k ∧ wr.ownsRow w.heap.size 5 1 u (64 * k) (secV (secs d.now i k)) ∧ Below w.heap.size w wr) (fun _ _ _ _ t _ => K - (intOf t).toNat)
  case atStart => exact ⟨0, by omega, rfl, by rw [secs_zero]; exact HO1.out, HB1.out⟩
  case round =>
    obtain ⟨k, hk, rfl, hown, hbr⟩ := hrel
    by_cases hlt : k < K
    · have hrd := read_any (HD.out.below hbr) (i := i + k) (by omega) HL.out
      rw [show ((i + k : Nat) : Int) = (i : Int) + (k : Int) by omega] at hrd
      have HR := hid hrd
      clear hrd
      obtain ⟨c0, _, _, _⟩ := (HF.out.below hbr).cells
      have HO := hid hown
      have HB := hid hbr
      have hkI : (k : Int) < (K : Int) := by omega
      have HSE := hid (show Sec (d.now.getD (i + k) []) from HS.out _ (by have := HN.out; simp [List.getD, show i + k < d.now.length by omega]))
      clear hown hbr
      go_wp2_with (first
        | (go_at_call 44; refine HR.out.mono ?_; rintro e w2 ⟨v2, rfl, hown2, hb2⟩; have HO2 := hid hown2; have HB2 := hid (HB.out.trans (hb2.mono HB.out.size)); have HOK := hid (own_below HO.out hb2); clear hown2 hb2)
        | (at_builtin; refine wpList_append_bs rfl (.tmp 33) (.tmp 34) rfl w.heap.size _ _ _ rfl HOK.out _ _ rfl (bs_own HO2.out HSE.out.2 (by rw [HSE.out.1]; omega)) (by rw [HSE.out.1]; omega) HB2.out.size ?_; intro v3 w3 hown3 hgrow3; have HB3 := hid (HB2.out.grown hgrow3 HB2.out.size (own_base HOK.out)); have HO3 := hid hown3; clear hown3 hgrow3))
      go_roundw
      case rel =>
        refine ⟨k + 1, by omega, by go_num, ?_, HB3.out⟩
        have h3 := HO3.out
        rw [HSE.out.1] at h3
        rw [secs_succ (by have := HN.out; omega), secV_app, show 64 * (k + 1) = 64 * k + 64 by omega]
        exact h3
      case measure => simp [intOf]; omega
    · obtain rfl : k = K := by omega
      have HO := hid hown
      have HB := hid hbr
      clear hown hbr
      go_wp2
      go_ret2
      exact ⟨_, rfl, HO.out, HB.out⟩
set_option maxRecDepth 8000 in
theorem load_dead {w : World} {base n F B p0 np : Nat} {d : Dk} {half : Bool} (hd : DiskIs w base B n d) (hf : FileIs w base F B p0 np half) (hl : d.left = 0) {i K : Nat} (hi : i + K ≤ n) (hK : 1 ≤ K) (hK2 : K ≤ 64) :
    Calls Tryz.prog 56 #[.pointer (some ⟨F, 0, none⟩), .int .i64 i, .int .i64 K] w fun e w' => e = .returned (.tuple #[.slice none 0 0, .int .i64 50]) ∧ Below w.heap.size w w' := by
  obtain ⟨i0, hi0, hz0, hz1, hz2⟩ := info_parts info5
  have hn := hd.2.1
  have HD := hid hd
  have HF := hid hf
  have HL := hid hl
  have h0K : (0 : Int) < (K : Int) := by omega
  clear hd hf hl
  go_enter Tryz.func56, Tryz.ntmps56
  go_wp2_with (at_make; refine wpList_make_own _ rfl _ _ 38 rfl w.heap.size 5 i0 (.int .u8 0) 1 Tryz.underlying38 hi0 hz0 hz1 _ _ _ (K * 64) rfl rfl (by omega) (by rw [hz2]; omega) (by unfold maxLen; omega) (Nat.le_refl _) ?_; intro w1 hown1 hgrow1; have HB1 := hid (show Below w.heap.size w w1 from (Below.refl _ _).grown hgrow1 (Nat.le_refl _) (by intro k hk; cases hk)); clear hown1 hgrow1)
  have HR := hid (read_dead (HD.out.below HB1.out) (i := i) (by omega) HL.out)
  obtain ⟨c0, _, _, _⟩ := (HF.out.below HB1.out).cells
  refine wp_loop_rounds 1 ?_
  rw [rounds_succ]
  go_wp2_with (go_at_call 44; refine HR.out.mono ?_; rintro e w2 ⟨rfl, hw⟩; have hw' := hw.symm; clear hw; subst hw')
  go_ret2
  exact ⟨rfl, HB1.out⟩
end Go.Proofs.YtkbnjniglngjgaaGreatDoor

namespace Go.Proofs.YtkbnjniglngjgaaGreatDoor
open Go.RowKit

/-- A row of the call's own with its spare room, which is noughts. -/
def Buf (w : World) (g cap : Nat) (xs : List Int) : Prop :=
  xs.length ≤ cap ∧ w.heap[g]? = some (.cells (secV (xs ++ zeros (cap - xs.length))).toArray 5 (0, 0))
theorem Buf.below {w w' : World} {g cap : Nat} {xs : List Int} (h : Buf w g cap xs) (hb : Below w.heap.size w w') : Buf w' g cap xs := ⟨h.1, (hb.block g (lt_of_heap h.2)).trans h.2⟩
theorem buf_new (w : World) (cap : Nat) : Buf (w.alloc (.cells (madeCells #[Value.int .u8 0] cap) 5)) w.heap.size cap [] := by
  refine ⟨Nat.zero_le _, ?_⟩
  have e : (secV ([] ++ zeros (cap - ([] : List Int).length))).toArray = madeCells #[Value.int .u8 0] cap := by
    apply Array.ext'
    rw [toList_madeCells_one]
    simp [secV, zeros]
  rw [e]
  exact heap_new w _
theorem buf_list (xs ys : List Int) (cap : Nat) (h : xs.length + ys.length ≤ cap) :
    (secV (xs ++ zeros (cap - xs.length))).take xs.length ++ secV ys ++ (secV (xs ++ zeros (cap - xs.length))).drop (xs.length + ys.length) = secV ((xs ++ ys) ++ zeros (cap - (xs ++ ys).length)) := by
  have e1 : (secV (xs ++ zeros (cap - xs.length))).take xs.length = secV xs := by
    rw [secV_app, List.take_append_of_le_length (by simp [secV]), List.take_of_length_le (by simp [secV])]
  have e2 : (secV (xs ++ zeros (cap - xs.length))).drop (xs.length + ys.length) = secV (zeros (cap - (xs ++ ys).length)) := by
    rw [secV_app, List.drop_append, List.drop_of_length_le (by simp [secV]), List.nil_append]
    simp only [secV, List.length_map, zeros, List.map_replicate, List.drop_replicate, List.length_append]
    congr 1
    omega
  rw [e1, e2, secV_app, secV_app]
theorem buf_append {w : World} {g cap n m : Nat} {xs ys : List Int} {u : Value} (h : Buf w g cap xs) (hu : Bs w u ys) (hn : xs.length = n) (hm : ys.length = m) (h1 : 1 ≤ m) (hroom : n + m ≤ cap) (ty : TypeId) :
    ∃ w', (Builtin.append_ #[38, 38] ty #[.slice (some ⟨g, 0, none⟩) n cap, u]).run Tryz.prog w = .ok (.slice (some ⟨g, 0, none⟩) (n + m) cap) w' ∧ Buf w' g cap (xs ++ ys) ∧ w.grownBy w' (some g) := by
  subst hn hm
  obtain ⟨i0, hi, hz0, hz1, hz2⟩ := info_parts info5
  rcases hu.2.2 with ⟨a, c, _, rfl, _⟩ | ⟨b, off, c, rfl, _, hc⟩
  · simp at h1
  · obtain ⟨cur, hcur⟩ : ∃ cur, cur = (secV (xs ++ zeros (cap - xs.length))).toArray := ⟨_, rfl⟩
    have hcl : cur.toList = secV (xs ++ zeros (cap - xs.length)) := by rw [hcur]
    have h2 := h.2
    rw [← hcur] at h2
    have hsz : cur.size = cap := by
      have := h.1
      rw [← Array.length_toList, hcl]
      simp [secV, zeros]; omega
    have hr := run_append_room (P := Tryz.prog) w 38 ty 5 i0 Tryz.underlying38 hi g xs.length cap cur h2 ⟨b, off, none⟩ ys.length c (secV ys) (by rw [hz1]; simp [secV])
      (fun j v hj => by
        have hjl : j < ys.length := by have := (List.getElem?_eq_some_iff.1 hj).1; simpa [secV] using this
        rw [Addr.add_lit, hc j hjl, ← hj]; simp [secV, hjl]) (secV_one ys) hroom (by rw [hz1, hsz]; simp [secV]; omega)
    rw [hz1, Nat.mul_one, hcl, show (secV ys).length = ys.length by simp [secV], buf_list xs ys cap hroom] at hr
    exact ⟨_, hr, ⟨by simp; omega, setRow_heap w g _ _ _ _ h2⟩, ⟨rfl, rfl, rfl, by simp [World.setRow], fun k _ hk => setRow_other w g k _ (fun e => hk (by simp [e]))⟩⟩
theorem Buf.bs {w : World} {g cap k : Nat} {xs : List Int} (h : Buf w g cap xs) (hb : By xs) (hk : k ≤ cap) (hc : cap ≤ 65536) : Bs w (.slice (some ⟨g, 0, none⟩) k cap) ((xs ++ zeros (cap - xs.length)).take k) := by
  have hl : (xs ++ zeros (cap - xs.length)).length = cap := by have := h.1; simp [zeros]; omega
  have hlk : ((xs ++ zeros (cap - xs.length)).take k).length = k := by rw [List.length_take, hl]; omega
  refine ⟨range_of ((hb.app (By.zeros _)).take k), by rw [hlk]; omega, .inr ⟨g, 0, cap, by rw [hlk], by omega, fun j hj => ?_⟩⟩
  rw [hlk] at hj
  rw [Nat.zero_add, cell_of_row _ _ _ _ _ _ h.2]
  have hj2 : j < (xs ++ zeros (cap - xs.length)).length := by omega
  simp only [secV, List.getElem?_toArray, List.getElem?_map, List.getElem?_eq_getElem hj2, Option.map_some]
  congr 2
  rw [List.getD_eq_getElem?_getD, List.getElem?_take, if_pos hj, List.getElem?_eq_getElem hj2]
  rfl

theorem hmk0 (cap : Nat) (hc : cap ≤ 65536) (wx : World) : (Instr.makeSlice 38 (.int .i64 0) (.int .i64 cap)).run Tryz.prog wx = .ok (.slice (some ⟨wx.heap.size, 0, none⟩) 0 cap) (wx.alloc (.cells (madeCells #[Value.int .u8 0] cap) 5)) := by
  obtain ⟨i0, hi, hz0, hz1, hz2⟩ := info_parts info5
  have := run_make (P := Tryz.prog) wx 38 5 i0 _ Tryz.underlying38 hi hz0 .i64 .i64 0 cap (by omega) (by omega) (by rw [hz2]; omega) (by omega)
  rw [hz1] at this
  simpa [Value.cells] using this

theorem grown_below {w w' : World} {g : Nat} {base : Nat} (hg : w.grownBy w' (some g)) (hb : base ≤ g) (hs : base ≤ w.heap.size) : Below base w w' := (Below.refl base w).grown hg hs (fun k e => by cases e; exact hb)

set_option maxRecDepth 8000 in
set_option maxHeartbeats 400000 in
theorem frame_any {w : World} {p : Pg} {n : Nat} (hp : p.Ok n) (hn : n ≤ 4096) {s : Value} (hs : Bs w s p.data) (ht : TabOk w) :
    Calls Tryz.prog 68 #[.agg #[.int .i64 p.no, .int .u64 p.lsn, s]] w fun e w' => ∃ v, e = .returned v ∧ w'.ownsRow w.heap.size 5 1 v 512 (secV (frameOf p)) ∧ Below w.heap.size w w' := by
  have hmk : ∀ wx : World, (Instr.makeSlice 38 (.int .i64 0) (.int .i64 512)).run Tryz.prog wx = .ok (.slice (some ⟨wx.heap.size, 0, none⟩) 0 512) (wx.alloc (.cells (madeCells #[Value.int .u8 0] 512) 5)) := hmk0 512 (by omega)
  have hno := hp.no
  have hl0 := hp.lsn0
  have hl1 := hp.lsn1
  have hlen := hp.len
  have HBY := hid (bodyOf_by hp hn)
  have HBL := hid (bodyOf_len hlen)
  obtain ⟨ao, cap, rfl, _⟩ := hs.open
  have u1 := uv_len (p.no : Int)
  have u2 := uv_len p.lsn
  -- the box, the buffer
  obtain ⟨wB, hwB⟩ : ∃ wB, w.alloc (.cells #[.int .i64 p.no, .int .u64 p.lsn, .slice ao p.data.length cap] 40) = wB := ⟨_, rfl⟩
  have hBB : Below w.heap.size w wB := by rw [← hwB]; exact (Below.refl _ _).alloc (Nat.le_refl _) _
  have hbox : wB.heap[w.heap.size]? = some (.cells #[.int .i64 p.no, .int .u64 p.lsn, .slice ao p.data.length cap] 40 (0, 0)) := by rw [← hwB]; exact heap_new w _
  have hszB : wB.heap.size = w.heap.size + 1 := by rw [← hwB]; simp
  obtain ⟨C, hC⟩ : ∃ C, C = madeCells #[Value.int .u8 0] 512 := ⟨_, rfl⟩
  have hbn := buf_new wB 512
  rw [← hC] at hmk hbn
  obtain ⟨wC, hwC⟩ : ∃ wC, wB.alloc (.cells C 5) = wC := ⟨_, rfl⟩
  have hBC : Below wB.heap.size wB wC := by rw [← hwC]; exact (Below.refl _ _).alloc (Nat.le_refl _) _
  rw [hwC, hszB] at hbn
  have hdata := (hs.below hBB).below hBC
  obtain ⟨w2, hrun2, hbuf2, hg2⟩ := buf_append hbn hdata (n := 0) (m := 480) rfl hlen (by omega) (by omega) 38
  rw [Nat.zero_add, List.nil_append] at *
  have hB2 : Below (w.heap.size + 1) wC w2 := grown_below hg2 (Nat.le_refl _) (by have := hBC.size; omega)
  have hBw2 : Below w.heap.size w w2 := (hBB.trans (hBC.mono (by omega))).trans (hB2.mono (by omega))
  have hbox2 : w2.heap[w.heap.size]? = some (.cells #[.int .i64 p.no, .int .u64 p.lsn, .slice ao p.data.length cap] 40 (0, 0)) := (hB2.block _ (by omega)).trans ((hBC.block _ (by omega)).trans hbox)
  have HBox2 := hid hbox2
  have HBuf2 := hid hbuf2
  have HB2 := hid hBw2
  have HT := hid ht
  have HU1 := hid (uvar_any (p.no : Int) w2 (by omega) (by omega))
  have HR2 := hid hrun2
  have hc0 := cell_of_row w2 w.heap.size 0 _ _ _ hbox2
  simp only [List.getElem?_toArray, List.getElem?_cons_zero] at hc0
  have hsd := hs
  have HSD := hid hs
  clear hs ht hsd hbox2 hbuf2 hBw2 hrun2 hg2 hB2 hdata hbn hBB hBC hbox
  obtain ⟨L1, hL1⟩ : ∃ L, L = (uv (p.no : Int)).length := ⟨_, rfl⟩
  obtain ⟨L2, hL2⟩ : ∃ L, L = (uv p.lsn).length := ⟨_, rfl⟩
  rw [← hL1] at HU1 u1
  rw [← hL2] at u2
  have HL1 := hid hL1
  have HL2 := hid hL2
  clear hL1 hL2
  rw [hlen] at hwB HR2 HSD HBox2 ⊢
  have hszC : wC.heap.size = w.heap.size + 2 := by rw [← hwC]; simp [hszB]
  have HLEN := hid hlen
  clear hp hC hlen
  have hlt : w.heap.size < wB.heap.size := by omega
  have hcd : wC.cell? ⟨w.heap.size, 2, none⟩ = some (.slice ao 480 cap) := by
    rw [← hwC, World.cell?_alloc_lt _ _ _ hlt, ← hwB, cell_of_row _ _ _ _ _ _ (heap_new w _)]; rfl
  have HBYD : Hid (By p.data) := fun b hb => HBY.out b (by unfold bodyOf; simp [hb])
  go_enter Tryz.func68, Tryz.ntmps68
  go_wp2_with (first
    | (at_builtin; refine wpList_exec rfl (exec_append (.tmp 5) (.tmp 7) 38 rfl rfl rfl HR2.out) ?_)
    | (go_at_call 64; refine HU1.out.mono ?_; rintro e w3 ⟨v3, rfl, hown3, hb3⟩; clear HU1
       obtain ⟨w4, hrun4, hbuf4, hg4⟩ := buf_append (HBuf2.out.below hb3) (bs_of_own hown3 (uv_byte (by omega) (by omega)) (by rw [← HL1.out]; omega)) (n := 480) (m := L1) HLEN.out HL1.out.symm (by omega) (by omega) 38
       have hB2s := HB2.out.size
       have hg2s := lt_of_heap HBuf2.out.2
       have hb3s := hb3.size
       have hB4 : Below w.heap.size w w4 := (HB2.out.trans (hb3.mono HB2.out.size)).trans (grown_below hg4 (by omega) (by omega))
       have hbox4 := (hg4.block w.heap.size (by omega) (fun e => by injection e with e; omega)).trans ((hb3.block w.heap.size (by omega)).trans HBox2.out)
       have hc4 := cell_of_row w4 w.heap.size 1 _ _ _ hbox4
       simp only [List.getElem?_toArray, List.getElem?_cons_succ, List.getElem?_cons_zero] at hc4
       have HR4 := hid hrun4
       have HB4 := hid hB4
       have HBuf4 := hid hbuf4
       have HU2 := hid (uvar_any p.lsn w4 hl0 hl1)
       rw [← HL2.out] at HU2
       clear hrun4 hB4 hbox4 hbuf4 hg4 hown3 hb3 hB2s hg2s hb3s)
    | (at_builtin; refine wpList_exec rfl (exec_append (.tmp 9) (.tmp 13) 38 rfl rfl rfl HR4.out) ?_)
    | (go_at_call 64; refine HU2.out.mono ?_; rintro e w5 ⟨v5, rfl, hown5, hb5⟩; clear HU2
       obtain ⟨w6, hrun6, hbuf6, hg6⟩ := buf_append (HBuf4.out.below hb5) (bs_of_own hown5 (uv_byte hl0 hl1) (by rw [← HL2.out]; omega)) (n := 480 + L1) (m := L2) (by rw [List.length_append, HLEN.out, ← HL1.out]) HL2.out.symm (by omega) (by omega) 38
       have hB4s := HB4.out.size
       have hg4s := lt_of_heap HBuf4.out.2
       have hb5s := hb5.size
       have hB6 : Below w.heap.size w w6 := (HB4.out.trans (hb5.mono HB4.out.size)).trans (grown_below hg6 (by omega) (by omega))
       have hbs6 := hbuf6.bs (k := 508) (((HBYD.out.app (uv_byte (by omega) (by omega))).app (uv_byte hl0 hl1))) (by omega) (by omega)
       have hbody : (p.data ++ uv (p.no : Int) ++ uv p.lsn ++ zeros (512 - (p.data ++ uv (p.no : Int) ++ uv p.lsn).length)).take 508 = bodyOf p := by
         have hh := head_len HLEN.out
         unfold bodyOf
         rw [List.take_append, List.take_of_length_le (by omega)]
         congr 1
         unfold zeros
         rw [List.take_replicate]
         congr 1
         omega
       rw [hbody] at hbs6
       have HSE := hid (seal_any hbs6 (HT.out.below hB6 (Nat.le_refl _)) (by rw [HBL.out]; omega))
       rw [show (sealL (bodyOf p)).length = 512 by rw [sealL_len, HBL.out]] at HSE
       have HR6 := hid hrun6
       have HB6 := hid hB6
       clear hrun6 hB6 hbuf6 hg6 hown5 hb5 hB4s hg4s hb5s hbs6 hbody)
    | (at_builtin; refine wpList_exec rfl (exec_append (.tmp 15) (.tmp 18) 38 rfl rfl rfl HR6.out) ?_)
    | (go_at_call 65; refine HSE.out.mono ?_; rintro e w7 ⟨v7, rfl, hown7, hb7⟩; have HO7 := hid hown7; have HB7 := hid hb7; clear HSE hown7 hb7))
  go_ret
  exact ⟨_, rfl, own_mono HO7.out HB6.out.size, HB6.out.trans (HB7.out.mono HB6.out.size)⟩
end Go.Proofs.YtkbnjniglngjgaaGreatDoor

namespace Go.Proofs.YtkbnjniglngjgaaGreatDoor
open Go.RowKit

theorem own_kd {w w' : World} {b base : Nat} {v : Value} {n : Nat} {xs : List Value} (h : w.ownsRow b 5 1 v n xs) (hk : Kd base w w') : w'.ownsRow b 5 1 v n xs :=
  own_same h fun k hk' => by
    obtain ⟨c, hc⟩ := own_heap h hk'
    exact hk.keep k _ _ _ hc (by decide) (by decide) (by decide)

theorem own_any {w : World} {base : Nat} {e : TypeId} {v : Value} {n : Nat} {xs : List Value} (h : w.ownsRow base e 1 v n xs) : ∃ ao cap, v = .slice ao n cap ∧ n ≤ cap ∧ (1 ≤ n → ∃ g, ao = some ⟨g, 0, none⟩) := by
  rcases h.2 with ⟨rfl, rfl⟩ | ⟨g, cap, cur, rfl, hg, _, hc, hm, _⟩
  · exact ⟨none, 0, rfl, Nat.le_refl _, fun h => by omega⟩
  · exact ⟨_, cap, rfl, hc, fun _ => ⟨g, rfl⟩⟩
theorem own_far {w : World} {g o base n : Nat} {v : Value} {xs vs : List Value} (h : w.ownsRow base 5 1 v n xs) (hg : g < base) : (w.setCells g o vs).ownsRow base 5 1 v n xs :=
  own_same h fun k hk => (grown_setCells g vs o w).block k (h.lt k hk).2 (fun e => by injection e with e; have := own_base h k hk; omega)
theorem zero_pg : (Tryz.prog.info? 40).map (fun i => (i.zero, i.size, i.bytes)) = some (some (.agg #[.int .i64 0, .int .u64 0, .slice none 0 0]), 3, 40) := by kernel_rfl

set_option maxRecDepth 100000 in
set_option maxHeartbeats 800000 in
theorem page_good {w : World} {v : Value} {f : List Int} (h : Bs w v f) (hl : f.length = 512) (ht : TabOk w) (he : pageErr f = 0) :
    Calls Tryz.prog 57 #[v] w fun e w' => ∃ s, e = .returned (.tuple #[.agg #[.int .i64 (pageIn f).no, .int .u64 (pageIn f).lsn, s], .int .i64 0]) ∧ w'.ownsRow w.heap.size 5 1 s 480 (secV (pageIn f).data) ∧ Below w.heap.size w w' := by
  obtain ⟨e1, e2, e3, e4⟩ := pageErr_zero he
  have hob := openB_len e1 hl
  have hc1 := dec_cnt _ _ _ (by omega) e2
  have hx0 := dec_nonneg ((openB f).drop 480) 0 0 (by omega)
  have hpg : pageIn f = ⟨(dec 0 0 ((openB f).drop 480)).1.toNat, (dec 0 0 (((openB f).drop 480).drop (dec 0 0 ((openB f).drop 480)).2.1.toNat)).1, (openB f).take 480⟩ := rfl
  have HPG := hid hpg
  have hbx : Below w.heap.size w (w.alloc (.cells #[.int .i64 0, .int .u64 0, .slice none 0 0] 40)) := (Below.refl _ _).alloc (Nat.le_refl _) _
  have HOP := hid (open_any (h.below hbx) (ht.below hbx (Nat.le_refl _)))
  rw [e1] at HOP
  have hby : By (openB f) := fun b hb => by
    have : openB f = f.take 508 := by unfold openB; rw [if_pos e1, hl]
    rw [this] at hb
    exact h.byte b (List.mem_of_mem_take hb)
  have HBY := hid hby
  clear h hpg he e1 hby
  obtain ⟨T, hT⟩ : ∃ T, T = (openB f).drop 480 := ⟨_, rfl⟩
  rw [← hT] at e2 e3 e4 hc1 hx0 HPG
  have HTT := hid hT
  have hTl : T.length = 28 := by rw [hT]; simp [hob]
  have HTL := hid hTl
  have HOB := hid hob
  have HT := hid ht
  clear hT hTl hob ht
  obtain ⟨O, hO⟩ : ∃ O, O = openB f := ⟨_, rfl⟩
  rw [← hO] at HOP HTT HOB HPG HBY
  clear hO
  obtain ⟨N, hN⟩ : ∃ N : Nat, (dec 0 0 T).2.1 = (N : Int) := ⟨(dec 0 0 T).2.1.toNat, by omega⟩
  rw [hN] at hc1 e3 HPG
  obtain ⟨X, hX⟩ : ∃ X : Nat, (dec 0 0 T).1 = (X : Int) := ⟨(dec 0 0 T).1.toNat, by omega⟩
  rw [hX] at e4 HPG
  rw [Int.toNat_natCast, Int.toNat_natCast] at HPG
  rw [Int.toNat_natCast] at e3
  obtain ⟨Y, hY⟩ : ∃ Y, (dec 0 0 (T.drop N)).1 = Y := ⟨_, rfl⟩
  obtain ⟨M, hM⟩ : ∃ M, (dec 0 0 (T.drop N)).2.1 = M := ⟨_, rfl⟩
  rw [hY] at HPG
  have HN := hid hN
  have HX := hid hX
  have HY := hid hY
  have HM := hid hM
  have HE2 := hid e2
  have HE3 := hid e3
  have hN1 : 1 ≤ N ∧ N ≤ 10 := by omega
  rw [HPG.out]
  clear hN hX hY hM e2 e3 hc1 hx0
  have hX4 : ¬ ((4096 : Int) ≤ (X : Int)) := by omega
  go_enter Tryz.func57, Tryz.ntmps57
  go_wp2_with (go_at_call 78; refine HOP.out.mono ?_; rintro e w1 ⟨v1, rfl, hbs1, hb1⟩; clear HOP; have HB1 := hid (hbx.trans (hb1.mono hbx.size)); have HR1 := hid ((hb1.block w.heap.size (by simp)).trans (heap_new w _)); obtain ⟨ao, cap, rfl, hop⟩ := hbs1.open; obtain ⟨b, off, rfl, _⟩ := hop (by rw [HOB.out]; omega); have hlc := hbs1.len_le.2; rw [HOB.out] at hbs1 hlc; have HBS := hid hbs1; rw [HOB.out]; clear hbs1 hop hb1 hbx)
  have hdr : ∀ m, Below w1.heap.size w1 (w1.drewN m) := fun m => below_drewN (Below.refl _ _) m
  have htl : Bs w1 (.slice (some ⟨b, off + 480, none⟩) 28 (cap - 480)) T := by
    have := HBS.out.cutAt (lo := 480) (hi := 508) (by omega) (by rw [HOB.out]; omega)
    rw [if_neg (by omega), List.take_of_length_le (by rw [HOB.out]; omega), ← HTT.out] at this
    simpa [Addr.add_lit] using this
  have htl2 : Bs w1 (.slice (some ⟨b, off + 480 + N, none⟩) (28 - N) (cap - 480 - N)) (T.drop N) := by
    have := htl.cutAt (lo := N) (hi := 28) (by omega) (by rw [HTL.out]; omega)
    rw [if_neg (by omega), List.take_of_length_le (by rw [HTL.out]; omega)] at this
    simpa [Addr.add_lit] using this
  have hd480 := HBS.out.head (hi := 480) (by rw [HOB.out]; omega)
  have HV1 := hid (fun m => var_bs (htl.below (hdr m)))
  rw [HN.out, HX.out, HE2.out] at HV1
  have HV2 := hid (fun m => var_bs (htl2.below (hdr m)))
  rw [HY.out, HM.out, HE3.out] at HV2
  have hlT : (O.take 480).length = 480 := by rw [List.length_take, HOB.out]; omega
  have hHas : Has w1 (.slice (some ⟨b, off, none⟩) 480 cap) (O.take 480) := by
    rcases hd480.2.2 with ⟨_, _, _, h0, _⟩ | ⟨b', off', cap', hv, hcap', hc⟩
    · rw [h0] at hlT; simp at hlT
    · exact ⟨b', off', cap', hv, hcap', hc⟩
  have HCL := hid (fun m => clone_any (hHas.below (by omega) (hdr m)) (by omega) (by omega))
  rw [hlT] at HCL
  have HDR := hid hdr
  clear htl htl2 hd480 hHas hdr hlT
  go_quiet (fail)
  go_wp2_with (first
    | (go_at_call 73; refine (HV1.out _).mono ?_; rintro e wz ⟨rfl, hwz⟩; have hwz' := hwz.symm; clear hwz; subst hwz'; clear HV1)
    | (go_at_call 73; refine (HV2.out _).mono ?_; rintro e wz ⟨rfl, hwz⟩; have hwz' := hwz.symm; clear hwz; subst hwz'; clear HV2)
    | (go_at_call 31; refine (HCL.out _).mono ?_; rintro e w3 ⟨v3, rfl, hown3, hb3⟩; have hB13 := (HDR.out _).trans hb3; have hr3 := (hB13.block w.heap.size (lt_of_heap HR1.out)).trans HR1.out; have HR3 := hid hr3; have c0 := cell_of_row w3 w.heap.size 0 _ _ _ hr3; have c1 := cell_of_row w3 w.heap.size 1 _ _ _ hr3; have c2 := cell_of_row w3 w.heap.size 2 _ _ _ hr3; have f0 := frozen_of_row w3 w.heap.size 0 _ _ hr3; have f1 := frozen_of_row w3 w.heap.size 1 _ _ hr3; have f2 := frozen_of_row w3 w.heap.size 2 _ _ hr3; simp only [List.getElem?_toArray, List.getElem?_cons_succ, List.getElem?_cons_zero] at c0 c1 c2; have HB3 := hid (HB1.out.trans (hB13.mono HB1.out.size)); have HO3 := hid hown3; obtain ⟨a3, k3, rfl, _⟩ := own_any hown3; clear hown3 hb3 hB13 hr3 HCL))
  refine bodyPost_ret (v := .tuple #[.agg #[.int .i64 X, .int .u64 Y, .slice a3 480 k3], .int .i64 0]) (by simp [results, Tryz.results57, go_sem, c0, c1, c2]) rfl ⟨_, rfl, ?_, ?_⟩
  · exact own_mono (own_far (g := w.heap.size) (o := 0) (vs := [.int .i64 X, .int .u64 Y, .slice a3 480 k3]) HO3.out (lt_of_heap HR1.out)) (Nat.le_of_lt (lt_of_heap HR1.out))
  · exact ((HB3.out.setCell (p := ⟨w.heap.size, 0, none⟩) (Nat.le_refl _) _).setCell (p := ⟨w.heap.size, 1, none⟩) (Nat.le_refl _) _).setCell (p := ⟨w.heap.size, 2, none⟩) (Nat.le_refl _) _
end Go.Proofs.YtkbnjniglngjgaaGreatDoor
