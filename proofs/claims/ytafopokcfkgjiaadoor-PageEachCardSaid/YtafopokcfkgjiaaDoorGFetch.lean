/-
  Layer 3: what page.fetch and check give.
-/
import Derived.Test.YtafopokcfkgjiaaDoorGPagesOf
namespace Go.Proofs.YtafopokcfkgjiaaDoor
open Go.RowKit

/-- A page's sectors are noughts, or tell it. -/
def OkAt (f : List Int) (no : Nat) : Prop := allZ f = true ∨ (pageErr f = 0 ∧ (pageIn f).no = no)
/-- The page that they tell. -/
def fetchP (f : List Int) (no : Nat) : Pg := if allZ f = true then ⟨no, 0, zeros 480⟩ else pageIn f
theorem bs_made (w : World) (n : Nat) (h : n ≤ 65536) : (w.alloc (.cells (madeCells #[Value.int .u8 0] n) 5)).ownsRow w.heap.size 5 1 (.slice (some ⟨w.heap.size, 0, none⟩) n n) n (secV (zeros n)) := by
  have e : (madeCells #[Value.int .u8 0] n).toList = secV (zeros n) := by rw [toList_madeCells_one]; simp [secV, zeros]
  rw [← e]
  exact World.ownsRow_lit w _ n (Nat.le_refl _) (by unfold maxLen; omega) (by rw [size_madeCells]; omega)

set_option maxRecDepth 8000 in
set_option maxHeartbeats 800000 in
theorem fetch_any {w : World} {base n F B p0 np no : Nat} {d : Dk} {half : Bool} (hd : DiskIs w base B n d) (hf : FileIs w base F B p0 np half) (hl : d.left ≠ 0) (ht : TabOk w) (hp : p0 + np * 8 ≤ n) (hno : no < np) (hok : OkAt (secs d.now (p0 + no * 8) 8) no) :
    Calls Tryd.prog 40 #[.pointer (some ⟨F, 0, none⟩), .int .i64 no] w fun e w' => ∃ s, e = .returned (.tuple #[.agg #[.int .i64 (fetchP (secs d.now (p0 + no * 8) 8) no).no, .int .u64 (fetchP (secs d.now (p0 + no * 8) 8) no).lsn, s], .int .i64 0]) ∧
      w'.ownsRow w.heap.size 5 1 s 480 (secV (fetchP (secs d.now (p0 + no * 8) 8) no).data) ∧ Below w.heap.size w w' := by
  have hn := hd.2.1
  have hbx : Below w.heap.size w (w.alloc (.cells #[.int .i64 0, .int .u64 0, .slice none 0 0] 33)) := (Below.refl _ _).alloc (Nat.le_refl _) _
  obtain ⟨wA, hwA⟩ : ∃ wA, w.alloc (.cells #[.int .i64 0, .int .u64 0, .slice none 0 0] 33) = wA := ⟨_, rfl⟩
  rw [hwA] at hbx
  have hres : wA.heap[w.heap.size]? = some (.cells #[.int .i64 0, .int .u64 0, .slice none 0 0] 33 (0, 0)) := by rw [← hwA]; exact heap_new w _
  have HPL := hid (place_any (hf.below hbx) (k := no) (by omega) (by omega))
  have HLD := hid (load_any (hd.below hbx) (hf.below hbx) hl (i := p0 + no * 8) (K := 8) (by omega) (by omega))
  have hfl : (secs d.now (p0 + no * 8) 8).length = 512 := by rw [secs_len hd.ok.now_secs (by rw [hd.ok.now_len]; omega)]
  have hfb : By (secs d.now (p0 + no * 8) 8) := secs_by hd.ok.now_secs
  obtain ⟨f, hff⟩ : ∃ f, f = secs d.now (p0 + no * 8) 8 := ⟨_, rfl⟩
  rw [← hff] at HLD hfl hfb hok ⊢
  have HT := hid ht
  have HBX := hid hbx
  have HRES := hid hres
  have HFB := hid hfb
  clear hd hf ht hl hff hbx hres hfb
  by_cases hz : allZ f = true
  · have hfe : fetchP f no = ⟨no, 0, zeros 480⟩ := by unfold fetchP; rw [if_pos hz]
    rw [hfe]
    clear hfe hok
    have hmk : ∀ wx : World, (Instr.makeSlice 31 (.int .i64 480) (.int .i64 480)).run Tryd.prog wx = .ok (.slice (some ⟨wx.heap.size, 0, none⟩) 480 480) (wx.alloc (.cells (madeCells #[Value.int .u8 0] 480) 5)) := fun wx => by
      obtain ⟨i0, hi, hz0, hz1, hz2⟩ := info_parts info5
      have := run_make (P := Tryd.prog) wx 31 5 i0 _ Tryd.underlying31 hi hz0 .i64 .i64 480 480 (by omega) (by omega) (by rw [hz2]; omega) (by omega)
      rw [hz1] at this
      exact this
    obtain ⟨C, hC⟩ : ∃ C, C = madeCells #[Value.int .u8 0] 480 := ⟨_, rfl⟩
    have HM := hid (fun wx => hC ▸ bs_made wx 480 (by omega))
    rw [← hC] at hmk
    have HZ := hid hz
    clear hC hz
    go_enter Tryd.func40, Tryd.ntmps40
    go_wp2_with (first
      | (go_at_call 19; refine HPL.out.mono ?_; rintro e w2 ⟨rfl, hw⟩; have hw' := hw.symm; clear hw HPL; subst hw')
      | (go_at_call 45; refine HLD.out.mono ?_; rintro e w2 ⟨v2, rfl, hown2, hb2⟩; obtain ⟨a2, c2, rfl, _⟩ := own_any hown2; have HNO := hid (noughts_any (bs_own hown2 HFB.out (by omega))); rw [HZ.out] at HNO; have HB2 := hid (HBX.out.trans (hb2.mono HBX.out.size)); have hr2 := (hb2.block _ (lt_of_heap HRES.out)).trans HRES.out; have d0 := cell_of_row w2 w.heap.size 0 _ _ _ hr2; have d1 := cell_of_row w2 w.heap.size 1 _ _ _ hr2; have d2 := cell_of_row w2 w.heap.size 2 _ _ _ hr2; have f0 := frozen_of_row w2 w.heap.size 0 _ _ hr2; have f1 := frozen_of_row w2 w.heap.size 1 _ _ hr2; have f2 := frozen_of_row w2 w.heap.size 2 _ _ hr2; simp only [List.getElem?_toArray, List.getElem?_cons_succ, List.getElem?_cons_zero] at d0 d1 d2; have hlt2 := lt_of_heap hr2; clear hown2 hb2 hr2 HLD)
      | (go_at_call 42; refine HNO.out.mono ?_; rintro e w3 ⟨rfl, hw⟩; have hw' := hw.symm; clear hw HNO; subst hw'))
    refine bodyPost_ret (v := .tuple #[.agg #[.int .i64 no, .int .u64 0, .slice (some ⟨w2.heap.size, 0, none⟩) 480 480], .int .i64 0]) (by simp [results, Tryd.results40, go_sem, d0, d1, d2, hlt2]) rfl ⟨_, rfl, ?_, ?_⟩
    · obtain ⟨wx, hwx⟩ : ∃ wx, wx = ((w2.setCell ⟨w.heap.size, 0, none⟩ (.int .i64 no)).setCell ⟨w.heap.size, 1, none⟩ (.int .u64 0)).setCell ⟨w.heap.size, 2, none⟩ (.slice (some ⟨w2.heap.size, 0, none⟩) 480 480) := ⟨_, rfl⟩
      have hsx : wx.heap.size = w2.heap.size := by rw [hwx]; simp
      have := HM.out wx
      rw [hsx] at this
      rw [← hwx]
      exact own_mono this HB2.out.size
    · exact (((HB2.out.setCell (p := ⟨w.heap.size, 0, none⟩) (Nat.le_refl _) _).setCell (p := ⟨w.heap.size, 1, none⟩) (Nat.le_refl _) _).setCell (p := ⟨w.heap.size, 2, none⟩) (Nat.le_refl _) _).alloc (by simp; exact HB2.out.size) _
  · have hfe : fetchP f no = pageIn f := by unfold fetchP; rw [if_neg hz]
    obtain ⟨he, hpn⟩ : pageErr f = 0 ∧ (pageIn f).no = no := by
      rcases hok with h | h
      · exact absurd h hz
      · exact h
    have hz' : allZ f = false := by simpa using hz
    rw [hfe]
    have HZ := hid hz'
    have HE := hid he
    obtain ⟨pg, hpg⟩ : ∃ pg, pg = pageIn f := ⟨_, rfl⟩
    have HPG := hid hpg
    rw [← hpg] at hpn ⊢
    clear hfe hok hz hz' he hpg
    have hpnI : ((pg.no : Int) != (no : Int)) = false := by simp [hpn]
    go_enter Tryd.func40, Tryd.ntmps40
    go_wp2_with (first
      | (go_at_call 19; refine HPL.out.mono ?_; rintro e w2 ⟨rfl, hw⟩; have hw' := hw.symm; clear hw HPL; subst hw')
      | (go_at_call 45; refine HLD.out.mono ?_; rintro e w2 ⟨v2, rfl, hown2, hb2⟩; obtain ⟨a2, c2, rfl, _⟩ := own_any hown2; have hbs2 := bs_own hown2 HFB.out (by omega); have HNO := hid (noughts_any hbs2); rw [HZ.out] at HNO; have HB2 := hid (HBX.out.trans (hb2.mono HBX.out.size)); have HPO := hid (page_good hbs2 hfl (HT.out.below HB2.out (Nat.le_refl _)) HE.out); rw [← HPG.out] at HPO; have HR2 := hid ((hb2.block _ (lt_of_heap HRES.out)).trans HRES.out); clear hown2 hb2 HLD hbs2)
      | (go_at_call 42; refine HNO.out.mono ?_; rintro e w3 ⟨rfl, hw⟩; have hw' := hw.symm; clear hw HNO; subst hw')
      | (go_at_call 51; refine HPO.out.mono ?_; rintro e w3 ⟨s3, rfl, hown3, hb3⟩; obtain ⟨a3, c3, rfl, _⟩ := own_any hown3; have HB3 := hid (HB2.out.trans (hb3.mono HB2.out.size)); have HO3 := hid hown3; have HS2 := hid HB2.out.size; have hr2 := (hb3.block _ (lt_of_heap HR2.out)).trans HR2.out; have d0 := cell_of_row w3 w.heap.size 0 _ _ _ hr2; have d1 := cell_of_row w3 w.heap.size 1 _ _ _ hr2; have d2 := cell_of_row w3 w.heap.size 2 _ _ _ hr2; have f0 := frozen_of_row w3 w.heap.size 0 _ _ hr2; have f1 := frozen_of_row w3 w.heap.size 1 _ _ hr2; have f2 := frozen_of_row w3 w.heap.size 2 _ _ hr2; simp only [List.getElem?_toArray, List.getElem?_cons_succ, List.getElem?_cons_zero] at d0 d1 d2; have hlt2 := lt_of_heap HR2.out; have hlt3 := lt_of_heap hr2; clear hown3 hb3 hr2 HPO))
    rw [hpn]
    refine bodyPost_ret (v := .tuple #[.agg #[.int .i64 no, .int .u64 pg.lsn, .slice a3 480 c3], .int .i64 0]) (by simp [results, Tryd.results40, go_sem, d0, d1, d2, hlt3]) rfl ⟨_, rfl, ?_, ?_⟩
    · have h1 := own_far (g := w.heap.size) (o := 0) (vs := [.int .i64 no, .int .u64 pg.lsn, .slice a3 480 c3]) HO3.out hlt2
      exact (own_mono h1 HS2.out).alloc _
    · exact (((HB3.out.setCell (p := ⟨w.heap.size, 0, none⟩) (Nat.le_refl _) _).setCell (p := ⟨w.heap.size, 1, none⟩) (Nat.le_refl _) _).setCell (p := ⟨w.heap.size, 2, none⟩) (Nat.le_refl _) _).alloc (by simp; exact HB3.out.size) _
end Go.Proofs.YtafopokcfkgjiaaDoor
