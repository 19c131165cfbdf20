/-
  Layer 3: what page.fetch and check give.
-/
import Derived.Test.YtkbnjniglngjgaaGreatDoorMH
import Derived.WalkMore
namespace Go.Proofs.YtkbnjniglngjgaaGreatDoor
open Go.RowKit

/-- A page's sectors are noughts, or tell it. -/
def OkAt (f : List Int) (no : Nat) : Prop := allZ f = true ∨ (pageErr f = 0 ∧ (pageIn f).no = no)
/-- The page that they tell. -/
def fetchP (f : List Int) (no : Nat) : Pg := if allZ f = true then ⟨no, 0, zeros 480⟩ else pageIn f
theorem bs_made (w : World) (n : Nat) (h : n ≤ 65536) : (w.alloc (.cells (madeCells #[Value.int .u8 0] n) 5)).ownsRow w.heap.size 5 1 (.slice (some ⟨w.heap.size, 0, none⟩) n n) n (secV (zeros n)) := by
  have e : (madeCells #[Value.int .u8 0] n).toList = secV (zeros n) := by rw [toList_madeCells_one]; simp [secV, zeros]
  rw [← e]
  exact World.ownsRow_lit w _ n (Nat.le_refl _) (by unfold maxLen; omega) (by rw [size_madeCells]; omega)

set_option maxRecDepth 8000 in
set_option maxHeartbeats 800000 in
theorem fetch_any {w : World} {base n F B p0 np no : Nat} {d : Dk} {half : Bool} (hd : DiskIs w base B n d) (hf : FileIs w base F B p0 np half) (hl : d.left ≠ 0) (ht : TabOk w) (hp : p0 + np * 8 ≤ n) (hno : no < np) (hok : OkAt (secs d.now (p0 + no * 8) 8) no) :
    Calls Tryz.prog 33 #[.pointer (some ⟨F, 0, none⟩), .int .i64 no] w fun e w' => ∃ s, e = .returned (.tuple #[.agg #[.int .i64 (fetchP (secs d.now (p0 + no * 8) 8) no).no, .int .u64 (fetchP (secs d.now (p0 + no * 8) 8) no).lsn, s], .int .i64 0]) ∧
      w'.ownsRow w.heap.size 5 1 s 480 (secV (fetchP (secs d.now (p0 + no * 8) 8) no).data) ∧ Below w.heap.size w w' := by
  have hn := hd.2.1
  have hbx : Below w.heap.size w (w.alloc (.cells #[.int .i64 0, .int .u64 0, .slice none 0 0] 40)) := (Below.refl _ _).alloc (Nat.le_refl _) _
  obtain ⟨wA, hwA⟩ : ∃ wA, w.alloc (.cells #[.int .i64 0, .int .u64 0, .slice none 0 0] 40) = wA := ⟨_, rfl⟩
  rw [hwA] at hbx
  have hres : wA.heap[w.heap.size]? = some (.cells #[.int .i64 0, .int .u64 0, .slice none 0 0] 40 (0, 0)) := by rw [← hwA]; exact heap_new w _
  have HPL := hid (place_any (hf.below hbx) (k := no) (by omega) (by omega))
  have HLD := hid (load_any (hd.below hbx) (hf.below hbx) hl (i := p0 + no * 8) (K := 8) (by omega) (by omega))
  have hfl : (secs d.now (p0 + no * 8) 8).length = 512 := by rw [secs_len hd.ok.now_secs (by rw [hd.ok.now_len]; omega)]
  have hfb : By (secs d.now (p0 + no * 8) 8) := secs_by hd.ok.now_secs
  obtain ⟨f, hff⟩ : ∃ f, f = secs d.now (p0 + no * 8) 8 := ⟨_, rfl⟩
  rw [← hff] at HLD hfl hfb hok ⊢
  have HT := hid ht
  have HBX := hid hbx
  have HRES := hid hres
  have HFB := hid hfb
  clear hd hf ht hl hff hbx hres hfb
  by_cases hz : allZ f = true
  · have hfe : fetchP f no = ⟨no, 0, zeros 480⟩ := by unfold fetchP; rw [if_pos hz]
    rw [hfe]
    clear hfe hok
    have hmk : ∀ wx : World, (Instr.makeSlice 38 (.int .i64 480) (.int .i64 480)).run Tryz.prog wx = .ok (.slice (some ⟨wx.heap.size, 0, none⟩) 480 480) (wx.alloc (.cells (madeCells #[Value.int .u8 0] 480) 5)) := fun wx => by
      obtain ⟨i0, hi, hz0, hz1, hz2⟩ := info_parts info5
      have := run_make (P := Tryz.prog) wx 38 5 i0 _ Tryz.underlying38 hi hz0 .i64 .i64 480 480 (by omega) (by omega) (by rw [hz2]; omega) (by omega)
      rw [hz1] at this
      exact this
    obtain ⟨C, hC⟩ : ∃ C, C = madeCells #[Value.int .u8 0] 480 := ⟨_, rfl⟩
    have HM := hid (fun wx => hC ▸ bs_made wx 480 (by omega))
    rw [← hC] at hmk
    have HZ := hid hz
    clear hC hz
    go_enter Tryz.func33, Tryz.ntmps33
    go_wp2_with (first
      | (go_at_call 45; refine HPL.out.mono ?_; rintro e w2 ⟨rfl, hw⟩; have hw' := hw.symm; clear hw HPL; subst hw')
      | (go_at_call 56; refine HLD.out.mono ?_; rintro e w2 ⟨v2, rfl, hown2, hb2⟩; obtain ⟨a2, c2, rfl, _⟩ := own_any hown2; have HNO := hid (noughts_any (bs_own hown2 HFB.out (by omega))); rw [HZ.out] at HNO; have HB2 := hid (HBX.out.trans (hb2.mono HBX.out.size)); have hr2 := (hb2.block _ (lt_of_heap HRES.out)).trans HRES.out; have d0 := cell_of_row w2 w.heap.size 0 _ _ _ hr2; have d1 := cell_of_row w2 w.heap.size 1 _ _ _ hr2; have d2 := cell_of_row w2 w.heap.size 2 _ _ _ hr2; have f0 := frozen_of_row w2 w.heap.size 0 _ _ hr2; have f1 := frozen_of_row w2 w.heap.size 1 _ _ hr2; have f2 := frozen_of_row w2 w.heap.size 2 _ _ hr2; simp only [List.getElem?_toArray, List.getElem?_cons_succ, List.getElem?_cons_zero] at d0 d1 d2; have hlt2 := lt_of_heap hr2; clear hown2 hb2 hr2 HLD)
      | (go_at_call 46; refine HNO.out.mono ?_; rintro e w3 ⟨rfl, hw⟩; have hw' := hw.symm; clear hw HNO; subst hw'))
    refine bodyPost_ret (v := .tuple #[.agg #[.int .i64 no, .int .u64 0, .slice (some ⟨w2.heap.size, 0, none⟩) 480 480], .int .i64 0]) (by simp [results, Tryz.results33, go_sem, d0, d1, d2, hlt2]) rfl ⟨_, rfl, ?_, ?_⟩
    · obtain ⟨wx, hwx⟩ : ∃ wx, wx = ((w2.setCell ⟨w.heap.size, 0, none⟩ (.int .i64 no)).setCell ⟨w.heap.size, 1, none⟩ (.int .u64 0)).setCell ⟨w.heap.size, 2, none⟩ (.slice (some ⟨w2.heap.size, 0, none⟩) 480 480) := ⟨_, rfl⟩
      have hsx : wx.heap.size = w2.heap.size := by rw [hwx]; simp
      have := HM.out wx
      rw [hsx] at this
      rw [← hwx]
      exact own_mono this HB2.out.size
    · exact (((HB2.out.setCell (p := ⟨w.heap.size, 0, none⟩) (Nat.le_refl _) _).setCell (p := ⟨w.heap.size, 1, none⟩) (Nat.le_refl _) _).setCell (p := ⟨w.heap.size, 2, none⟩) (Nat.le_refl _) _).alloc (by simp; exact HB2.out.size) _
  · have hfe : fetchP f no = pageIn f := by unfold fetchP; rw [if_neg hz]
    obtain ⟨he, hpn⟩ : pageErr f = 0 ∧ (pageIn f).no = no := by
      rcases hok with h | h
      · exact absurd h hz
      · exact h
    have hz' : allZ f = false := by simpa using hz
    rw [hfe]
    have HZ := hid hz'
    have HE := hid he
    obtain ⟨pg, hpg⟩ : ∃ pg, pg = pageIn f := ⟨_, rfl⟩
    have HPG := hid hpg
    rw [← hpg] at hpn ⊢
    clear hfe hok hz hz' he hpg
    have hpnI : ((pg.no : Int) != (no : Int)) = false := by simp [hpn]
    go_enter Tryz.func33, Tryz.ntmps33
    go_wp2_with (first
      | (go_at_call 45; refine HPL.out.mono ?_; rintro e w2 ⟨rfl, hw⟩; have hw' := hw.symm; clear hw HPL; subst hw')
      | (go_at_call 56; refine HLD.out.mono ?_; rintro e w2 ⟨v2, rfl, hown2, hb2⟩; obtain ⟨a2, c2, rfl, _⟩ := own_any hown2; have hbs2 := bs_own hown2 HFB.out (by omega); have HNO := hid (noughts_any hbs2); rw [HZ.out] at HNO; have HB2 := hid (HBX.out.trans (hb2.mono HBX.out.size)); have HPO := hid (page_good hbs2 hfl (HT.out.below HB2.out (Nat.le_refl _)) HE.out); rw [← HPG.out] at HPO; have HR2 := hid ((hb2.block _ (lt_of_heap HRES.out)).trans HRES.out); clear hown2 hb2 HLD hbs2)
      | (go_at_call 46; refine HNO.out.mono ?_; rintro e w3 ⟨rfl, hw⟩; have hw' := hw.symm; clear hw HNO; subst hw')
      | (go_at_call 57; refine HPO.out.mono ?_; rintro e w3 ⟨s3, rfl, hown3, hb3⟩; obtain ⟨a3, c3, rfl, _⟩ := own_any hown3; have HB3 := hid (HB2.out.trans (hb3.mono HB2.out.size)); have HO3 := hid hown3; have HS2 := hid HB2.out.size; have hr2 := (hb3.block _ (lt_of_heap HR2.out)).trans HR2.out; have d0 := cell_of_row w3 w.heap.size 0 _ _ _ hr2; have d1 := cell_of_row w3 w.heap.size 1 _ _ _ hr2; have d2 := cell_of_row w3 w.heap.size 2 _ _ _ hr2; have f0 := frozen_of_row w3 w.heap.size 0 _ _ hr2; have f1 := frozen_of_row w3 w.heap.size 1 _ _ hr2; have f2 := frozen_of_row w3 w.heap.size 2 _ _ hr2; simp only [List.getElem?_toArray, List.getElem?_cons_succ, List.getElem?_cons_zero] at d0 d1 d2; have hlt2 := lt_of_heap HR2.out; have hlt3 := lt_of_heap hr2; clear hown3 hb3 hr2 HPO))
    rw [hpn]
    refine bodyPost_ret (v := .tuple #[.agg #[.int .i64 no, .int .u64 pg.lsn, .slice a3 480 c3], .int .i64 0]) (by simp [results, Tryz.results33, go_sem, d0, d1, d2, hlt3]) rfl ⟨_, rfl, ?_, ?_⟩
    · have h1 := own_far (g := w.heap.size) (o := 0) (vs := [.int .i64 no, .int .u64 pg.lsn, .slice a3 480 c3]) HO3.out hlt2
      exact (own_mono h1 HS2.out).alloc _
    · exact (((HB3.out.setCell (p := ⟨w.heap.size, 0, none⟩) (Nat.le_refl _) _).setCell (p := ⟨w.heap.size, 1, none⟩) (Nat.le_refl _) _).setCell (p := ⟨w.heap.size, 2, none⟩) (Nat.le_refl _) _).alloc (by simp; exact HB3.out.size) _
end Go.Proofs.YtkbnjniglngjgaaGreatDoor

namespace Go.Proofs.YtkbnjniglngjgaaGreatDoor
open Go.RowKit

set_option maxRecDepth 8000 in
set_option maxHeartbeats 1600000 in
theorem check_any {w : World} {base n F B p0 np : Nat} {d : Dk} {half : Bool} (hd : DiskIs w base B n d) (hf : FileIs w base F B p0 np half) (hl : d.left ≠ 0) (ht : TabOk w) (hp : p0 + np * 8 ≤ n) (hok : ∀ no, no < np → OkAt (secs d.now (p0 + no * 8) 8) no) :
    Calls Tryz.prog 26 #[.pointer (some ⟨F, 0, none⟩)] w fun e w' => e = .returned (.int .i64 0) ∧ Below w.heap.size w w' := by
  have hn := hd.2.1
  have HD := hid hd
  have HF := hid hf
  have HL := hid hl
  have HT := hid ht
  have HOK := hid hok
  have HSE := hid hd.ok.now_secs
  have HNL := hid hd.ok.now_len
  obtain ⟨c0, c1, c2, c3⟩ := hf.cells
  clear hd hf hl ht hok
  go_enter Tryz.func26, Tryz.ntmps26
  go_wp2
  go_step3
  go_wp2
  go_step3
  go_wp2
  go_loopw [3, 4, 5, 6, 7, 8, 13, 16] (fun _ _ _ _ _ _ t _ wr => ∃ k : Nat, k ≤ np ∧ t = .int .i64 k ∧ Below w.heap.size w wr) (fun _ _ _ _ _ _ t _ _ => np - (intOf t).toNat)
  case atStart => exact ⟨0, by omega, rfl, Below.refl _ _⟩
  case round =>
    obtain ⟨k, hk, rfl, hbr⟩ := hrel
    have HBR := hid hbr
    clear hbr
    by_cases hlt : k < np
    · have hkI : (k : Int) < (np : Int) := by omega
      go_wp2
      go_loopw [4, 5, 6, 7, 8, 16] (fun _ _ _ _ _ t wx => ∃ j : Nat, j ≤ 8 ∧ t = .int .i64 j ∧ Below w.heap.size w wx) (fun _ _ _ _ _ t _ => 8 - (intOf t).toNat)
      case atStart => exact ⟨0, by omega, rfl, HBR.out⟩
      case round =>
        obtain ⟨j, hj, rfl, hbj⟩ := hrel
        have HBJ := hid hbj
        clear hbj
        by_cases hlj : j < 8
        · have hjI : (j : Int) < 8 := by omega
          have hdr : Below w.heap.size w wr.drew := HBJ.out.drew
          have HPL := hid (place_any (HF.out.below hdr) (k := k) (by omega) (by omega))
          have hrd := read_any (HD.out.below hdr) (i := p0 + k * 8 + j) (by omega) HL.out
          rw [show ((p0 + k * 8 + j : Nat) : Int) = ((p0 + k * 8 : Nat) : Int) + (j : Int) by omega] at hrd
          have hsec := HSE.out (d.now.getD (p0 + k * 8 + j) []) (by have := HNL.out; simp [List.getD, show p0 + k * 8 + j < d.now.length by omega])
          have HFE := hid (fun wx hb => fetch_any (HD.out.below (w' := wx) hb) (HF.out.below hb) HL.out (HT.out.below hb (Nat.le_refl _)) hp hlt (HOK.out k hlt))
          obtain ⟨S, hS⟩ : ∃ S, S = d.now.getD (p0 + k * 8 + j) [] := ⟨_, rfl⟩
          rw [← hS] at hrd hsec
          obtain ⟨fp, hfp⟩ : ∃ fp, fp = fetchP (secs d.now (p0 + k * 8) 8) k := ⟨_, rfl⟩
          rw [← hfp] at HFE
          obtain ⟨I, hI⟩ : ∃ I : Nat, I = p0 + k * 8 := ⟨_, rfl⟩
          rw [← hI] at HPL hrd
          have HRD := hid hrd
          have HSC := hid hsec
          obtain ⟨cF, _, _, _⟩ := (HF.out.below hdr).cells
          have hIb : I ≤ 200000 := by omega
          have hwrap : IntKind.i64.wrap ((I : Int) + (j : Int)) = (I : Int) + (j : Int) := by rw [IntKind.wrap_i64]; omega
          clear hrd hS hsec hfp hI hdr
          obtain ⟨z, hz⟩ : ∃ z, z = allZ S := ⟨_, rfl⟩
          have HZ := hid hz
          clear hz
          cases z with
          | true =>
            go_wp2
            go_region_held (fun w' => w'.cell? ⟨F, 0, none⟩ = some (.pointer (some ⟨B, 0, none⟩))) (first | exact cF | exact cF2) (first
              | (go_at_call 45; refine HPL.out.mono ?_; rintro e w2 ⟨rfl, hw⟩; have hw' := hw.symm; clear hw; subst hw')
              | (go_at_call 44; refine HRD.out.mono ?_; rintro e w2 ⟨v2, rfl, hown2, hb2⟩; have hB2 := HBJ.out.drew.trans (hb2.mono HBJ.out.size); obtain ⟨cF2, _, _, _⟩ := (HF.out.below hB2).cells; obtain ⟨a2, k2, rfl, _⟩ := own_any hown2; have HNO := hid (noughts_any (bs_own hown2 HSC.out.2 (by rw [HSC.out.1]; omega))); rw [← HZ.out] at HNO; have HB2 := hid hB2; clear hown2 hb2 hB2))
            go_wp2_with (go_at_call 46; refine HNO.out.mono ?_; rintro e w3 ⟨rfl, hw⟩; have hw' := hw.symm; clear hw HNO; subst hw')
            go_roundw
            case rel => exact ⟨j + 1, by omega, by go_num, HB2.out⟩
            case measure => simp [intOf]; omega
          | false =>
            go_wp2
            go_region_held (fun w' => w'.cell? ⟨F, 0, none⟩ = some (.pointer (some ⟨B, 0, none⟩))) (first | exact cF | exact cF2) (first
              | (go_at_call 45; refine HPL.out.mono ?_; rintro e w2 ⟨rfl, hw⟩; have hw' := hw.symm; clear hw; subst hw')
              | (go_at_call 44; refine HRD.out.mono ?_; rintro e w2 ⟨v2, rfl, hown2, hb2⟩; have hB2 := HBJ.out.drew.trans (hb2.mono HBJ.out.size); obtain ⟨cF2, _, _, _⟩ := (HF.out.below hB2).cells; obtain ⟨a2, k2, rfl, _⟩ := own_any hown2; have HNO := hid (noughts_any (bs_own hown2 HSC.out.2 (by rw [HSC.out.1]; omega))); rw [← HZ.out] at HNO; have HB2 := hid hB2; have HFT := hid (HFE.out w2 hB2); clear hown2 hb2 hB2))
            go_wp2_with (first
              | (go_at_call 46; refine HNO.out.mono ?_; rintro e w3 ⟨rfl, hw⟩; have hw' := hw.symm; clear hw HNO; subst hw')
              | (go_at_call 33; refine HFT.out.mono ?_; rintro e w3 ⟨s3, rfl, hown3, hb3⟩; obtain ⟨a3, k3, rfl, _⟩ := own_any hown3; have HB3 := hid (HB2.out.trans (hb3.mono HB2.out.size)); clear hown3 hb3 HFT))
            go_roundw
            case rel => exact ⟨k + 1, by omega, by go_num, HB3.out.alloc HB3.out.size _⟩
            case measure => simp [intOf]; omega
        · obtain rfl : j = 8 := by omega
          go_wp2
          go_roundw
          case rel => exact ⟨k + 1, by omega, by go_num, HBJ.out⟩
          case measure => simp [intOf]; omega
    · go_wp2
      rw [Exit.noGoto_ret]
      go_ret
      exact ⟨rfl, HBR.out⟩
end Go.Proofs.YtkbnjniglngjgaaGreatDoor

namespace Go.Proofs.YtkbnjniglngjgaaGreatDoor
open Go.RowKit

/-- The journal's head, its frames, the pages that it tells. -/
def jHead (l : List (List Int)) (jn : Nat) : List Int := secs l jn 1
def jFrames (l : List (List Int)) (jn : Nat) : List Int := secs l (jn + 1) (8 * countOf (jHead l jn))
def notedP (l : List (List Int)) (jn : Nat) : List Pg := if jHead l jn = headOf (jFrames l jn) then pagesL (countOf (jHead l jn)) (jFrames l jn) else []
/-- What a journal keeps to. -/
structure JOk (l : List (List Int)) (jn np : Nat) : Prop where
  kind : jHead l jn = headOf (jFrames l jn) → ∀ j, j < countOf (jHead l jn) → pageErr (frameAt (jFrames l jn) j) = 0 ∨ openE (frameAt (jFrames l jn) j) ≠ 0
  tk : takes np (notedP l jn)

set_option maxRecDepth 8000 in
set_option maxHeartbeats 800000 in
theorem noted_any {w : World} {base n F B p0 np : Nat} {d : Dk} {half : Bool} (hd : DiskIs w base B n d) (hf : FileIs w base F B p0 np half) (hl : d.left ≠ 0) (ht : TabOk w) (hp : p0 + np * 8 + 80 ≤ n) (hj : JOk d.now (p0 + np * 8) np) :
    Calls Tryz.prog 67 #[.pointer (some ⟨F, 0, none⟩)] w fun e w' => ∃ v, e = .returned (.tuple #[v, .int .i64 0]) ∧ Pgs w' v (notedP d.now (p0 + np * 8)) ∧ Below w.heap.size w w' := by
  have hn := hd.2.1
  have hnl := hd.ok.now_len
  have hns := hd.ok.now_secs
  have hcl := countOf_le (jHead d.now (p0 + np * 8))
  have HJ := hid (fun wx hb => journal_any (hf.below (w' := wx) hb) (by omega) (by omega))
  have HL1 := hid (load_any hd hf hl (i := p0 + np * 8) (K := 1) (by omega) (by omega))
  have hHb : By (jHead d.now (p0 + np * 8)) := secs_by hns
  have hHl : (jHead d.now (p0 + np * 8)).length = 64 := by unfold jHead; rw [secs_len hns (by rw [hnl]; omega)]
  have hFb : By (jFrames d.now (p0 + np * 8)) := secs_by hns
  have hFl : (jFrames d.now (p0 + np * 8)).length = 512 * countOf (jHead d.now (p0 + np * 8)) := by
    unfold jFrames; rw [secs_len hns (by rw [hnl]; omega)]; omega
  have hl2 := fun wx (hb : Below w.heap.size w wx) => load_any (hd.below (w' := wx) hb) (hf.below hb) hl (i := p0 + np * 8 + 1) (K := 8 * countOf (jHead d.now (p0 + np * 8))) (by omega) (by omega)
  have hjk := hj.kind
  have hjt := hj.tk
  have hnp : notedP d.now (p0 + np * 8) = if jHead d.now (p0 + np * 8) = headOf (jFrames d.now (p0 + np * 8)) then pagesL (countOf (jHead d.now (p0 + np * 8))) (jFrames d.now (p0 + np * 8)) else [] := rfl
  rw [hnp] at hjt ⊢
  have hjf : secs d.now (p0 + np * 8 + 1) (8 * countOf (jHead d.now (p0 + np * 8))) = jFrames d.now (p0 + np * 8) := rfl
  have hjh : secs d.now (p0 + np * 8) 1 = jHead d.now (p0 + np * 8) := rfl
  rw [hjf] at hl2
  rw [hjh] at HL1
  obtain ⟨H, hH⟩ : ∃ H, H = jHead d.now (p0 + np * 8) := ⟨_, rfl⟩
  obtain ⟨Fr, hF⟩ : ∃ Fr, Fr = jFrames d.now (p0 + np * 8) := ⟨_, rfl⟩
  rw [← hH, ← hF] at hl2 hFl hjk hjt ⊢
  rw [← hH] at HL1 hHb hHl hcl
  rw [← hF] at hFb
  obtain ⟨c, hc⟩ : ∃ c, c = countOf H := ⟨_, rfl⟩
  rw [← hc] at hl2 hFl hjk hjt hcl ⊢
  obtain ⟨J, hJ⟩ : ∃ J, J = p0 + np * 8 := ⟨_, rfl⟩
  rw [← hJ] at HL1 hl2 HJ
  rw [show ((J + 1 : Nat) : Int) = (J : Int) + 1 by omega, show ((8 * c : Nat) : Int) = 8 * (c : Int) by omega] at hl2
  have HL2 := hid hl2
  have HHB := hid hHb
  have HFB := hid hFb
  have HFL := hid hFl
  have HC := hid hc
  have HJK := hid hjk
  have HJT := hid hjt
  have HFI := hid hf
  have HT := hid ht
  have hJb : J ≤ 65536 := by omega
  clear hd hl hnl hns hj hjk hjt hnp hjf hjh hH hF hc hJ hl2 hHb hFb hFl ht hf
  by_cases heq : H = headOf Fr
  · rw [if_pos heq] at HJT ⊢
    have hdec : decide (H = headOf Fr) = true := by simpa using heq
    have HKI := hid (HJK.out heq)
    have HDE := hid hdec
    clear heq hdec HJK
    go_enter Tryz.func67, Tryz.ntmps67
    go_wp2_with (first
      | (go_at_call 88; refine (HJ.out w (Below.refl _ _)).mono ?_; rintro e w2 ⟨rfl, hw⟩; have hw' := hw.symm; clear hw; subst hw')
      | (go_at_call 56; refine HL1.out.mono ?_; rintro e w2 ⟨v2, rfl, hown2, hb2⟩; obtain ⟨a2, k2, rfl, _⟩ := own_any hown2; have HO2 := hid hown2; have HB2 := hid hb2; have HCO := hid (count_any (bs_own hown2 HHB.out (by omega))); rw [← HC.out] at HCO; have HJ2 := hid (HJ.out w2 hb2); have HL3 := hid (HL2.out w2 hb2); clear hown2 hb2 HL1)
      | (go_at_call 88; refine HJ2.out.mono ?_; rintro e w3 ⟨rfl, hw⟩; have hw' := hw.symm; clear hw HJ2; subst hw')
      | (go_at_call 89; refine HCO.out.mono ?_; rintro e w3 ⟨rfl, hw⟩; have hw' := hw.symm; clear hw HCO; subst hw')
      | (go_at_call 56; refine HL3.out.mono ?_; rintro e w3 ⟨v3, rfl, hown3, hb3⟩; rw [show 64 * (8 * c) = 512 * c by omega] at hown3; obtain ⟨a3, k3, rfl, _⟩ := own_any hown3; have HB3 := hid (HB2.out.trans (hb3.mono HB2.out.size)); have HO3 := hid (own_mono hown3 (Nat.zero_le _)); have HO23 := hid (own_below HO2.out hb3); have HHD := hid (head_any (own_mono hown3 (Nat.zero_le _)) HFB.out hcl); clear hown3 hb3 HL3)
      | (go_at_call 90; refine HHD.out.mono ?_; rintro e w4 ⟨v4, rfl, hown4, hb4⟩; obtain ⟨a4, k4, rfl, _⟩ := own_any hown4; have HB4 := hid (HB3.out.trans (hb4.mono HB3.out.size)); have HEQ := hid (equal_any (bs_own (own_below HO23.out hb4) HHB.out (by omega)) (bs_own hown4 (headOf_by HFL.out hcl HFB.out) (by rw [headOf_len HFL.out hcl]; omega))); rw [HDE.out] at HEQ; have HO4 := hid (own_below HO3.out hb4); have HPO := hid (pagesOf_any (HFI.out.below HB4.out) HO4.out HFB.out (HT.out.below HB4.out (Nat.le_refl _)) hcl HKI.out HJT.out); clear hown4 hb4 HHD)
      | (go_at_call 53; refine HEQ.out.mono ?_; rintro e w5 ⟨rfl, hw⟩; have hw' := hw.symm; clear hw HEQ; subst hw')
      | (go_at_call 91; refine HPO.out.mono ?_; rintro e w5 ⟨v5, rfl, hpg5, hb5⟩; have HP5 := hid hpg5; have HB5 := hid (HB4.out.trans (hb5.mono HB4.out.size)); obtain ⟨a5, k5, rfl, _⟩ := hpg5; clear hb5 HPO))
    go_ret2
    exact ⟨_, rfl, HP5.out, HB5.out⟩
  · rw [if_neg heq] at HJT ⊢
    have hdec : decide (H = headOf Fr) = false := by simpa using heq
    have HDE := hid hdec
    clear heq hdec HJK
    go_enter Tryz.func67, Tryz.ntmps67
    go_wp2_with (first
      | (go_at_call 88; refine (HJ.out w (Below.refl _ _)).mono ?_; rintro e w2 ⟨rfl, hw⟩; have hw' := hw.symm; clear hw; subst hw')
      | (go_at_call 56; refine HL1.out.mono ?_; rintro e w2 ⟨v2, rfl, hown2, hb2⟩; obtain ⟨a2, k2, rfl, _⟩ := own_any hown2; have HO2 := hid hown2; have HB2 := hid hb2; have HCO := hid (count_any (bs_own hown2 HHB.out (by omega))); rw [← HC.out] at HCO; have HJ2 := hid (HJ.out w2 hb2); have HL3 := hid (HL2.out w2 hb2); clear hown2 hb2 HL1)
      | (go_at_call 88; refine HJ2.out.mono ?_; rintro e w3 ⟨rfl, hw⟩; have hw' := hw.symm; clear hw HJ2; subst hw')
      | (go_at_call 89; refine HCO.out.mono ?_; rintro e w3 ⟨rfl, hw⟩; have hw' := hw.symm; clear hw HCO; subst hw')
      | (go_at_call 56; refine HL3.out.mono ?_; rintro e w3 ⟨v3, rfl, hown3, hb3⟩; rw [show 64 * (8 * c) = 512 * c by omega] at hown3; obtain ⟨a3, k3, rfl, _⟩ := own_any hown3; have HB3 := hid (HB2.out.trans (hb3.mono HB2.out.size)); have HO3 := hid (own_mono hown3 (Nat.zero_le _)); have HO23 := hid (own_below HO2.out hb3); have HHD := hid (head_any (own_mono hown3 (Nat.zero_le _)) HFB.out hcl); clear hown3 hb3 HL3)
      | (go_at_call 90; refine HHD.out.mono ?_; rintro e w4 ⟨v4, rfl, hown4, hb4⟩; obtain ⟨a4, k4, rfl, _⟩ := own_any hown4; have HB4 := hid (HB3.out.trans (hb4.mono HB3.out.size)); have HEQ := hid (equal_any (bs_own (own_below HO23.out hb4) HHB.out (by omega)) (bs_own hown4 (headOf_by HFL.out hcl HFB.out) (by rw [headOf_len HFL.out hcl]; omega))); rw [HDE.out] at HEQ; clear hown4 hb4 HHD)
      | (go_at_call 53; refine HEQ.out.mono ?_; rintro e w5 ⟨rfl, hw⟩; have hw' := hw.symm; clear hw HEQ; subst hw'))
    go_ret2
    exact ⟨_, rfl, pgs_nil _, HB4.out⟩
end Go.Proofs.YtkbnjniglngjgaaGreatDoor

namespace Go.Proofs.YtkbnjniglngjgaaGreatDoor
open Go.RowKit

theorem storeP_live : ∀ (ss : List (List Int)) (d : Dk) (i : Nat), d.left = -1 → (storeP d i ss).2 = 0 ∧ (storeP d i ss).1.left = -1
  | [], d, i, h => ⟨rfl, h⟩
  | s :: r, d, i, h => by
    have hb : (d.write i s).left = -1 := by simp [Dk.write, burn, h]
    have := storeP_live r (d.write i s) (i + 1) hb
    unfold storeP
    rw [if_neg (by omega)]
    exact this
/-- Pages are written where they are not in place. -/
def redoL (p0 : Nat) : Dk → Bool → List Pg → Dk × Bool
  | d, c, [] => (d, c)
  | d, c, p :: r => if secs d.now (p0 + p.no * 8) 8 = frameOf p then redoL p0 d c r else redoL p0 (storeP d (p0 + p.no * 8) (cut64 8 (frameOf p))).1 true r
theorem redoL_snoc (p0 : Nat) (p : Pg) : ∀ (ps : List Pg) (d : Dk) (c : Bool), redoL p0 d c (ps ++ [p]) = if secs (redoL p0 d c ps).1.now (p0 + p.no * 8) 8 = frameOf p then redoL p0 d c ps else ((storeP (redoL p0 d c ps).1 (p0 + p.no * 8) (cut64 8 (frameOf p))).1, true)
  | [], d, c => by
    by_cases h : secs d.now (p0 + p.no * 8) 8 = frameOf p <;> simp [redoL, h]
  | x :: r, d, c => by
    simp only [List.cons_append, redoL]
    split
    · exact redoL_snoc p0 p r d c
    · exact redoL_snoc p0 p r _ true
def redoP (p0 : Nat) (d : Dk) (ps : List Pg) : Dk := if (redoL p0 d false ps).2 = true then (redoL p0 d false ps).1.flush else (redoL p0 d false ps).1
theorem redoL_live (p0 : Nat) : ∀ (ps : List Pg) (d : Dk) (c : Bool), d.left = -1 → (redoL p0 d c ps).1.left = -1 ∧ (redoL p0 d c ps).1.wait.length ≤ d.wait.length + 8 * ps.length ∧ (redoL p0 d c ps).1.writes ≤ d.writes + 8 * ps.length
  | [], d, c, h => ⟨h, by simp [redoL], by simp [redoL]⟩
  | x :: r, d, c, h => by
    unfold redoL
    split
    · have := redoL_live p0 r d c h
      simp only [List.length_cons]
      omega
    · have h1 := storeP_live (cut64 8 (frameOf x)) d (p0 + x.no * 8) h
      have h2 := storeP_wait (cut64 8 (frameOf x)) d (p0 + x.no * 8)
      rw [cut64_len] at h2
      have := redoL_live p0 r _ true h1.2
      simp only [List.length_cons]
      omega
theorem tab_kd {w w' : World} {base : Nat} (ht : TabOk w) (hg : 0 < base) (hk : Below base w w') : TabOk w' := fun i hi => by
  rw [hk.cell (p := ⟨_, i, none⟩) hg]; exact ht i hi

set_option maxRecDepth 8000 in
set_option maxHeartbeats 1600000 in
theorem redo_any {w : World} {base n F B p0 np : Nat} {d : Dk} {half : Bool} (hd : DiskIs w base B n d) (hf : FileIs w base F B p0 np half) (hl : d.left = -1) (ht : TabOk w) (hg : 0 < base) (hp : p0 + np * 8 + 80 ≤ n) (hnp : np ≤ 4096) (hj : JOk d.now (p0 + np * 8) np) (hwl : d.wait.length ≤ 800000) (hwr : d.writes ≤ 800000000) :
    Calls Tryz.prog 43 #[.pointer (some ⟨F, 0, none⟩)] w fun e w' => e = .returned (.int .i64 0) ∧ DiskIs w' base B n (redoP p0 d (notedP d.now (p0 + np * 8))) ∧ Kd base w w' := by
  have hn := hd.2.1
  have hbase := hd.base_le
  have HNT := hid (noted_any hd hf (by omega) ht hp hj)
  have htk := hj.tk
  obtain ⟨ps, hps⟩ : ∃ ps, ps = notedP d.now (p0 + np * 8) := ⟨_, rfl⟩
  rw [← hps] at HNT htk ⊢
  have HTK := hid htk
  have HD := hid hd
  have HF := hid hf
  have HT := hid ht
  have hl8 := htk.1
  clear hd hf ht hj htk hps
  go_enter Tryz.func43, Tryz.ntmps43
  go_wp2_with (go_at_call 67; refine HNT.out.mono ?_; rintro e w1 ⟨v1, rfl, hpg1, hb1⟩; have HP1 := hid hpg1; obtain ⟨a1, k1, rfl, _⟩ := hpg1; have HK1 := hid (Kd.fresh hb1 hbase); have HD1 := hid (HD.out.below hb1); clear hb1 HNT)
  obtain ⟨L, hL⟩ : ∃ L, L = ps.length := ⟨_, rfl⟩
  rw [← hL] at hl8 HP1
  have HL := hid hL
  rw [← hL]
  clear hL
  go_loopw [5, 7, 8, 9, 10, 11, 22] (fun ch _ _ _ _ _ t wr => ∃ k : Nat, k ≤ L ∧ t = .int .i64 k ∧ ch = .bool (redoL p0 d false (ps.take k)).2 ∧ DiskIs wr base B n (redoL p0 d false (ps.take k)).1 ∧ Kd base w wr ∧ Pgs wr (.slice a1 L k1) ps) (fun _ _ _ _ _ _ t _ => L - (intOf t).toNat)
  case atStart => exact ⟨0, by omega, rfl, rfl, HD1.out, HK1.out, HP1.out⟩
  case round =>
    obtain ⟨k, hk, rfl, rfl, hdk, hkd, hpg⟩ := hrel
    have hlive := redoL_live p0 (ps.take k) d false hl
    have hlt' : (ps.take k).length ≤ 8 := by simp; omega
    by_cases hlt : k < L
    · have hkl : k < ps.length := by have := HL.out; omega
      have hsn := redoL_snoc p0 ps[k] (ps.take k) d false
      rw [← List.take_succ_eq_append_getElem hkl] at hsn
      have HSN := hid hsn
      have hpok := HTK.out.2.1 ps[k] (List.getElem_mem hkl)
      have HPG := hid hpg
      obtain ⟨ao, cap, hv, hcp, hpp⟩ := hpg
      injection hv with e1 e2 e3
      subst e1 e3
      obtain ⟨b, off, c, f, rfl, hh, hpp⟩ := hpp (by omega)
      clear e2 hcp
      obtain ⟨s, c0, c1, c2, hs⟩ := hpp k ps[k] (by simp [hkl])
      rw [hpok.len] at hs
      obtain ⟨aS, cS, rfl, _⟩ := own_any hs
      have hkI : (k : Int) < (L : Int) := by omega
      obtain ⟨pk, hpk⟩ : ∃ pk, pk = ps[k] := ⟨_, rfl⟩
      rw [← hpk] at c0 c1 hs hpok HSN
      obtain ⟨dk, hdke⟩ : ∃ dk, dk = (redoL p0 d false (ps.take k)).1 := ⟨_, rfl⟩
      obtain ⟨ch, hche⟩ : ∃ ch, ch = (redoL p0 d false (ps.take k)).2 := ⟨_, rfl⟩
      rw [← hdke] at hdk hlive HSN
      have hpair : redoL p0 d false (ps.take k) = (dk, ch) := by rw [hdke, hche]
      rw [hpair] at HSN
      rw [← hche]
      obtain ⟨wB, hwB⟩ : ∃ wB, wr.alloc (.cells #[.int .i64 pk.no, .int .u64 pk.lsn, .slice aS 480 cS] 40) = wB := ⟨_, rfl⟩
      have hbB : Below wr.heap.size wr wB := by rw [← hwB]; exact (Below.refl _ _).alloc (Nat.le_refl _) _
      have hbox : wB.heap[wr.heap.size]? = some (.cells #[.int .i64 pk.no, .int .u64 pk.lsn, .slice aS 480 cS] 40 (0, 0)) := by rw [← hwB]; exact heap_new wr _
      have hbaser : base ≤ wr.heap.size := hdk.base_le
      have hkB := hkd.trans (Kd.fresh hbB hbaser)
      have hfB := HF.out.kd hkB
      have HPL := hid (fun wx (hx : Kd base w wx) => place_any (HF.out.kd hx) (k := pk.no) (by omega) (by have := hpok.no; omega))
      have hno := hpok.no
      have HLD := hid (load_any (hdk.below hbB) hfB (by omega) (i := p0 + pk.no * 8) (K := 8) (by omega) (by omega))
      have q0 := cell_of_row wB wr.heap.size 0 _ _ _ hbox
      simp only [List.getElem?_toArray, List.getElem?_cons_zero] at q0
      have HBOX := hid hbox
      have HKB := hid hkB
      have HDB := hid (hdk.below hbB)
      have HSO := hid (own_below hs hbB)
      have HPO := hid hpok
      have HNB := hid hdk.ok.now_secs
      have HPGB := hid (HPG.out.below hbB)
      have hfl := frameOf_len hpok.len
      have hfby := frameOf_by hpok hnp
      have hsl : (secs dk.now (p0 + pk.no * 8) 8).length = 512 := by rw [secs_len hdk.ok.now_secs (by rw [hdk.ok.now_len]; omega)]
      have HFBY := hid hfby
      clear hpk hdke hche hpair hs hpp hh hdk hkd hbB hbox hkB hfB hpok hfby
      by_cases heq : secs dk.now (p0 + pk.no * 8) 8 = frameOf pk
      · have hsn2 := HSN.out
        rw [if_pos heq] at hsn2
        have HS2 := hid hsn2
        have hdec : decide (secs dk.now (p0 + pk.no * 8) 8 = frameOf pk) = true := by simpa using heq
        have HDE := hid hdec
        clear hsn2 HSN heq hdec
        generalize secs dk.now (p0 + pk.no * 8) 8 = SS at *
        go_wp2_with (first
          | (go_at_call 45; refine (HPL.out wB HKB.out).mono ?_; rintro e w2 ⟨rfl, hw⟩; have hw' := hw.symm; clear hw; subst hw')
          | (go_at_call 56; refine HLD.out.mono ?_; rintro e w2 ⟨v2, rfl, hown2, hb2⟩; obtain ⟨a2, c2', rfl, _⟩ := own_any hown2; have HO2 := hid hown2; have hbx2 := (hb2.block _ (lt_of_heap HBOX.out)).trans HBOX.out; have r0 := cell_of_row w2 wr.heap.size 0 _ _ _ hbx2; have r1 := cell_of_row w2 wr.heap.size 1 _ _ _ hbx2; have r2 := cell_of_row w2 wr.heap.size 2 _ _ _ hbx2; simp only [List.getElem?_toArray, List.getElem?_cons_succ, List.getElem?_cons_zero] at r0 r1 r2; have HK2 := hid (HKB.out.trans (Kd.fresh hb2 HDB.out.base_le)); have HD2 := hid (HDB.out.below hb2); have HPG2 := hid (HPGB.out.below hb2); have HFR := hid (frame_any HPO.out hnp (bs_own (own_below HSO.out hb2) HPO.out.byte (by rw [HPO.out.len]; omega)) (tab_kd HT.out hg HK2.out.below)); clear hown2 hb2 hbx2 HLD)
          | (go_at_call 68; refine HFR.out.mono ?_; rintro e w3 ⟨v3, rfl, hown3, hb3⟩; obtain ⟨a3, c3', rfl, _⟩ := own_any hown3; have HK3 := hid (HK2.out.trans (Kd.fresh hb3 HD2.out.base_le)); have HD3 := hid (HD2.out.below hb3); have HPG3 := hid (HPG2.out.below hb3); have HEQ := hid (equal_any (bs_own (own_below HO2.out hb3) (fun b hb => by have := HDE.out; have e := of_decide_eq_true this; rw [e] at hb; exact HFBY.out b hb) (by omega)) (bs_own hown3 HFBY.out (by omega))); rw [HDE.out] at HEQ; clear hown3 hb3 HFR)
          | (go_at_call 53; refine HEQ.out.mono ?_; rintro e w4 ⟨rfl, hw⟩; have hw' := hw.symm; clear hw HEQ; subst hw'))
        go_roundw
        case rel => exact ⟨k + 1, by omega, by go_num, by rw [HS2.out], by rw [HS2.out]; exact HD3.out, HK3.out, HPG3.out⟩
        case measure => simp [intOf]; omega
      · have hsn2 := HSN.out
        rw [if_neg heq] at hsn2
        have HS2 := hid hsn2
        have hdec : decide (secs dk.now (p0 + pk.no * 8) 8 = frameOf pk) = false := by simpa using heq
        have HDE := hid hdec
        have HSB := hid (secs_by (i := p0 + pk.no * 8) (k := 8) HNB.out)
        have hst0 := (storeP_live (cut64 8 (frameOf pk)) dk (p0 + pk.no * 8) hlive.1).1
        have HST0 := hid hst0
        clear hsn2 HSN heq hdec hst0
        generalize secs dk.now (p0 + pk.no * 8) 8 = SS at *
        go_wp2_with (first
          | (go_at_call 45; refine (HPL.out wB HKB.out).mono ?_; rintro e w2 ⟨rfl, hw⟩; have hw' := hw.symm; clear hw; subst hw')
          | (go_at_call 56; refine HLD.out.mono ?_; rintro e w2 ⟨v2, rfl, hown2, hb2⟩; obtain ⟨a2, c2', rfl, _⟩ := own_any hown2; have HO2 := hid hown2; have hbx2 := (hb2.block _ (lt_of_heap HBOX.out)).trans HBOX.out; have HBX2 := hid hbx2; have r0 := cell_of_row w2 wr.heap.size 0 _ _ _ hbx2; have r1 := cell_of_row w2 wr.heap.size 1 _ _ _ hbx2; have r2 := cell_of_row w2 wr.heap.size 2 _ _ _ hbx2; simp only [List.getElem?_toArray, List.getElem?_cons_succ, List.getElem?_cons_zero] at r0 r1 r2; have HK2 := hid (HKB.out.trans (Kd.fresh hb2 HDB.out.base_le)); have HD2 := hid (HDB.out.below hb2); have HPG2 := hid (HPGB.out.below hb2); have HFR := hid (frame_any HPO.out hnp (bs_own (own_below HSO.out hb2) HPO.out.byte (by rw [HPO.out.len]; omega)) (tab_kd HT.out hg HK2.out.below)); clear hown2 hb2 hbx2 HLD)
          | (go_at_call 68; refine HFR.out.mono ?_; rintro e w3 ⟨v3, rfl, hown3, hb3⟩; obtain ⟨a3, c3', rfl, _⟩ := own_any hown3; have hbx3 := (hb3.block _ (lt_of_heap HBX2.out)).trans HBX2.out; have t0 := cell_of_row w3 wr.heap.size 0 _ _ _ hbx3; simp only [List.getElem?_toArray, List.getElem?_cons_zero] at t0; have HK3 := hid (HK2.out.trans (Kd.fresh hb3 HD2.out.base_le)); have HD3 := hid (HD2.out.below hb3); have HPG3 := hid (HPG2.out.below hb3); have HEQ := hid (equal_any (bs_own (own_below HO2.out hb3) HSB.out (by omega)) (bs_own hown3 HFBY.out (by omega))); rw [HDE.out] at HEQ; have HP3 := hid (HPL.out w3 HK3.out); have HSTO := hid (store_any HD3.out (HF.out.kd HK3.out) (i := p0 + pk.no * 8) (q := 8) (own_mono hown3 (Nat.zero_le _)) HFBY.out (by omega) (by omega) (by omega) (by omega)); rw [HST0.out] at HSTO; clear hown3 hb3 HFR hbx3)
          | (go_at_call 53; refine HEQ.out.mono ?_; rintro e w4 ⟨rfl, hw⟩; have hw' := hw.symm; clear hw HEQ; subst hw')
          | (go_at_call 45; refine HP3.out.mono ?_; rintro e w4 ⟨rfl, hw⟩; have hw' := hw.symm; clear hw HP3; subst hw')
          | (go_at_call 69; refine HSTO.out.mono ?_; rintro e w5 ⟨rfl, hd5, hk5⟩; have HD5 := hid hd5; have HK5 := hid (HK3.out.trans hk5); have HPG5 := hid (HPG3.out.kd hk5); clear hd5 hk5 HSTO))
        go_roundw
        case rel => exact ⟨k + 1, by omega, by go_num, by rw [HS2.out], by rw [HS2.out]; exact HD5.out, HK5.out, HPG5.out⟩
        case measure => simp [intOf]; omega
    · have hfull : ps.take k = ps := List.take_of_length_le (by have := HL.out; omega)
      rw [hfull] at hdk hlive ⊢
      have HDK := hid hdk
      have HKD := hid hkd
      obtain ⟨cF, _, _, _⟩ := (HF.out.kd hkd).cells
      have hrp : redoP p0 d ps = if (redoL p0 d false ps).2 = true then (redoL p0 d false ps).1.flush else (redoL p0 d false ps).1 := rfl
      have HRP := hid hrp
      have HFL := hid (flush_any hdk (by omega) (by have := HL.out; omega))
      generalize (redoL p0 d false ps).2 = ch at *
      clear hdk hkd hpg hrp hfull
      cases ch with
      | true =>
        go_wp2_with (go_at_call 55; refine HFL.out.mono ?_; rintro e w5 ⟨rfl, hd5, hk5⟩; have HD5 := hid hd5; have HK5 := hid (HKD.out.trans hk5); clear hd5 hk5 HFL)
        go_ret
        refine ⟨rfl, ?_, HK5.out⟩
        rw [HRP.out]
        exact HD5.out
      | false =>
        go_wp2
        go_ret
        refine ⟨rfl, ?_, HKD.out⟩
        rw [HRP.out]
        exact HDK.out
end Go.Proofs.YtkbnjniglngjgaaGreatDoor

namespace Go.Proofs.YtkbnjniglngjgaaGreatDoor
open Go.RowKit

/-- What a call on the File in block F leaves as it was: all below base, and all that is no disk's and not that File. -/
structure Kp (base F : Nat) (w w' : World) : Prop where
  below : Below base w w'
  keep : ∀ (k : Nat) (c : Array Value) (t : TypeId) (f : Nat × Nat), w.heap[k]? = some (Obj.cells c t f) → ¬ diskT t → (t ≠ 76 ∨ k ≠ F) → w'.heap[k]? = w.heap[k]?
theorem Kp.of_kd {base F : Nat} {w w' : World} (h : Kd base w w') : Kp base F w w' := ⟨h.below, fun k c t f hk hd _ => h.keep k c t f hk (fun e => hd (.inl e)) (fun e => hd (.inr (.inl e))) (fun e => hd (.inr (.inr e)))⟩
theorem Kp.trans {base F : Nat} {a b c : World} (h : Kp base F a b) (k : Kp base F b c) : Kp base F a c :=
  ⟨h.below.trans k.below, fun i x t f hx hd hp => by
    have e := h.keep i x t f hx hd hp
    exact (k.keep i x t f (e.trans hx) hd hp).trans e⟩
theorem Kp.fresh {base F : Nat} {w w' : World} (h : Below w.heap.size w w') (hb : base ≤ w.heap.size) : Kp base F w w' := .of_kd (Kd.fresh h hb)
theorem Kp.refl (base F : Nat) (w : World) : Kp base F w w := .of_kd (Kd.refl _ _)
theorem Kp.size {base F : Nat} {w w' : World} (h : Kp base F w w') : w.heap.size ≤ w'.heap.size := h.below.size
theorem own_kp {w w' : World} {b base F : Nat} {v : Value} {n : Nat} {xs : List Value} (h : w.ownsRow b 5 1 v n xs) (hk : Kp base F w w') : w'.ownsRow b 5 1 v n xs :=
  own_same h fun k hk' => by
    obtain ⟨c, hc⟩ := own_heap h hk'
    exact hk.keep k _ _ _ hc (by unfold diskT; decide) (.inl (by decide))
theorem Pgs.kp {w w' : World} {base F : Nat} {v : Value} {ps : List Pg} (h : Pgs w v ps) (hk : Kp base F w w') : Pgs w' v ps := h.same fun k c t f h1 ht => by
  rcases ht with rfl | rfl
  · exact hk.keep k _ _ _ h1 (by unfold diskT; decide) (.inl (by decide))
  · exact hk.keep k _ _ _ h1 (by unfold diskT; decide) (.inl (by decide))
theorem PgRow.kp {w w' : World} {base b2 F : Nat} {v : Value} {ps : List Pg} (h : PgRow w base v ps) (hk : Kp b2 F w w') : PgRow w' base v ps := h.same fun k c t f h1 ht => by
  rcases ht with rfl | rfl
  · exact hk.keep k _ _ _ h1 (by unfold diskT; decide) (.inl (by decide))
  · exact hk.keep k _ _ _ h1 (by unfold diskT; decide) (.inl (by decide))
/-- Another File. -/
theorem FileIs.kp {w w' : World} {base base' F F' B p0 np : Nat} {half : Bool} (h : FileIs w base F' B p0 np half) (hk : Kp base' F w w') (hne : F' ≠ F) : FileIs w' base F' B p0 np half :=
  ⟨h.1, (hk.keep _ _ _ _ h.2 (by unfold diskT; decide) (.inr hne)).trans h.2⟩
theorem nd_pf : ¬ diskT 76 := by unfold diskT; decide
/-- The mark on the File is set. -/
theorem file_set {w : World} {base n F B p0 np : Nat} {d : Dk} {half : Bool} (hd : DiskIs w base B n d) (hf : FileIs w base F B p0 np half) (h2 : Bool) :
    FileIs (w.setCell ⟨F, 3, none⟩ (.bool h2)) base F B p0 np h2 ∧ DiskIs (w.setCell ⟨F, 3, none⟩ (.bool h2)) base B n d ∧ Kp base F w (w.setCell ⟨F, 3, none⟩ (.bool h2)) := by
  refine ⟨⟨hf.1, ?_⟩, hd.box hf.2 nd_pf _, ⟨(Below.refl base w).setCell (p := ⟨F, 3, none⟩) hf.1 _, fun k c t f hk _ hp => Below.heap_setCell w ⟨F, 3, none⟩ _ k (fun e => ?_)⟩⟩
  · rw [heap_setCell_same w F 3 _ _ _ hf.2]; rfl
  · have e' : k = F := e
    subst e'
    rw [hf.2] at hk
    injection hk with e1
    injection e1 with _ e2 _
    rcases hp with hp | hp
    · exact hp e2.symm
    · exact hp rfl

theorem settle_no {w : World} {base F B p0 np : Nat} (hf : FileIs w base F B p0 np false) :
    Calls Tryz.prog 25 #[.pointer (some ⟨F, 0, none⟩)] w fun e w' => e = .returned (.int .i64 0) ∧ w' = w := by
  obtain ⟨c0, c1, c2, c3⟩ := hf.cells
  clear hf
  go_enter Tryz.func25, Tryz.ntmps25
  go_wp2
  go_ret
  exact ⟨rfl, rfl⟩
theorem settle_yes {w : World} {base n F B p0 np : Nat} {d : Dk} (hd : DiskIs w base B n d) (hf : FileIs w base F B p0 np true) (hl : d.left = -1) (ht : TabOk w) (hg : 0 < base) (hp : p0 + np * 8 + 80 ≤ n) (hnp : np ≤ 4096) (hj : JOk d.now (p0 + np * 8) np) (hwl : d.wait.length ≤ 800000) (hwr : d.writes ≤ 800000000) :
    Calls Tryz.prog 25 #[.pointer (some ⟨F, 0, none⟩)] w fun e w' => e = .returned (.int .i64 0) ∧ DiskIs w' base B n (redoP p0 d (notedP d.now (p0 + np * 8))) ∧ FileIs w' base F B p0 np false ∧ Kp base F w w' := by
  have HR := hid (redo_any hd hf hl ht hg hp hnp hj hwl hwr)
  obtain ⟨c0, c1, c2, c3⟩ := hf.cells
  have HF := hid hf
  clear hd hf ht hj
  go_enter Tryz.func25, Tryz.ntmps25
  go_wp2_with (go_at_call 43; refine HR.out.mono ?_; rintro e w2 ⟨rfl, hd2, hk2⟩; have hf2 := HF.out.kd hk2; obtain ⟨e0, e1, e2, e3⟩ := hf2.cells; have f3 := frozen_of_row w2 F 3 _ _ hf2.2; have HS := hid (file_set hd2 hf2 false); have HK2 := hid hk2; clear hd2 hk2 hf2 HR)
  go_ret
  exact ⟨rfl, HS.out.2.1, HS.out.1, (Kp.of_kd HK2.out).trans HS.out.2.2⟩
theorem redoP_live (p0 : Nat) (ps : List Pg) (d : Dk) (h : d.left = -1) : (redoP p0 d ps).left = -1 ∧ (redoP p0 d ps).wait.length ≤ d.wait.length + 8 * ps.length ∧ (redoP p0 d ps).writes ≤ d.writes + 8 * ps.length := by
  have := redoL_live p0 ps d false h
  unfold redoP
  split
  · refine ⟨by simp [Dk.flush, burn, this.1], by simp [Dk.flush], this.2.2⟩
  · exact this
/-- Open is refused. -/
theorem open_bad {w : World} {base n B : Nat} {d : Dk} (hd : DiskIs w base B n d) {i k : Int} (hi0 : -9223372036854775808 ≤ i) (hi1 : i ≤ 9223372036854775807) (hk0 : -9223372036854775808 ≤ k) (hk1 : k ≤ 9223372036854775807) (h : ¬ (1 ≤ k ∧ k ≤ 4096 ∧ 0 ≤ i ∧ i ≤ n - (8 * k + 80))) :
    Calls Tryz.prog 12 #[.pointer (some ⟨B, 0, none⟩), .int .i64 i, .int .i64 k] w fun e w' => e = .returned (.tuple #[.pointer none, .int .i64 1]) ∧ w' = w := by
  have hn := hd.2.1
  have HSE := hid (sectors_any hd)
  clear hd
  by_cases h1 : k < 1
  · clear h
    go_enter Tryz.func12, Tryz.ntmps12
    go_wp2
    go_ret2
    exact ⟨rfl, rfl⟩
  · have d1 : decide (k < 1) = false := by simpa using h1
    by_cases h2 : 4096 < k
    · have d2 : decide ((4096 : Int) < k) = true := by simpa using h2
      clear h
      go_enter Tryz.func12, Tryz.ntmps12
      go_wp2
      go_ret2
      exact ⟨rfl, rfl⟩
    · have d2 : decide ((4096 : Int) < k) = false := by simpa using h2
      by_cases h3 : i < 0
      · have d3 : decide (i < 0) = true := by simpa using h3
        clear h
        go_enter Tryz.func12, Tryz.ntmps12
        go_wp2
        go_ret2
        exact ⟨rfl, rfl⟩
      · have d3 : decide (i < 0) = false := by simpa using h3
        have hmx : max k 1 = k := by omega
        have HNE := hid (need_any k w (by omega))
        rw [hmx] at HNE
        have d4 : decide ((n : Int) - (8 * k + 80) < i) = true := by simp; omega
        clear h hmx
        go_enter Tryz.func12, Tryz.ntmps12
        go_wp2_with (first
          | (go_at_call 24; refine HSE.out.mono ?_; rintro e w2 ⟨rfl, hw⟩; have hw' := hw.symm; clear hw HSE; subst hw')
          | (go_at_call 11; refine HNE.out.mono ?_; rintro e w2 ⟨rfl, hw⟩; have hw' := hw.symm; clear hw HNE; subst hw'))
        go_ret2
        exact ⟨rfl, rfl⟩
theorem open_good {w : World} {base n B p0 np : Nat} {d : Dk} (hd : DiskIs w base B n d) (hl : d.left = -1) (ht : TabOk w) (hg : 0 < base) (h1 : 1 ≤ np) (hnp : np ≤ 4096) (hp : p0 + np * 8 + 80 ≤ n) (hj : JOk d.now (p0 + np * 8) np)
    (hok : ∀ no, no < np → OkAt (secs (redoP p0 d (notedP d.now (p0 + np * 8))).now (p0 + no * 8) 8) no) (hwl : d.wait.length ≤ 700000) (hwr : d.writes ≤ 700000000) :
    Calls Tryz.prog 12 #[.pointer (some ⟨B, 0, none⟩), .int .i64 p0, .int .i64 np] w fun e w' => ∃ F, e = .returned (.tuple #[.pointer (some ⟨F, 0, none⟩), .int .i64 0]) ∧ w.heap.size ≤ F ∧ DiskIs w' base B n (redoP p0 d (notedP d.now (p0 + np * 8))) ∧ FileIs w' base F B p0 np false ∧ Kp base F w w' := by
  have hn := hd.2.1
  have hbase := hd.base_le
  have htk8 := hj.tk.1
  have hlive := redoP_live p0 (notedP d.now (p0 + np * 8)) d hl
  obtain ⟨wA, hwA⟩ : ∃ wA, w.alloc (.cells #[.pointer (some ⟨B, 0, none⟩), .int .i64 p0, .int .i64 np, .bool true] 76) = wA := ⟨_, rfl⟩
  have hbA : Below w.heap.size w wA := by rw [← hwA]; exact (Below.refl _ _).alloc (Nat.le_refl _) _
  have hfA : FileIs wA base w.heap.size B p0 np true := ⟨hbase, by rw [← hwA]; exact heap_new w _⟩
  have htA := ht.below hbA (Nat.le_refl _)
  have HS := hid (settle_yes (hd.below hbA) hfA hl htA hg hp hnp hj (by omega) (by omega))
  have HSE := hid (sectors_any hd)
  have HNE := hid (need_any (np : Int) w (by omega))
  have hmx : max (np : Int) 1 = (np : Int) := by omega
  rw [hmx] at HNE
  have HOK := hid hok
  have HTA := hid htA
  have HBA := hid hbA
  generalize redoP p0 d (notedP d.now (p0 + np * 8)) = dr at *
  have d1 : decide ((np : Int) < 1) = false := by simp; omega
  have d2 : decide ((4096 : Int) < (np : Int)) = false := by simp; omega
  have d3 : decide ((p0 : Int) < 0) = false := by simp
  have d4 : decide ((n : Int) - (8 * (np : Int) + 80) < (p0 : Int)) = false := by simp; omega
  clear hd ht hj hok hmx hfA htA hbA
  go_enter Tryz.func12, Tryz.ntmps12
  go_wp2_with (first
    | (go_at_call 24; refine HSE.out.mono ?_; rintro e w2 ⟨rfl, hw⟩; have hw' := hw.symm; clear hw HSE; subst hw')
    | (go_at_call 11; refine HNE.out.mono ?_; rintro e w2 ⟨rfl, hw⟩; have hw' := hw.symm; clear hw HNE; subst hw')
    | (go_at_call 25; refine HS.out.mono ?_; rintro e w2 ⟨rfl, hd2, hf2, hk2⟩; have HD2 := hid hd2; have HF2 := hid hf2; have HK2 := hid ((Kp.fresh HBA.out hbase).trans hk2); have HCH := hid (check_any hd2 hf2 (by omega) (tab_kd HTA.out hg hk2.below) (by omega) HOK.out); clear hd2 hf2 hk2 HS)
    | (go_at_call 26; refine HCH.out.mono ?_; rintro e w3 ⟨rfl, hb3⟩; have HD3 := hid (HD2.out.below hb3); have HF3 := hid (HF2.out.below hb3); have HK3 := hid (HK2.out.trans (Kp.fresh hb3 HD2.out.base_le)); clear hb3 HCH))
  go_ret2
  exact ⟨_, rfl, Nat.le_refl _, HD3.out, HF3.out, HK3.out⟩

set_option maxRecDepth 8000 in
theorem pread_any {w : World} {base n F B p0 np no : Nat} {d : Dk} (hd : DiskIs w base B n d) (hf : FileIs w base F B p0 np false) (hl : d.left ≠ 0) (ht : TabOk w) (hp : p0 + np * 8 ≤ n) (hno : no < np) (hok : OkAt (secs d.now (p0 + no * 8) 8) no) :
    Calls Tryz.prog 18 #[.pointer (some ⟨F, 0, none⟩), .int .i64 no] w fun e w' => ∃ s, e = .returned (.tuple #[.agg #[.int .i64 (fetchP (secs d.now (p0 + no * 8) 8) no).no, .int .u64 (fetchP (secs d.now (p0 + no * 8) 8) no).lsn, s], .int .i64 0]) ∧
      w'.ownsRow w.heap.size 5 1 s 480 (secV (fetchP (secs d.now (p0 + no * 8) 8) no).data) ∧ Below w.heap.size w w' := by
  obtain ⟨wA, hwA⟩ : ∃ wA, w.alloc (.cells #[.int .i64 0, .int .u64 0, .slice none 0 0] 40) = wA := ⟨_, rfl⟩
  have hbx : Below w.heap.size w wA := by rw [← hwA]; exact (Below.refl _ _).alloc (Nat.le_refl _) _
  have hres : wA.heap[w.heap.size]? = some (.cells #[.int .i64 0, .int .u64 0, .slice none 0 0] 40 (0, 0)) := by rw [← hwA]; exact heap_new w _
  have HH := hid (phas_any (hf.below hbx) (no : Int))
  have hhd : decide (0 ≤ (no : Int) ∧ (no : Int) < (np : Int)) = true := by simp; omega
  rw [hhd] at HH
  have HS := hid (settle_no (hf.below hbx))
  have HFE := hid (fetch_any (hd.below hbx) (hf.below hbx) hl (ht.below hbx (Nat.le_refl _)) hp hno hok)
  generalize fetchP (secs d.now (p0 + no * 8) 8) no = pg at *
  have HRES := hid hres
  have HBX := hid hbx
  clear hd hf hl ht hok hhd hres hbx
  go_enter Tryz.func18, Tryz.ntmps18
  go_wp2_with (first
    | (go_at_call 32; refine HH.out.mono ?_; rintro e w2 ⟨rfl, hw⟩; have hw' := hw.symm; clear hw HH; subst hw')
    | (go_at_call 25; refine HS.out.mono ?_; rintro e w2 ⟨rfl, hw⟩; have hw' := hw.symm; clear hw HS; subst hw')
    | (go_at_call 33; refine HFE.out.mono ?_; rintro e w3 ⟨s3, rfl, hown3, hb3⟩; obtain ⟨a3, c3, rfl, _⟩ := own_any hown3; have HB3 := hid (HBX.out.trans (hb3.mono HBX.out.size)); have HO3 := hid hown3; have hlt2 := lt_of_heap HRES.out; have hr2 := (hb3.block _ (lt_of_heap HRES.out)).trans HRES.out; have d0 := cell_of_row w3 w.heap.size 0 _ _ _ hr2; have d1 := cell_of_row w3 w.heap.size 1 _ _ _ hr2; have d2 := cell_of_row w3 w.heap.size 2 _ _ _ hr2; have f0 := frozen_of_row w3 w.heap.size 0 _ _ hr2; have f1 := frozen_of_row w3 w.heap.size 1 _ _ hr2; have f2 := frozen_of_row w3 w.heap.size 2 _ _ hr2; simp only [List.getElem?_toArray, List.getElem?_cons_succ, List.getElem?_cons_zero] at d0 d1 d2; clear hown3 hb3 hr2 HFE))
  refine bodyPost_ret (v := .tuple #[.agg #[.int .i64 pg.no, .int .u64 pg.lsn, .slice a3 480 c3], .int .i64 0]) (by simp [results, Tryz.results18, go_sem, d0, d1, d2]) rfl ⟨_, rfl, ?_, ?_⟩
  · exact own_mono (own_far (g := w.heap.size) (o := 0) (vs := [.int .i64 pg.no, .int .u64 pg.lsn, .slice a3 480 c3]) HO3.out hlt2) HBX.out.size
  · exact ((HB3.out.setCell (p := ⟨w.heap.size, 0, none⟩) (Nat.le_refl _) _).setCell (p := ⟨w.heap.size, 1, none⟩) (Nat.le_refl _) _).setCell (p := ⟨w.heap.size, 2, none⟩) (Nat.le_refl _) _
end Go.Proofs.YtkbnjniglngjgaaGreatDoor
