/-
  PackParts: pack.Join and the document's own Join.
-/
import Derived.Test.YtongdccpoefnlaaDoorPartsSplit
import Derived.Test.YtongdccpoefnlaaDoorPartsRef
namespace Go.Proofs.YtongdccpoefnlaaDoor
open Go.RowKit Go.PlainAid

/-- A slice of slices of bytes. -/
def Parts (w : World) (v : Value) (pss : List (List Int)) : Prop :=
  ∃ ao cap, v = .slice ao pss.length cap ∧ (1 ≤ pss.length → ∃ b off, ao = some ⟨b, off, none⟩ ∧ ∀ j, j < pss.length → ∃ u, w.cell? ⟨b, off + j, none⟩ = some u ∧ Has w u (pss.getD j []))
theorem Parts.below {w w' : World} {v : Value} {pss : List (List Int)} (h : Parts w v pss) (hb : Below w.heap.size w w') : Parts w' v pss := by
  obtain ⟨ao, cap, rfl, hc⟩ := h
  refine ⟨ao, cap, rfl, fun h1 => ?_⟩
  obtain ⟨b, off, rfl, hx⟩ := hc h1
  refine ⟨b, off, rfl, fun j hj => ?_⟩
  obtain ⟨u, hu, hh⟩ := hx j hj
  exact ⟨u, by rw [hb.cell (p := ⟨b, off + j, none⟩) (lt_of_cell hu)]; exact hu, hh.below hb⟩
theorem joinL_take {pss : List (List Int)} {k : Nat} (hk : k < pss.length) : joinL (pss.take (k + 1)) = joinL (pss.take k) ++ (uv ((pss.getD k []).length : Int) ++ pss.getD k []) := by
  rw [List.take_succ_eq_append_getElem hk, joinL_append]
  simp [joinL, hk]
theorem joinL_take_le (pss : List (List Int)) (k : Nat) : (joinL (pss.take k)).length ≤ (joinL pss).length := by
  have : joinL pss = joinL (pss.take k) ++ joinL (pss.drop k) := by rw [← joinL_append, List.take_append_drop]
  rw [this]; simp

set_option maxRecDepth 8000 in
set_option maxHeartbeats 1600000 in
theorem join_any {w : World} {v : Value} {pss : List (List Int)} (h : Parts w v pss) (hl : pss.length ≤ 1048576) (hj : (joinL pss).length + 10 ≤ 140737488355328) :
    Calls Tryd.prog 19 #[v] w fun e w' => ∃ v', e = .returned v' ∧ w'.ownsRow w.heap.size 5 1 v' (joinL pss).length ((joinL pss).map (Value.int .u8)) ∧ Below w.heap.size w w' := by
  obtain ⟨ao, cap, rfl, hc⟩ := h
  have HC := hid hc
  clear hc
  obtain ⟨len, hlen⟩ : ∃ n, n = pss.length := ⟨_, rfl⟩
  rw [← hlen] at HC hl ⊢
  have HL := hid hlen
  clear hlen
  have HJ := hid hj
  clear hj
  go_enter Tryd.func19, Tryd.ntmps19
  go_wp2
  go_loopw [3, 8] (fun o i wr => ∃ k : Nat, k ≤ len ∧ i = .int .i64 k ∧ wr.ownsRow w.heap.size 5 1 o (joinL (pss.take k)).length ((joinL (pss.take k)).map (Value.int .u8)) ∧ Below w.heap.size w wr) (fun _ i _ => len - (intOf i).toNat)
  case atStart => exact ⟨0, Nat.zero_le _, rfl, World.ownsRow_nil _ _ _ _, Below.refl _ _⟩
  case round =>
    obtain ⟨k, hk, rfl, hown, hbr⟩ := hrel
    have HO := hid hown
    clear hown
    by_cases hlt : k < len
    · obtain ⟨b, off, rfl, hx⟩ := HC.out (by omega)
      obtain ⟨u, hu, hh⟩ := hx k hlt
      clear hx
      have hu' : wr.cell? ⟨b, off + k, none⟩ = some u := by rw [hbr.cell (p := ⟨b, off + k, none⟩) (lt_of_cell hu)]; exact hu
      have hh' := hh.below hbr
      obtain ⟨au, cu, rfl, _⟩ := hh.open
      have hP : k < pss.length := by have := HL.out; omega
      have HS := hid (joinL_take hP)
      have HT := hid (joinL_take_le pss (k + 1))
      obtain ⟨p, hp⟩ : ∃ p, p = pss.getD k [] := ⟨_, rfl⟩
      rw [← hp] at HS hh hh' hu hu'
      have hpl := hh.2.1
      have hpu := uv_len (p.length : Int)
      have HH := hid hh
      clear hh hh' hu hp hP
      have hbs := hbr.size
      obtain ⟨pl, hpl'⟩ : ∃ n, n = p.length := ⟨_, rfl⟩
      rw [← hpl'] at hpl hpu HS hu' HH
      have HPL := hid hpl'
      clear hpl'
      have hA : (joinL (pss.take k)).length + ((uv (pl : Int)).length + pl) + 10 ≤ 140737488355328 := by
        have h1 := HS.out
        have h2 := HT.out
        have h3 := HJ.out
        have h4 := HPL.out
        rw [h1] at h2
        simp at h2
        omega
      have hU0 : (0 : Int) ≤ (pl : Int) := by omega
      have hU1 : (pl : Int) ≤ 18446744073709551615 := by omega
      go_wp2_with (first | (go_at_call 28; refine (appendUvar_any u3 _ _ _ wr w.heap.size hU0 hU1 HO.out hbs (by omega)).mono ?_; rintro e w2 ⟨v2, rfl, hown2, hb2⟩; have hB2 := hbr.trans hb2) | (at_builtin; refine wpList_append_has rfl (.tmp 17) (.tmp 18) rfl w.heap.size v2 _ _ rfl hown2 (.slice au pl cu) p rfl (HH.out.below hB2) (by have := HPL.out; omega) hB2.size ?_; intro v3 w3 hown3 hgrow3; have hB3 := hB2.grown hgrow3 hB2.size (own_base hown2)))
      go_roundw
      case rel =>
        refine ⟨k + 1, by omega, by go_num, ?_, hB3⟩
        rw [HS.out]
        have := hown3
        simp only [List.map_append, List.length_append, List.append_assoc, Nat.add_assoc] at this ⊢
        exact this
      case measure => simp [intOf]; omega
    · obtain rfl : k = len := by omega
      have hE : joinL (pss.take k) = joinL pss := by rw [List.take_of_length_le (by rw [HL.out]; exact Nat.le_refl _)]
      have HE := hid hE
      clear hE
      go_wp2
      go_ret
      refine ⟨_, rfl, ?_, hbr⟩
      have := HO.out
      rw [HE.out] at this
      exact this

theorem own_str {w : World} {base : Nat} {e : TypeId} {g n cap : Nat} {pss : List (List Int)} (h : w.ownsRow base e 1 (.slice (some ⟨g, 0, none⟩) n cap) n (pss.map strV)) (k : Nat) (hk : k < pss.length) : w.cell? ⟨g, k, none⟩ = some (strV (pss.getD k [])) := by
  have := h.cells (g := g) rfl k (strV (pss.getD k [])) (by simp [List.getElem?_eq_getElem hk])
  rw [Addr.add_lit, Nat.zero_add] at this
  exact this

set_option maxRecDepth 8000 in
set_option maxHeartbeats 1600000 in
theorem refJoin_any {w : World} {v : Value} {base : Nat} {pss : List (List Int)} (h : w.ownsRow base 9 1 v pss.length (pss.map strV)) (hl : pss.length ≤ 1048576) (hj : (joinL pss).length + 10 ≤ 140737488355328) :
    Calls Tryd.prog 20 #[v] w fun e w' => e = .returned (strV (joinL pss)) ∧ Below w.heap.size w w' := by
  obtain ⟨ao, cap, rfl, hcap, hf⟩ := own_any h
  have H := hid h
  clear h
  obtain ⟨len, hlen⟩ : ∃ n, n = pss.length := ⟨_, rfl⟩
  rw [← hlen] at H hl hcap hf ⊢
  have HL := hid hlen
  clear hlen
  have HJ := hid hj
  clear hj
  go_enter Tryd.func20, Tryd.ntmps20
  go_wp2
  go_loopw [3, 4] (fun o i wr => ∃ k : Nat, k ≤ len ∧ i = .int .i64 k ∧ o = strV (joinL (pss.take k)) ∧ Below w.heap.size w wr) (fun _ i _ => len - (intOf i).toNat)
  case atStart => exact ⟨0, Nat.zero_le _, rfl, rfl, Below.refl _ _⟩
  case round =>
    obtain ⟨k, hk, rfl, rfl, hbr⟩ := hrel
    by_cases hlt : k < len
    · obtain ⟨g, rfl⟩ := hf (by omega)
      have hP : k < pss.length := by have := HL.out; omega
      have HS := hid (joinL_take hP)
      have HT := hid (joinL_take_le pss (k + 1))
      have hcw := own_str H.out k hP
      have hbs := hbr.size
      obtain ⟨p, hp⟩ : ∃ p, p = pss.getD k [] := ⟨_, rfl⟩
      rw [← hp] at HS hcw
      have hcr : wr.cell? ⟨g, k, none⟩ = some (strV p) := by rw [hbr.cell (p := ⟨g, k, none⟩) (lt_of_cell hcw)]; exact hcw
      have hgl : g < wr.heap.size := lt_of_cell hcr
      clear hcw hp hP
      have hA : (joinL (pss.take k)).length + ((uv (p.length : Int)).length + p.length) + 10 ≤ 140737488355328 := by
        have h1 := HS.out
        have h2 := HT.out
        have h3 := HJ.out
        rw [h1] at h2
        simp at h2
        omega
      obtain ⟨J, hJ⟩ : ∃ J, J = joinL (pss.take k) := ⟨_, rfl⟩
      rw [← hJ] at hA HS ⊢
      have hU0 : (0 : Int) ≤ (p.length : Int) := by omega
      have hU1 : (p.length : Int) ≤ 18446744073709551615 := by omega
      have HU : Hid (∀ wx, Calls Tryd.prog 14 #[.int .u64 (p.length : Int)] wx fun e w' => e = .returned (.string (strOfNums (uv (p.length : Int)))) ∧ Below wx.heap.size wx w') := fun wx => refUvar_any _ wx hU0 hU1
      have z1 : (strOfNums J).size = J.length := strOfNums_size _
      have z2 : (strOfNums p).size = p.length := strOfNums_size _
      have z3 : (strOfNums (uv (p.length : Int))).size = (uv (p.length : Int)).length := strOfNums_size _
      have HE : Hid (strOfNums J ++ strOfNums (uv (p.length : Int)) ++ strOfNums p = strOfNums (joinL (pss.take (k + 1)))) := by
        show _ = _
        rw [strOfNums_append, strOfNums_append, HS.out, List.append_assoc]
      unfold strV
      generalize strOfNums J = sJ at *
      generalize strOfNums (uv (p.length : Int)) = sU at *
      unfold strV at hcr
      generalize strOfNums p = sp at *
      have hz : sJ.size + (sU.size + sp.size) + 10 ≤ 140737488355328 := by omega
      rw [← z2] at HU
      have hw : IntKind.u64.wrap (sp.size : Int) = (sp.size : Int) := u64_nonneg (by omega) (by omega)
      clear hA z1 z2 z3 hJ HS HT hU0 hU1
      go_upto_region 5 with fail
      go_region_with (go_at_call 14; refine (HU.out _).mono ?_; rintro e w3 ⟨rfl, hb3⟩; have hc3 : w3.cell? ⟨g, k, none⟩ = some (.string sp) := (hb3.cell (p := ⟨g, k, none⟩) hgl).trans hcr)
      all_goals
        go_wp2_with fail
        go_roundw
        case rel => exact ⟨k + 1, by omega, by go_num, by rw [← HE.out], hbr.drew.trans (hb3.mono hbs)⟩
        case measure => simp [intOf]; omega
    · obtain rfl : k = len := by omega
      have HE : Hid (joinL (pss.take k) = joinL pss) := by
        show _ = _
        rw [List.take_of_length_le (by rw [HL.out]; exact Nat.le_refl _)]
      go_wp2
      go_ret
      exact ⟨by rw [← HE.out]; rfl, hbr⟩
end Go.Proofs.YtongdccpoefnlaaDoor
