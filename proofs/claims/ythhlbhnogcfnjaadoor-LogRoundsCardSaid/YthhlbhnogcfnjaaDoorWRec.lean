/-
  Layer 4: what the law's Rec gives.
-/
import Derived.Test.YthhlbhnogcfnjaaDoorWMake
import Derived.Test.YthhlbhnogcfnjaaDoorWRead
namespace Go.Proofs.YthhlbhnogcfnjaaDoor
open Go.RowKit

/-- The bytes of Rec(n, T). -/
def recB (n k : Nat) : Int := ((n + k * 3 : Nat) : Int) % 256
def recL (n T : Nat) : List Int := (List.range T).map (recB n)
def recTo (n T k : Nat) : List Value := (List.range T).map fun i => if i < k then Value.int .u8 (recB n i) else .int .u8 0
theorem recL_len (n T : Nat) : (recL n T).length = T := by simp [recL]
theorem recL_by (n T : Nat) : By (recL n T) := fun b hb => by
  simp only [recL, List.mem_map] at hb
  obtain ⟨i, _, rfl⟩ := hb
  unfold recB
  omega
theorem recTo_zero (n T : Nat) : recTo n T 0 = (zeros T).map (Value.int .u8) := by
  apply List.ext_getElem (by simp [recTo, zeros])
  intro i h1 h2
  simp [recTo, zeros]
theorem recTo_full (n T : Nat) : recTo n T T = secV (recL n T) := by
  apply List.ext_getElem (by simp [recTo, secV, recL])
  intro i h1 h2
  have : i < T := by simpa [recTo] using h1
  simp [recTo, secV, recL, this]
theorem recTo_set (n T k : Nat) : (recTo n T k).set k (.int .u8 (recB n k)) = recTo n T (k + 1) := by
  apply List.ext_getElem (by simp [recTo])
  intro i h1 h2
  simp only [recTo, List.getElem_set, List.getElem_map, List.getElem_range]
  by_cases h : k = i
  · subst h; simp
  · by_cases h' : i < k
    · rw [if_neg h, if_pos h', if_pos (by omega)]
    · rw [if_neg h, if_neg h', if_neg (by omega)]

set_option maxRecDepth 8000 in
theorem rec_any (n T : Nat) (w : World) (hn : n ≤ 65535) (hT : T ≤ 2000) :
    Calls Tryd.prog 7 #[.int .i64 n, .int .i64 T] w fun e w' => ∃ g, e = .returned (.slice (some ⟨g, 0, none⟩) T T) ∧ w'.ownsRow w.heap.size 5 1 (.slice (some ⟨g, 0, none⟩) T T) T (secV (recL n T)) ∧ Below w.heap.size w w' := by
  have hmk := fun wx => make_bytes T (by omega) wx
  have h0 := own_made w T w.heap.size (Nat.le_refl _) (by omega)
  rw [← recTo_zero n T] at h0
  obtain ⟨Z, hZ⟩ : ∃ Z, Z = (List.replicate T (Value.int .u8 0)).toArray := ⟨_, rfl⟩
  rw [← hZ] at h0
  simp only [← hZ] at hmk
  have H0 := hid h0
  clear hZ h0
  go_enter Tryd.func7, Tryd.ntmps7
  go_wp2
  go_loopw [6, 11] (fun _ i wr => ∃ k : Nat, k ≤ T ∧ i = .int .i64 k ∧ wr.ownsRow w.heap.size 5 1 (.slice (some ⟨w.heap.size, 0, none⟩) T T) T (recTo n T k) ∧ Below w.heap.size w wr) (fun _ i _ => T - (intOf i).toNat)
  case atStart => exact ⟨0, by omega, rfl, H0.out, (Below.refl _ _).alloc (Nat.le_refl _) _⟩
  case round =>
    obtain ⟨k, hk, rfl, hown, hbr⟩ := hrel
    by_cases hlt : k < T
    · have hce := hown.cellAt k (by omega)
      have hfe := hown.frozenAt k
      obtain ⟨x, hx⟩ : ∃ x, (recTo n T k)[k]? = some x := ⟨(recTo n T k)[k]'(by simp [recTo]; omega), by simp⟩
      rw [hx] at hce
      have HO := hid hown
      have hdb : recB n k = ((n : Int) + (k : Int) * 3) % 256 := by
        unfold recB
        push_cast
        rfl
      have HDB := hid hdb
      clear hx hown hdb
      go_wp2
      go_roundw
      case rel =>
        refine ⟨k + 1, by omega, by go_num, ?_, hbr.setCell (p := ⟨w.heap.size, k, none⟩) (Nat.le_refl _) _⟩
        have := (HO.out.stored k (.int .u8 (recB n k))).1
        rw [recTo_set, HDB.out] at this
        exact this
      case measure => simp [intOf]; omega
    · obtain rfl : k = T := by omega
      rw [recTo_full] at hown
      have HO := hid hown
      clear hown
      go_wp2
      go_ret
      exact ⟨_, rfl, HO.out, hbr⟩
end Go.Proofs.YthhlbhnogcfnjaaDoor
