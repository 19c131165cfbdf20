/-
  Layer 14: the points of a way, of a ring.
-/
import Derived.Test.YtkdnkmheidbfdaaGreatMF
import Derived.Test.YtkdnkmheidbfdaaGreatMK
import Derived.Test.YtkdnkmheidbfdaaGreatMC
namespace Go.Proofs.YtkdnkmheidbfdaaGreat
open Go.RowKit Go.Sort

/-- The line of the first edge of a number. -/
def lnA (id : Int) : List ER → List (List Pp) → Option (List Pp)
  | [], _ => none
  | x :: xs, ls => if x.id = id then some (ls.getD 0 []) else lnA id xs ls.tail
/-- The points of a way. -/
def ptsF (xs : List ER) (ls : List (List Pp)) (way : Int) : List Pp :=
  match lnA way xs ls with
  | some l => l
  | none => ((lnA (-way) xs ls).getD []).reverse
/-- The points of a ring. -/
def ringPtsF (xs : List ER) (ls : List (List Pp)) (ring : List Int) : List Pp := (ring.map fun way => (ptsF xs ls way).dropLast).flatten
theorem lnA_find (id : Int) : ∀ (xs : List ER) (ls : List (List Pp)), (fstE id xs = none ∧ lnA id xs ls = none) ∨ ∃ (k : Nat) (x : ER), xs[k]? = some x ∧ fstE id xs = some x ∧ lnA id xs ls = some (ls.getD k [])
  | [], ls => .inl ⟨rfl, rfl⟩
  | x :: xs, ls => by
    unfold lnA fstE
    by_cases hx : x.id = id
    · right
      refine ⟨0, x, rfl, ?_, by rw [if_pos hx]⟩
      rw [List.find?_cons, show (x.id == id) = true by simp [hx]]
    · rw [if_neg hx, List.find?_cons, show (x.id == id) = false by simp [hx]]
      rcases lnA_find id xs ls.tail with h | ⟨k, y, h1, h2, h3⟩
      · exact .inl h
      · refine .inr ⟨k + 1, y, h1, h2, ?_⟩
        rw [h3]
        cases ls with
        | nil => rfl
        | cons l ls => rfl
/-- What edgeOf tells has the way's line, or that of the way against it. -/
theorem edge_line {w : World} {b off n : Nat} {ao : Option Addr} {xs : List ER} {ls : List (List Pp)} (h : PlE w b off n ao xs ls) (way : Int) :
    ∃ l, Src w (.slice (edgeF way xs).1.lo (edgeF way xs).1.ll (edgeF way xs).1.lc) l ∧ l.length ≤ 1000 ∧ ptsF xs ls way = if (edgeF way xs).2 then l else l.reverse := by
  unfold edgeF ptsF
  rcases lnA_find way xs ls with ⟨h1, h2⟩ | ⟨k, x, h1, h2, h3⟩
  · rw [h1, h2]
    rcases lnA_find (-way) xs ls with ⟨h3, h4⟩ | ⟨k, x, h4, h5, h6⟩
    · rw [h3, h4]
      exact ⟨[], .inl ⟨rfl, rfl⟩, Nat.zero_le _, rfl⟩
    · rw [h5, h6]
      exact ⟨_, (h.lines k x h4).1, h.short k, rfl⟩
  · rw [h2, h3]
    exact ⟨_, (h.lines k x h1).1, h.short k, rfl⟩

set_option maxRecDepth 100000 in
set_option maxHeartbeats 1600000 in
theorem points_any {w : World} {b off n cap : Nat} {ao : Option Addr} {xs : List ER} {ls : List (List Pp)} (h : PlE w b off n ao xs ls) (no : Option Addr) (nl nc : Nat) (way : Int) (hw0 : -9223372036854775807 ≤ way) (hw1 : way ≤ 9223372036854775807) :
    Calls Tryz.prog 149 #[plV (.slice no nl nc) (.slice ao n cap), .int .i64 way] w fun e w' => (∃ u, e = .returned u ∧ Src w' u (ptsF xs ls way)) ∧ Below w.heap.size w w' := by
  have hfew := h.few
  have HF := hid (fun W (hW : Below w.heap.size w W) => edgeOf_any (cap := cap) h.len (by omega) (h.cells.belowAll hW) h.at' no nl nc way hw0 hw1)
  obtain ⟨l, hl, hll, hpt⟩ := edge_line h way
  rw [hpt]
  rcases hf : edgeF way xs with ⟨x, t⟩
  rw [hf] at HF hl
  dsimp only at hl
  have HL := hid (And.intro hl hll)
  obtain ⟨wA, hwA⟩ : ∃ wA, w.alloc (.cells #[.slice no nl nc, .slice ao n cap] 32) = wA := ⟨_, rfl⟩
  have hbA : Below w.heap.size w wA := by rw [← hwA]; exact (Below.refl _ w).alloc (Nat.le_refl _) _
  have hhA : wA.heap[w.heap.size]? = some (.cells #[.slice no nl nc, .slice ao n cap] 32) := by rw [← hwA]; unfold World.alloc; simp
  have c0 : wA.cell? ⟨w.heap.size, 0, none⟩ = some (.slice no nl nc) := by simp [World.cell?, hhA]
  have c1 : wA.cell? ⟨w.heap.size, 1, none⟩ = some (.slice ao n cap) := by simp [World.cell?, hhA]
  have HBA := hid hbA
  clear h hf hbA hhA hl hll hpt
  rcases t with _ | _
  · go_enter Tryz.func149, Tryz.ntmps149
    go_wp2_with (first
      | (go_at_call 121; refine (HF.out _ HBA.out).mono ?_; rintro e w1 ⟨rfl, hb1⟩; obtain ⟨w2, hw2⟩ : ∃ w2, w1.alloc (.cells #[.int .i64 x.id, .int .i64 x.st, .int .i64 x.en, .slice x.lo x.ll x.lc, .int .i64 x.lf, .int .i64 x.rt] 29) = w2 := ⟨_, rfl⟩; have hb2 : Below w1.heap.size w1 w2 := (by rw [← hw2]; exact (Below.refl _ w1).alloc (Nat.le_refl _) _); obtain ⟨r0, r1, r2, r3, r4, r5⟩ : EAt w2 w1.heap.size 0 x := (by rw [← hw2]; exact ebox w1 x _); have HB1 := hid (HBA.out.trans (hb1.mono HBA.out.size)); have HB2 := hid (HB1.out.trans (hb2.mono HB1.out.size)); clear hb1 hb2 HF)
      | (go_at_call 74; refine (lineReverse_any _ l _ (HL.out.1.below HB2.out) (by have := HL.out.2; omega)).mono ?_; rintro e w3 ⟨⟨u, rfl, hu⟩, hb3⟩; have HU := hid (And.intro hu (HB2.out.trans (hb3.mono HB2.out.size))); clear hu hb3))
    go_ret
    exact ⟨⟨_, rfl, HU.out.1⟩, HU.out.2⟩
  · go_enter Tryz.func149, Tryz.ntmps149
    go_wp2_with (first
      | (go_at_call 121; refine (HF.out _ HBA.out).mono ?_; rintro e w1 ⟨rfl, hb1⟩; obtain ⟨w2, hw2⟩ : ∃ w2, w1.alloc (.cells #[.int .i64 x.id, .int .i64 x.st, .int .i64 x.en, .slice x.lo x.ll x.lc, .int .i64 x.lf, .int .i64 x.rt] 29) = w2 := ⟨_, rfl⟩; have hb2 : Below w1.heap.size w1 w2 := (by rw [← hw2]; exact (Below.refl _ w1).alloc (Nat.le_refl _) _); obtain ⟨r0, r1, r2, r3, r4, r5⟩ : EAt w2 w1.heap.size 0 x := (by rw [← hw2]; exact ebox w1 x _); have HB1 := hid (HBA.out.trans (hb1.mono HBA.out.size)); have HB2 := hid (HB1.out.trans (hb2.mono HB1.out.size)); clear hb1 hb2 HF)
      | (go_at_call 39; refine (clone_any _ l _ (HL.out.1.below HB2.out) (by have := HL.out.2; omega)).mono ?_; rintro e w3 ⟨⟨u, rfl, hu⟩, hb3⟩; have HU := hid (And.intro hu.src (HB2.out.trans (hb3.mono HB2.out.size))); clear hu hb3))
    go_ret
    exact ⟨⟨_, rfl, HU.out.1⟩, HU.out.2⟩
end Go.Proofs.YtkdnkmheidbfdaaGreat

namespace Go.Proofs.YtkdnkmheidbfdaaGreat
open Go.RowKit Go.Sort

theorem ringPtsF_snoc (xs : List ER) (ls : List (List Pp)) (r : List Int) (k : Int) : ringPtsF xs ls (r ++ [k]) = ringPtsF xs ls r ++ (ptsF xs ls k).dropLast := by
  unfold ringPtsF
  rw [List.map_append, List.flatten_append]
  simp
theorem ptsF_len {w : World} {b off n : Nat} {ao : Option Addr} {xs : List ER} {ls : List (List Pp)} (h : PlE w b off n ao xs ls) (way : Int) : (ptsF xs ls way).length ≤ 1000 := by
  obtain ⟨l, _, h2, h3⟩ := edge_line h way
  rw [h3]
  split
  · exact h2
  · rw [List.length_reverse]; exact h2
theorem ringPtsF_len {w : World} {b off n : Nat} {ao : Option Addr} {xs : List ER} {ls : List (List Pp)} (h : PlE w b off n ao xs ls) : ∀ r : List Int, (ringPtsF xs ls r).length ≤ r.length * 1000
  | [] => Nat.zero_le _
  | k :: r => by
    have h1 := ptsF_len h k
    have h2 := ringPtsF_len h r
    unfold ringPtsF at h2 ⊢
    rw [List.map_cons, List.flatten_cons, List.length_append, List.length_dropLast, List.length_cons, Nat.succ_mul]
    omega
/-- All but the last of a row of points. -/
theorem Src.last {w : World} {u : Value} {ps : List Pp} (h : Src w u ps) : ∃ (ua : Option Addr) (uc : Nat), u = .slice ua ps.length uc ∧ ps.length ≤ uc ∧ Src w (.slice ua (ps.length - 1) uc) ps.dropLast := by
  rcases h with ⟨rfl, rfl⟩ | ⟨b, off, cap, rfl, hc, hp⟩
  · exact ⟨none, 0, rfl, Nat.le_refl _, .inl ⟨rfl, rfl⟩⟩
  · refine ⟨_, cap, rfl, hc, ?_⟩
    rw [List.dropLast_eq_take]
    exact Src.take (.inr ⟨b, off, cap, rfl, hc, hp⟩) (Nat.sub_le _ _)

set_option maxRecDepth 100000 in
set_option maxHeartbeats 3200000 in
theorem ringPoints_any {w : World} {b off n cap : Nat} {ao : Option Addr} {xs : List ER} {ls : List (List Pp)} (h : PlE w b off n ao xs ls) (no : Option Addr) (nl nc : Nat) {v : Value} {r : List Int} (hv : Nums w v r) (hrl : r.length ≤ 900) (hrb : ∀ k ∈ r, -1000000 ≤ k ∧ k ≤ 1000000) :
    Calls Tryz.prog 118 #[plV (.slice no nl nc) (.slice ao n cap), v] w fun e w' => (∃ u, e = .returned u ∧ PtRow w' w.heap.size u (ringPtsF xs ls r)) ∧ Below w.heap.size w w' := by
  have HPT := hid (fun W (hW : Below w.heap.size w W) way (h0 : -1000000 ≤ way ∧ way ≤ 1000000) => points_any (cap := cap) (h.below hW) no nl nc way (by omega) (by omega))
  have HLEN := hid (fun way => ptsF_len h way)
  have HRL := hid (fun r => ringPtsF_len h r)
  obtain ⟨ra, rc, rfl, hcl⟩ := hv
  obtain ⟨N, hN⟩ : ∃ N, r.length = N := ⟨_, rfl⟩
  rw [hN] at hcl hrl ⊢
  obtain ⟨wA, hwA⟩ : ∃ wA, w.alloc (.cells #[.slice no nl nc, .slice ao n cap] 32) = wA := ⟨_, rfl⟩
  have hbA : Below w.heap.size w wA := by rw [← hwA]; exact (Below.refl _ w).alloc (Nat.le_refl _) _
  have hhA : wA.heap[w.heap.size]? = some (.cells #[.slice no nl nc, .slice ao n cap] 32 (0, 0)) := by rw [← hwA]; exact World.alloc_heap_new w _
  have HA := hid (And.intro hbA hhA)
  have HCL := hid hcl
  have HN := hid hN
  have HRB := hid hrb
  clear h hbA hhA hcl hN hrb
  go_enter Tryz.func118, Tryz.ntmps118
  go_wp2
  go_loopw [5, 7, 8, 11] (fun lv _ _ iv wr => ∃ i : Nat, i ≤ N ∧ iv = .int .i64 (i : Int) ∧ PtRow wr wA.heap.size lv (ringPtsF xs ls (r.take i)) ∧ Below wA.heap.size wA wr) (fun _ _ _ iv _ => N - (intOf iv).toNat)
  case atStart => exact ⟨0, Nat.zero_le _, rfl, PtRow.nil _ _, Below.refl _ _⟩
  case round =>
    obtain ⟨i, hi, rfl, hrow, hbr2⟩ := hrel
    have hbr : Below w.heap.size w wr := HA.out.1.trans (hbr2.mono HA.out.1.size)
    have hsA : w.heap.size < wA.heap.size := lt_of_heap HA.out.2
    have hh := (hbr2.block _ hsA).trans HA.out.2
    have c0 : wr.cell? ⟨w.heap.size, 0, none⟩ = some (.slice no nl nc) := by simp [World.cell?, hh]
    have c1 : wr.cell? ⟨w.heap.size, 1, none⟩ = some (.slice ao n cap) := by simp [World.cell?, hh]
    by_cases hlt : i < N
    · have hltI : (i : Int) < (N : Int) := by omega
      obtain ⟨k, hk⟩ : ∃ k, r[i]? = some k := ⟨r[i]'(by have := HN.out; omega), by rw [List.getElem?_eq_getElem]⟩
      obtain ⟨rb, ro, rfl, hc⟩ := HCL.out (by omega)
      have x0 := cell_below (hc i k hk) hbr (lt_of_cell (hc i k hk))
      have hkb := HRB.out k (List.mem_of_getElem? hk)
      have HTK := hid (show ringPtsF xs ls (r.take (i + 1)) = ringPtsF xs ls (r.take i) ++ (ptsF xs ls k).dropLast by rw [List.take_add_one, hk]; exact ringPtsF_snoc xs ls (r.take i) k)
      have hpl := HLEN.out k
      have hrl2 := HRL.out (r.take i)
      rw [List.length_take] at hrl2
      have HP1 := hid (HPT.out wr hbr k hkb)
      obtain ⟨ps, hps⟩ : ∃ ps, ptsF xs ls k = ps := ⟨_, rfl⟩
      rw [hps] at HTK HP1 hpl
      have HPL := hid hpl
      obtain ⟨M, hM⟩ : ∃ M, ps.length = M := ⟨_, rfl⟩
      have HM := hid hM
      have HB := hid (And.intro hrow (And.intro hbr hbr2))
      have HSZ := hid (show (ringPtsF xs ls (r.take i)).length + ps.dropLast.length ≤ 1000000 by rw [List.length_dropLast]; have : min i r.length * 1000 ≤ 900 * 1000 := Nat.mul_le_mul (by have := HN.out; omega) (Nat.le_refl _); omega)
      clear hrow hbr hbr2 hc hk hkb hpl hrl2 hps hM hh hsA
      by_cases hM0 : M = 0
      · subst hM0
        go_wp2_with (first
          | (go_at_call 149; refine HP1.out.mono ?_; rintro e w1 ⟨⟨u, rfl, hu⟩, hb1⟩; obtain ⟨ua, uc, rfl, hle, hsr⟩ := Src.last hu; rw [HM.out] at hle hsr ⊢; obtain ⟨v', w2, hrun, hrow2, hb2, _⟩ := (PtRow.below HB.out.1 hb1).add hsr (by have := HB.out.2.2.size; have := hb1.size; omega) HSZ.out; have HRUN := hid hrun; have HR2 := hid (And.intro hrow2 (And.intro (hb1) hb2)); clear hrun hrow2 hu hsr hb1 hb2 HP1)
          | (at_builtin; refine wpList_append_run rfl (.tmp 18) (.tmp 24) 27 rfl rfl rfl HRUN.out ?_; clear HRUN))
        go_roundw
        case rel => exact ⟨i + 1, by omega, by go_num, (by rw [HTK.out]; exact HR2.out.1), (HB.out.2.2.trans (HR2.out.2.1.mono HB.out.2.2.size)).trans HR2.out.2.2⟩
        case measure => simp [intOf]; omega
      · obtain ⟨K, rfl⟩ : ∃ K, M = K + 1 := ⟨M - 1, by omega⟩
        obtain ⟨M, hMK⟩ : ∃ M, K + 1 = M := ⟨_, rfl⟩
        have hMI : (M : Int) - 1 = (K : Int) := by omega
        have hMw : IntKind.i64.wrap ((M : Int) - 1) = (K : Int) := by rw [hMI, IntKind.wrap_i64]; have := HM.out; have := HPL.out; omega
        have hK0 : ¬ (K : Int) < 0 := by omega
        have hK0' : (0 : Int) ≤ (K : Int) := by omega
        have hKm : M - 1 = K := by omega
        rw [hMK] at HM
        have HKM := hid (And.intro hMK hKm)
        clear hMK hKm hM0 hMI
        go_wp2_with (first
          | (go_at_call 149; refine HP1.out.mono ?_; rintro e w1 ⟨⟨u, rfl, hu⟩, hb1⟩; obtain ⟨ua, uc, rfl, hle, hsr⟩ := Src.last hu; rw [HM.out] at hle hsr ⊢; rw [HKM.out.2] at hsr; have hKu : K ≤ uc := (by have := HKM.out.1; omega); obtain ⟨v', w2, hrun, hrow2, hb2, _⟩ := (PtRow.below HB.out.1 hb1).add hsr (by have := HB.out.2.2.size; have := hb1.size; omega) HSZ.out; have HRUN := hid hrun; have HR2 := hid (And.intro hrow2 (And.intro (hb1) hb2)); clear hrun hrow2 hu hsr hb1 hb2 HP1 hle)
          | (at_builtin; refine wpList_append_run rfl (.tmp 18) (.tmp 24) 27 rfl rfl rfl HRUN.out ?_; clear HRUN))
        go_roundw
        case rel => exact ⟨i + 1, by omega, by go_num, (by rw [HTK.out]; exact HR2.out.1), (HB.out.2.2.trans (HR2.out.2.1.mono HB.out.2.2.size)).trans HR2.out.2.2⟩
        case measure => simp [intOf]; omega
    · have hltI : ¬ (i : Int) < (N : Int) := by omega
      obtain rfl : i = N := by omega
      have HQ := hid (And.intro hrow hbr)
      clear hrow hbr hbr2
      go_wp2
      go_ret
      refine ⟨⟨_, rfl, ?_⟩, HQ.out.2⟩
      have q := HQ.out.1.base HA.out.1.size
      rw [List.take_of_length_le (by rw [HN.out]; exact Nat.le_refl _)] at q
      exact q
end Go.Proofs.YtkdnkmheidbfdaaGreat

namespace Go.Proofs.YtkdnkmheidbfdaaGreat
open Go.RowKit Go.Shelf Go.Sort

theorem ecs_app : ∀ a b : List ER, ecs (a ++ b) = ecs a ++ ecs b
  | [], _ => rfl
  | x :: a, b => by rw [List.cons_append, ecs, ecs, ecs_app a b, List.append_assoc]
theorem infoNd : (Tryz.prog.info? 25).map (fun i => (i.zero, i.size, i.bytes)) = some (some (.agg #[.int .i64 0, .int .i64 0, .int .i64 0, .int .i64 0]), 4, 32) := by kernel_rfl
/-- Where a row owned by the call lies, if anywhere. -/
theorem own_block {w : World} {base : Nat} {e : TypeId} {s : Nat} {v : Value} {n : Nat} {xs : List Value} (h : w.ownsRow base e s v n xs) : ∀ g, v.ownBlock = some g → base ≤ g ∧ ∃ c, w.heap[g]? = some (.cells c e (0, 0)) := fun g hg => by
  rcases h.2 with ⟨rfl, _⟩ | ⟨g', cp, cur, rfl, h2, h3, _⟩
  · cases hg
  · cases hg
    exact ⟨h2, _, h3⟩
theorem own_form {w : World} {base : Nat} {e : TypeId} {s : Nat} {v : Value} {n : Nat} {xs : List Value} (h : w.ownsRow base e s v n xs) : ∃ ao cap, v = .slice ao n cap := by
  rcases h.2 with ⟨rfl, h0⟩ | ⟨g, cap, cur, rfl, _⟩
  · exact ⟨none, 0, by rw [h0]⟩
  · exact ⟨_, cap, rfl⟩
theorem own_keep {w w' : World} {base : Nat} {e : TypeId} {s : Nat} {v : Value} {n : Nat} {xs : List Value} (h : w.ownsRow base e s v n xs) (hk : ∀ (k : Nat) (c : Array Value), w.heap[k]? = some (.cells c e (0, 0)) → w'.heap[k]? = w.heap[k]?) : w'.ownsRow base e s v n xs := by
  refine ⟨h.1, ?_⟩
  rcases h.2 with h0 | ⟨g, cap, cur, h1, h2, h3, h4⟩
  · exact .inl h0
  · exact .inr ⟨g, cap, cur, h1, h2, (hk _ _ h3).trans h3, h4⟩
theorem node_snoc {w : World} {base : Nat} {v : Value} {n : Nat} {cs : List Value} (h : w.ownsRow base 25 4 v n cs) (hb : base ≤ w.heap.size) (hl : n ≤ 1000000) (a b c d : Int) :
    ∃ ao cap w', (Builtin.append_ #[26, 26] 26 #[v, .slice (some ⟨w.heap.size, 0, none⟩) 1 1]).run Tryz.prog (w.alloc (.cells #[.int .i64 a, .int .i64 b, .int .i64 c, .int .i64 d] 25)) = .ok (.slice ao (n + 1) cap) w' ∧
      w'.ownsRow base 25 4 (.slice ao (n + 1) cap) (n + 1) (cs ++ [.int .i64 a, .int .i64 b, .int .i64 c, .int .i64 d]) ∧ (w.alloc (.cells #[.int .i64 a, .int .i64 b, .int .i64 c, .int .i64 d] 25)).grownBy w' v.ownBlock := by
  obtain ⟨i0, hi, hz0, hz1, hz2⟩ := info_parts infoNd
  obtain ⟨wA, hwA⟩ : ∃ wA, wA = w.alloc (.cells #[.int .i64 a, .int .i64 b, .int .i64 c, .int .i64 d] 25) := ⟨_, rfl⟩
  have hbA : Below w.heap.size w wA := by rw [hwA]; exact (Below.refl _ _).alloc (Nat.le_refl _) _
  have hP : wA.heap[w.heap.size]? = some (.cells #[.int .i64 a, .int .i64 b, .int .i64 c, .int .i64 d] 25) := by rw [hwA]; unfold World.alloc; simp
  have h2 : wA.ownsRow base 25 4 v n cs := own_keep h fun k _ hk => hbA.block k (lt_of_heap hk)
  obtain ⟨v', w', hrun, r1, r2, _, r4⟩ := run_append_own_at (P := Tryz.prog) wA base 26 26 25 i0 _ 4 32 Tryz.underlying26 hi hz0 hz1 hz2 rfl (by decide) v n _ h2 ⟨w.heap.size, 0, none⟩ 1 1 [.int .i64 a, .int .i64 b, .int .i64 c, .int .i64 d] rfl
    (fun j u hj => by
      match j, hj with
      | 0, hj => simp at hj; subst hj; rw [addr_add]; simp [World.cell?, hP]
      | 1, hj => simp at hj; subst hj; rw [addr_add]; simp [World.cell?, hP]
      | 2, hj => simp at hj; subst hj; rw [addr_add]; simp [World.cell?, hP]
      | 3, hj => simp at hj; subst hj; rw [addr_add]; simp [World.cell?, hP]
      | j + 4, hj => simp at hj) (by intro u hu'; simp at hu'; rcases hu' with rfl | rfl | rfl | rfl <;> rfl) (by unfold maxLen; omega) (by omega) (by rw [hwA]; simp; omega)
  obtain ⟨ao, cap, rfl⟩ := own_form r1
  rw [← hwA]
  exact ⟨ao, cap, w', hrun, r1, r2⟩
theorem edge_snoc {w : World} {base : Nat} {v : Value} {xs : List ER} (h : w.ownsRow base 29 6 v xs.length (ecs xs)) (hb : base ≤ w.heap.size) (hl : xs.length ≤ 1000000) (x : ER) :
    ∃ ao cap w', (Builtin.append_ #[30, 30] 30 #[v, .slice (some ⟨w.heap.size, 0, none⟩) 1 1]).run Tryz.prog (w.alloc (.cells #[.int .i64 x.id, .int .i64 x.st, .int .i64 x.en, .slice x.lo x.ll x.lc, .int .i64 x.lf, .int .i64 x.rt] 29)) = .ok (.slice ao (xs.length + 1) cap) w' ∧
      w'.ownsRow base 29 6 (.slice ao (xs.length + 1) cap) (xs ++ [x]).length (ecs (xs ++ [x])) ∧ (w.alloc (.cells #[.int .i64 x.id, .int .i64 x.st, .int .i64 x.en, .slice x.lo x.ll x.lc, .int .i64 x.lf, .int .i64 x.rt] 29)).grownBy w' v.ownBlock := by
  obtain ⟨i0, hi, hz0, hz1, hz2⟩ := info_parts infoEd
  obtain ⟨wA, hwA⟩ : ∃ wA, wA = w.alloc (.cells #[.int .i64 x.id, .int .i64 x.st, .int .i64 x.en, .slice x.lo x.ll x.lc, .int .i64 x.lf, .int .i64 x.rt] 29) := ⟨_, rfl⟩
  have hbA : Below w.heap.size w wA := by rw [hwA]; exact (Below.refl _ _).alloc (Nat.le_refl _) _
  have hE : EAt wA w.heap.size 0 x := by rw [hwA]; exact ebox w x _
  obtain ⟨e0, e1, e2, e3, e4, e5⟩ := hE
  have h2 : wA.ownsRow base 29 6 v xs.length (ecs xs) := own_keep h fun k _ hk => hbA.block k (lt_of_heap hk)
  obtain ⟨v', w', hrun, r1, r2, _, r4⟩ := run_append_own_at (P := Tryz.prog) wA base 30 30 29 i0 _ 6 64 Tryz.underlying30 hi hz0 hz1 hz2 rfl (by decide) v xs.length _ h2 ⟨w.heap.size, 0, none⟩ 1 1 x.cs rfl
    (fun j u hj => by
      match j, hj with
      | 0, hj => simp [ER.cs] at hj; subst hj; rw [addr_add]; exact e0
      | 1, hj => simp [ER.cs] at hj; subst hj; rw [addr_add]; exact e1
      | 2, hj => simp [ER.cs] at hj; subst hj; rw [addr_add]; exact e2
      | 3, hj => simp [ER.cs] at hj; subst hj; rw [addr_add]; exact e3
      | 4, hj => simp [ER.cs] at hj; subst hj; rw [addr_add]; exact e4
      | 5, hj => simp [ER.cs] at hj; subst hj; rw [addr_add]; exact e5
      | j + 6, hj => simp [ER.cs] at hj) (by intro u hu'; simp [ER.cs] at hu'; rcases hu' with rfl | rfl | rfl | rfl | rfl | rfl <;> rfl) (by unfold maxLen; omega) (by omega) (by rw [hwA]; simp; omega)
  obtain ⟨ao, cap, rfl⟩ := own_form r1
  rw [← hwA]
  refine ⟨ao, cap, w', hrun, ?_, r2⟩
  rw [List.length_append, ecs_app]
  show w'.ownsRow base _ 6 _ (xs.length + 1) (ecs xs ++ (x.cs ++ []))
  rw [List.append_nil]
  exact r1

/-- A plan under way: its box, its nodes, its edges, each one's line in a block of its own. -/
structure PlB (w : World) (Bp : Nat) (nv ev : Value) (nn : Nat) (xs : List ER) (ls : List (List Pp)) (W : World) : Prop where
  box : W.heap[Bp]? = some (.cells #[nv, ev] 32 (0, 0))
  nodes : ∃ cs, W.ownsRow w.heap.size 25 4 nv nn cs
  edges : W.ownsRow w.heap.size 29 6 ev xs.length (ecs xs)
  lines : ∀ (k : Nat) (x : ER), xs[k]? = some x → ∃ g, x.lo = some ⟨g, 0, none⟩ ∧ x.ll = (ls.getD k []).length ∧ x.lc = x.ll ∧ W.heap[g]? = some (.cells (ptCells (ls.getD k [])).toArray 23 (0, 0))
  len : ls.length = xs.length
  enil : xs = [] → ev = .slice none 0 0
  below : Below w.heap.size w W
theorem PlB.fresh {w W W' : World} {Bp : Nat} {nv ev : Value} {nn : Nat} {xs : List ER} {ls : List (List Pp)} (h : PlB w Bp nv ev nn xs ls W) (hb : Below W.heap.size W W') : PlB w Bp nv ev nn xs ls W' := by
  obtain ⟨cs, hc⟩ := h.nodes
  refine ⟨(hb.block _ (lt_of_heap h.box)).trans h.box, ⟨cs, own_keep hc fun k _ hk => hb.block k (lt_of_heap hk)⟩, own_keep h.edges fun k _ hk => hb.block k (lt_of_heap hk), fun k x hx => ?_, h.len, h.enil, h.below.trans (hb.mono h.below.size)⟩
  obtain ⟨g, l1, l2, l3, l4⟩ := h.lines k x hx
  exact ⟨g, l1, l2, l3, (hb.block _ (lt_of_heap l4)).trans l4⟩
/-- A box of two slices whose first is set. -/
theorem box2_set0 {W : World} {b : Nat} {u v x : Value} {t : TypeId} (h : W.heap[b]? = some (.cells #[u, v] t (0, 0))) : (W.setCell ⟨b, 0, none⟩ x).heap[b]? = some (.cells #[x, v] t (0, 0)) := by
  rw [heap_setCell_same W b 0 _ _ _ h]
  rfl
theorem box2_set1 {W : World} {b : Nat} {u v x : Value} {t : TypeId} (h : W.heap[b]? = some (.cells #[u, v] t (0, 0))) : (W.setCell ⟨b, 1, none⟩ x).heap[b]? = some (.cells #[u, x] t (0, 0)) := by
  rw [heap_setCell_same W b 1 _ _ _ h]
  rfl
theorem grownBy_setCell1 (w : World) (b i : Nat) (v : Value) : w.grownBy (w.setCell ⟨b, i, none⟩ v) (some b) := by
  refine ⟨rfl, rfl, rfl, by simp, fun k _ hne => ?_⟩
  exact RowKit.Below.heap_setCell _ _ _ _ (fun e => hne (congrArg some e))

set_option maxRecDepth 100000 in
/-- A node more. -/
theorem PlB.addNode {w W : World} {Bp : Nat} {nv ev : Value} {nn : Nat} {xs : List ER} {ls : List (List Pp)} (h : PlB w Bp nv ev nn xs ls W) (hw : w.heap.size ≤ Bp) (hl : nn ≤ 1000000) (a b c d : Int) :
    ∃ ao cap W1, (Builtin.append_ #[26, 26] 26 #[nv, .slice (some ⟨W.heap.size, 0, none⟩) 1 1]).run Tryz.prog (W.alloc (.cells #[.int .i64 a, .int .i64 b, .int .i64 c, .int .i64 d] 25)) = .ok (.slice ao (nn + 1) cap) W1 ∧ W1.heap[Bp]? = W.heap[Bp]? ∧
      PlB w Bp (.slice ao (nn + 1) cap) ev (nn + 1) xs ls (W1.setCell ⟨Bp, 0, none⟩ (.slice ao (nn + 1) cap)) ∧ (∀ (k : Nat) (c : Array Value) (t : TypeId), W.heap[k]? = some (.cells c t (0, 0)) → t ≠ 25 → t ≠ 32 → (W1.setCell ⟨Bp, 0, none⟩ (.slice ao (nn + 1) cap)).heap[k]? = some (.cells c t (0, 0))) := by
  obtain ⟨cs, hn⟩ := h.nodes
  obtain ⟨ao, cap, W1, hrun, hrow, hgr⟩ := node_snoc hn h.below.size hl a b c d
  have hown := own_block hn
  refine ⟨ao, cap, W1, hrun, ?_⟩
  generalize hV : Value.slice ao (nn + 1) cap = V at hrun hrow ⊢
  have hA : ∀ k, k < W.heap.size → (W.alloc (.cells #[.int .i64 a, .int .i64 b, .int .i64 c, .int .i64 d] 25)).heap[k]? = W.heap[k]? := fun k hk => ((Below.refl _ W).alloc (Nat.le_refl _) _).block k hk
  have h1 : ∀ (k : Nat) (c : Array Value) (t : TypeId), W.heap[k]? = some (.cells c t (0, 0)) → t ≠ 25 → W1.heap[k]? = some (.cells c t (0, 0)) := fun k c t ho ht => by
    refine (hgr.block k (by have := lt_of_heap ho; simp; omega) (fun e => ?_)).trans ((hA k (lt_of_heap ho)).trans ho)
    obtain ⟨_, c', hc'⟩ := hown k e.symm
    rw [ho] at hc'
    injection hc' with hc'
    injection hc' with _ e2 _
    exact ht e2
  have hb1 := h1 _ _ _ h.box (by decide)
  have h2 : ∀ (k : Nat) (c : Array Value) (t : TypeId), W1.heap[k]? = some (.cells c t (0, 0)) → t ≠ 32 → (W1.setCell ⟨Bp, 0, none⟩ V).heap[k]? = some (.cells c t (0, 0)) := fun k c t ho ht => by
    refine ((grownBy_setCell1 W1 Bp 0 V).block k (lt_of_heap ho) (fun e => ?_)).trans ho
    injection e with e
    subst e
    rw [hb1] at ho
    injection ho with ho
    injection ho with _ e2 _
    exact ht e2.symm
  have hbel : Below w.heap.size w (W1.setCell ⟨Bp, 0, none⟩ V) := by
    have q1 : Below w.heap.size w (W.alloc (.cells #[.int .i64 a, .int .i64 b, .int .i64 c, .int .i64 d] 25)) := h.below.trans (((Below.refl _ W).alloc (Nat.le_refl _) _).mono h.below.size)
    have q2 := q1.grown hgr q1.size (fun k e => (hown k e).1)
    exact q2.grown (grownBy_setCell1 W1 Bp 0 V) q2.size (fun k e => by injection e with e; omega)
  refine ⟨hb1.trans h.box.symm, ⟨box2_set0 hb1, ⟨_, own_keep hrow fun k c hk => (h2 k c _ hk (by decide)).trans hk.symm⟩, own_keep h.edges fun k c hk => (h2 k c _ (h1 k c _ hk (by decide)) (by decide)).trans hk.symm, fun k x hx => ?_, h.len, h.enil, hbel⟩, fun k c t hk t1 t2 => h2 k c t (h1 k c t hk t1) t2⟩
  obtain ⟨g, l1, l2, l3, l4⟩ := h.lines k x hx
  exact ⟨g, l1, l2, l3, h2 _ _ _ (h1 _ _ _ l4 (by decide)) (by decide)⟩

set_option maxRecDepth 100000 in
/-- An edge more, its line in a block that is there. -/
theorem PlB.addEdge {w W : World} {Bp : Nat} {nv ev : Value} {nn : Nat} {xs : List ER} {ls : List (List Pp)} (h : PlB w Bp nv ev nn xs ls W) (hw : w.heap.size ≤ Bp) (hl : xs.length ≤ 1000000) (x : ER) (l : List Pp) {g : Nat} (x1 : x.lo = some ⟨g, 0, none⟩) (x2 : x.ll = l.length) (x3 : x.lc = x.ll) (x4 : W.heap[g]? = some (.cells (ptCells l).toArray 23 (0, 0))) :
    ∃ ao cap W1, (Builtin.append_ #[30, 30] 30 #[ev, .slice (some ⟨W.heap.size, 0, none⟩) 1 1]).run Tryz.prog (W.alloc (.cells #[.int .i64 x.id, .int .i64 x.st, .int .i64 x.en, .slice x.lo x.ll x.lc, .int .i64 x.lf, .int .i64 x.rt] 29)) = .ok (.slice ao (xs.length + 1) cap) W1 ∧ W1.heap[Bp]? = W.heap[Bp]? ∧
      PlB w Bp nv (.slice ao (xs.length + 1) cap) nn (xs ++ [x]) (ls ++ [l]) (W1.setCell ⟨Bp, 1, none⟩ (.slice ao (xs.length + 1) cap)) ∧ (∀ (k : Nat) (c : Array Value) (t : TypeId), W.heap[k]? = some (.cells c t (0, 0)) → t ≠ 29 → t ≠ 32 → (W1.setCell ⟨Bp, 1, none⟩ (.slice ao (xs.length + 1) cap)).heap[k]? = some (.cells c t (0, 0))) := by
  obtain ⟨cs, hn⟩ := h.nodes
  obtain ⟨ao, cap, W1, hrun, hrow, hgr⟩ := edge_snoc h.edges h.below.size hl x
  have hown := own_block h.edges
  refine ⟨ao, cap, W1, hrun, ?_⟩
  generalize hV : Value.slice ao (xs.length + 1) cap = V at hrun hrow ⊢
  have hA : ∀ k, k < W.heap.size → (W.alloc (.cells #[.int .i64 x.id, .int .i64 x.st, .int .i64 x.en, .slice x.lo x.ll x.lc, .int .i64 x.lf, .int .i64 x.rt] 29)).heap[k]? = W.heap[k]? := fun k hk => ((Below.refl _ W).alloc (Nat.le_refl _) _).block k hk
  have h1 : ∀ (k : Nat) (c : Array Value) (t : TypeId), W.heap[k]? = some (.cells c t (0, 0)) → t ≠ 29 → W1.heap[k]? = some (.cells c t (0, 0)) := fun k c t ho ht => by
    refine (hgr.block k (by have := lt_of_heap ho; simp; omega) (fun e => ?_)).trans ((hA k (lt_of_heap ho)).trans ho)
    obtain ⟨_, c', hc'⟩ := hown k e.symm
    rw [ho] at hc'
    injection hc' with hc'
    injection hc' with _ e2 _
    exact ht e2
  have hb1 := h1 _ _ _ h.box (by decide)
  have h2 : ∀ (k : Nat) (c : Array Value) (t : TypeId), W1.heap[k]? = some (.cells c t (0, 0)) → t ≠ 32 → (W1.setCell ⟨Bp, 1, none⟩ V).heap[k]? = some (.cells c t (0, 0)) := fun k c t ho ht => by
    refine ((grownBy_setCell1 W1 Bp 1 V).block k (lt_of_heap ho) (fun e => ?_)).trans ho
    injection e with e
    subst e
    rw [hb1] at ho
    injection ho with ho
    injection ho with _ e2 _
    exact ht e2.symm
  have hbel : Below w.heap.size w (W1.setCell ⟨Bp, 1, none⟩ V) := by
    have q1 : Below w.heap.size w (W.alloc (.cells #[.int .i64 x.id, .int .i64 x.st, .int .i64 x.en, .slice x.lo x.ll x.lc, .int .i64 x.lf, .int .i64 x.rt] 29)) := h.below.trans (((Below.refl _ W).alloc (Nat.le_refl _) _).mono h.below.size)
    have q2 := q1.grown hgr q1.size (fun k e => (hown k e).1)
    exact q2.grown (grownBy_setCell1 W1 Bp 1 V) q2.size (fun k e => by injection e with e; omega)
  refine ⟨hb1.trans h.box.symm, ⟨box2_set1 hb1, ⟨cs, own_keep hn fun k c hk => (h2 k c _ (h1 k c _ hk (by decide)) (by decide)).trans hk.symm⟩, own_keep hrow fun k c hk => (h2 k c _ hk (by decide)).trans hk.symm, fun k y hy => ?_, by rw [List.length_append, List.length_append, h.len]; rfl, fun e => (by simp at e), hbel⟩, fun k c t hk t1 t2 => h2 k c t (h1 k c t hk t1) t2⟩
  by_cases hk : k < xs.length
  · rw [List.getElem?_append_left hk] at hy
    obtain ⟨g', l1, l2, l3, l4⟩ := h.lines k y hy
    have e : (ls ++ [l]).getD k [] = ls.getD k [] := by rw [List.getD_eq_getElem?_getD, List.getD_eq_getElem?_getD, List.getElem?_append_left (by rw [h.len]; exact hk)]
    rw [e]
    exact ⟨g', l1, l2, l3, h2 _ _ _ (h1 _ _ _ l4 (by decide)) (by decide)⟩
  · have hkl : k = xs.length := by
      have := (List.getElem?_eq_some_iff.1 hy).1
      simp at this
      omega
    subst hkl
    rw [List.getElem?_append_right (Nat.le_refl _)] at hy
    simp at hy
    subst hy
    have e : (ls ++ [l]).getD xs.length [] = l := by rw [List.getD_eq_getElem?_getD, ← h.len, List.getElem?_append_right (Nat.le_refl _)]; simp
    rw [e]
    exact ⟨g, x1, x2, x3, h2 _ _ _ (h1 _ _ _ x4 (by decide)) (by decide)⟩
/-- A plan that is made is one that plan's calls take. -/
theorem PlB.toPlEB {w W : World} {Bp : Nat} {nv ev : Value} {nn : Nat} {xs : List ER} {ls : List (List Pp)} (h : PlB w Bp nv ev nn xs ls W) (hfew : xs.length ≤ 400) (hdeg : ∀ k, (grp (allLd xs ls) k).length ≤ 60) (hr : Rise xs) (hi : ∀ x ∈ xs, 1 ≤ x.id ∧ x.id ≤ 1000000) (hn : ∀ x ∈ xs, -1000000 ≤ x.st ∧ x.st ≤ 1000000 ∧ -1000000 ≤ x.en ∧ x.en ≤ 1000000) (hs : ∀ k, (ls.getD k []).length ≤ 1000) :
    ∃ b ao cap no nl nc, ev = .slice ao xs.length cap ∧ nv = .slice no nl nc ∧ PlE W b 0 xs.length ao xs ls := by
  obtain ⟨cs, hnd⟩ := h.nodes
  obtain ⟨no, nc, hno⟩ := own_form hnd
  have hlines : ∀ (k : Nat) (x : ER), xs[k]? = some x → Src W (.slice x.lo x.ll x.lc) (ls.getD k []) ∧ ∀ a, x.lo = some a → ∃ c f, W.heap[a.block]? = some (.cells c 23 f) := fun k x hx => by
    obtain ⟨g, l1, l2, l3, l4⟩ := h.lines k x hx
    refine ⟨.inr ⟨g, 0, x.lc, by rw [l1, l2], by omega, fun j p hp => ?_⟩, fun a ha => ?_⟩
    · obtain ⟨c0, c1⟩ := ptCells_at _ j p hp
      rw [Nat.zero_add]
      simp only [World.cell?, l4, Option.isSome_none, Bool.false_eq_true, if_false, List.getElem?_toArray]
      exact ⟨c0, c1⟩
    · rw [l1] at ha
      injection ha with ha
      subst ha
      exact ⟨_, _, l4⟩
  by_cases hz : xs.length = 0
  · have hx0 : xs = [] := List.eq_nil_of_length_eq_zero hz
    exact ⟨0, none, 0, no, nn, nc, by rw [h.enil hx0, hz], hno, ⟨rfl, hfew, hdeg, fun k x hx => absurd (List.getElem?_eq_some_iff.1 hx).1 (by omega), hr, fun hx => absurd hx (by omega), fun _ => rfl, hi, hn, hs, hlines⟩⟩
  · rcases h.edges.2 with ⟨_, hl0⟩ | ⟨g, cap, cur, e0, hg1, hg2, hg3⟩
    · exact absurd hl0 hz
    · subst e0
      exact ⟨g, _, cap, no, nn, nc, rfl, hno, ⟨rfl, hfew, hdeg, EAts.of_own h.edges rfl, hr, fun _ => rfl, fun hx => absurd hx hz, hi, hn, hs, hlines⟩⟩
theorem deg_few {xs : List ER} {ls : List (List Pp)} (h : xs.length ≤ 30) (k : Int) : (grp (allLd xs ls) k).length ≤ 60 := by
  refine Nat.le_trans (grp_len _ _) ?_
  unfold allLd
  rw [List.length_map, List.length_range]
  omega
theorem PlB.toPlE {w W : World} {Bp : Nat} {nv ev : Value} {nn : Nat} {xs : List ER} {ls : List (List Pp)} (h : PlB w Bp nv ev nn xs ls W) (hfew : xs.length ≤ 30) (hr : Rise xs) (hi : ∀ x ∈ xs, 1 ≤ x.id ∧ x.id ≤ 1000000) (hn : ∀ x ∈ xs, -1000000 ≤ x.st ∧ x.st ≤ 1000000 ∧ -1000000 ≤ x.en ∧ x.en ≤ 1000000) (hs : ∀ k, (ls.getD k []).length ≤ 1000) :
    ∃ b ao cap no nl nc, ev = .slice ao xs.length cap ∧ nv = .slice no nl nc ∧ PlE W b 0 xs.length ao xs ls :=
  h.toPlEB (by omega) (deg_few hfew) hr hi hn hs
end Go.Proofs.YtkdnkmheidbfdaaGreat

namespace Go.Proofs.YtkdnkmheidbfdaaGreat
open Go.RowKit Go.Sort

/-- A border as it lies in memory: its ways and its points are slices. -/
structure Bd where
  wo : Option Addr
  wl : Nat
  wc : Nat
  po : Option Addr
  pl : Nat
  pc : Nat
  lx : Int
  ly : Int
  hx : Int
  hy : Int
  ar : Int
  pt : Int
  nr : Int
def Bd.cs (x : Bd) : List Value := [.slice x.wo x.wl x.wc, .slice x.po x.pl x.pc, .int .i64 x.lx, .int .i64 x.ly, .int .i64 x.hx, .int .i64 x.hy, .int .i64 x.ar, .int .i64 x.pt, .int .i64 x.nr]
abbrev bdV (x : Bd) : Value := .agg #[.slice x.wo x.wl x.wc, .slice x.po x.pl x.pc, .int .i64 x.lx, .int .i64 x.ly, .int .i64 x.hx, .int .i64 x.hy, .int .i64 x.ar, .int .i64 x.pt, .int .i64 x.nr]
abbrev bdO (x : Bd) : Obj := .cells #[.slice x.wo x.wl x.wc, .slice x.po x.pl x.pc, .int .i64 x.lx, .int .i64 x.ly, .int .i64 x.hx, .int .i64 x.hy, .int .i64 x.ar, .int .i64 x.pt, .int .i64 x.nr] 105 (0, 0)
/-- Its cells, from one on. -/
def BAt (w : World) (b o : Nat) (x : Bd) : Prop :=
  w.cell? ⟨b, o, none⟩ = some (.slice x.wo x.wl x.wc) ∧ w.cell? ⟨b, o + 1, none⟩ = some (.slice x.po x.pl x.pc) ∧ w.cell? ⟨b, o + 2, none⟩ = some (.int .i64 x.lx) ∧ w.cell? ⟨b, o + 3, none⟩ = some (.int .i64 x.ly) ∧ w.cell? ⟨b, o + 4, none⟩ = some (.int .i64 x.hx) ∧ w.cell? ⟨b, o + 5, none⟩ = some (.int .i64 x.hy) ∧ w.cell? ⟨b, o + 6, none⟩ = some (.int .i64 x.ar) ∧ w.cell? ⟨b, o + 7, none⟩ = some (.int .i64 x.pt) ∧ w.cell? ⟨b, o + 8, none⟩ = some (.int .i64 x.nr)
theorem BAt.below {w w' : World} {b o B : Nat} {x : Bd} (h : BAt w b o x) (hb : Below B w w') (hB : b < B) : BAt w' b o x := by
  obtain ⟨h0, h1, h2, h3, h4, h5, h6, h7, h8⟩ := h
  exact ⟨cell_below h0 hb hB, cell_below h1 hb hB, cell_below h2 hb hB, cell_below h3 hb hB, cell_below h4 hb hB, cell_below h5 hb hB, cell_below h6 hb hB, cell_below h7 hb hB, cell_below h8 hb hB⟩
theorem bd_cells {w : World} {b : Nat} {x : Bd} (h : w.heap[b]? = some (bdO x)) : BAt w b 0 x := by
  refine ⟨?_, ?_, ?_, ?_, ?_, ?_, ?_, ?_, ?_⟩ <;> simp [World.cell?, h]
theorem bd_frozen {w : World} {b : Nat} {x : Bd} (h : w.heap[b]? = some (bdO x)) (i : Nat) : w.frozen? ⟨b, i, none⟩ = false := by
  simp [World.frozen?, h]
theorem bd_new (w : World) (x : Bd) : (w.alloc (bdO x)).heap[w.heap.size]? = some (bdO x) := World.alloc_heap_new w _
theorem set1 {w : World} {b i : Nat} {cs : Array Value} {t : TypeId} (h : w.heap[b]? = some (.cells cs t (0, 0))) (v : Value) : (w.setCell ⟨b, i, none⟩ v).heap[b]? = some (.cells (cs.setIfInBounds i v) t (0, 0)) := by
  rw [heap_setCell_same w b i _ _ _ h]
/-- A border stored over another one. -/
theorem bd_put {W : World} {b : Nat} {y : Bd} (h : W.heap[b]? = some (bdO y)) (x : Bd) : (((((((((W.setCell ⟨b, 0, none⟩ (.slice x.wo x.wl x.wc)).setCell ⟨b, 1, none⟩ (.slice x.po x.pl x.pc)).setCell ⟨b, 2, none⟩ (.int .i64 x.lx)).setCell ⟨b, 3, none⟩ (.int .i64 x.ly)).setCell ⟨b, 4, none⟩ (.int .i64 x.hx)).setCell ⟨b, 5, none⟩ (.int .i64 x.hy)).setCell ⟨b, 6, none⟩ (.int .i64 x.ar)).setCell ⟨b, 7, none⟩ (.int .i64 x.pt)).setCell ⟨b, 8, none⟩ (.int .i64 x.nr)).heap[b]? = some (bdO x) := by
  have q := set1 (i := 8) (set1 (i := 7) (set1 (i := 6) (set1 (i := 5) (set1 (i := 4) (set1 (i := 3) (set1 (i := 2) (set1 (i := 1) (set1 (i := 0) h (.slice x.wo x.wl x.wc)) (.slice x.po x.pl x.pc)) (.int .i64 x.lx)) (.int .i64 x.ly)) (.int .i64 x.hx)) (.int .i64 x.hy)) (.int .i64 x.ar)) (.int .i64 x.pt)) (.int .i64 x.nr)
  simp only [List.setIfInBounds_toArray, List.set_cons_zero, List.set_cons_succ] at q
  exact q
/-- A border's box stored into it. -/
theorem bd_box {W : World} {b : Nat} {y : Bd} (h : W.heap[b]? = some (bdO y)) (lx ly hx hy : Int) : ((((W.setCell ⟨b, 2, none⟩ (.int .i64 lx)).setCell ⟨b, 3, none⟩ (.int .i64 ly)).setCell ⟨b, 4, none⟩ (.int .i64 hx)).setCell ⟨b, 5, none⟩ (.int .i64 hy)).heap[b]? = some (bdO { y with lx := lx, ly := ly, hx := hx, hy := hy }) := by
  have q := set1 (i := 5) (set1 (i := 4) (set1 (i := 3) (set1 (i := 2) h (.int .i64 lx)) (.int .i64 ly)) (.int .i64 hx)) (.int .i64 hy)
  simp only [List.setIfInBounds_toArray, List.set_cons_zero, List.set_cons_succ] at q
  exact q

set_option maxRecDepth 100000 in
set_option maxHeartbeats 1600000 in
theorem outer_any (x : Bd) (w : World) : Calls Tryz.prog 64 #[bdV x] w fun e w' => e = .returned (.bool (decide (0 < x.ar))) ∧ Below w.heap.size w w' := by
  obtain ⟨wA, hwA⟩ : ∃ wA, w.alloc (bdO x) = wA := ⟨_, rfl⟩
  have hbA : Below w.heap.size w wA := by rw [← hwA]; exact (Below.refl _ w).alloc (Nat.le_refl _) _
  obtain ⟨_, _, _, _, _, _, a6, _, _⟩ := bd_cells (show wA.heap[w.heap.size]? = some (bdO x) by rw [← hwA]; exact bd_new w x)
  have HB := hid hbA
  clear hbA
  go_enter Tryz.func64, Tryz.ntmps64
  go_wp2
  go_ret
  exact ⟨rfl, HB.out⟩
end Go.Proofs.YtkdnkmheidbfdaaGreat
