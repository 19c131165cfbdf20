/-
  What terrierref1.New gives.
-/
import Derived.Test.YtindjkgkdldooaaRCrash
import Derived.Deep.RegionLaw
namespace Go.Proofs.Ytindjkgkdldooaa
open Go.RowKit

theorem rnew_bad (k : Int) (w : World) (h : ¬ (8 ≤ k ∧ k ≤ 65536)) :
    Calls Try.prog 18 #[.int .i64 k] w fun e w' => e = .returned (.tuple #[.pointer none, .bool false]) ∧ w' = w := by
  by_cases h8 : k < 8
  · go_enter Try.func18, Try.ntmps18
    go_wp2
    go_ret2
    exact ⟨rfl, rfl⟩
  · have h9 : (65536 : Int) < k := by omega
    have hd : decide (k < 8) = false := by simpa using h8
    go_enter Try.func18, Try.ntmps18
    go_wp2
    go_ret2
    exact ⟨rfl, rfl⟩
theorem infoStr : (Try.prog.info? 9).map (fun i => (i.zero, i.size, i.bytes)) = some (some (.string ⟨#[]⟩), 1, 16) := by kernel_rfl

theorem step_append_own {P : Program} {ops : Array Oper} {o : Oper} {a : Act} {ts : Array Value} {w : World} {K : Act → World → Prop} {Q : Exit → Act → World → Prop} {E : Prop} (hgd : o.guard = none) (s x : Operand) (t : TypeId)
    (ho : o.op = .call { callee := .builtin .append, args := #[s, x], argTypes := #[t, t] })
    (base : Nat) (e : TypeId) (i : TypeInfo) (z : Value) (size bytes : Nat) (ht : P.underlying t = some (.slice e)) (hi : P.info? e = some i) (hz : i.zero = some z)
    (hsize : i.size = size) (hby : i.bytes = bytes) (hzs : z.cells.size = size) (hsz : 0 < size)
    (v : Value) (n : Nat) (xs : List Value) (hs : a.eval s = v) (hown : w.ownsRow base e size v n xs)
    (ad : Addr) (m c : Nat) (news : List Value) (hx : a.eval x = .slice (some ad) m c) (hl : news.length = m * size) (hnews : ∀ j u, news[j]? = some u → w.cell? (ad.add j) = some u) (h1 : ∀ u ∈ news, u.oneCell' = true)
    (h63 : n + m ≤ maxLen) (hbytes : (n + m) * bytes ≤ 140737488355328) (hbase : base ≤ w.heap.size)
    (h : ∀ v' w', w'.ownsRow base e size v' (n + m) (xs ++ news) → w.grownBy w' v.ownBlock → K (a.put o.dst v') w') : if Region.wanted o (yielded ops ts) = true then Oper.wp P o a w K Q else E := by
  have hw : Region.wanted o (yielded ops ts) = true := by simp [Region.wanted, hgd]
  rw [if_pos hw]
  exact wp_append_own w s x t ho base e i z size bytes ht hi hz hsize hby hzs hsz v n xs hs hown ad m c news hx hl hnews h1 h63 hbytes hbase (fun v' w' h2 h3 _ => h v' w' h2 h3)

/-- In the midst of New: so many sectors stand. -/
structure Rn (w : World) (R k : Nat) (v : Value) (W : World) : Prop where
  str : W.heap[R]? = some (.cells #[v, .slice none 0 0, .int .i64 0, .int .i64 (-1), .bool false] 76 (0, 0))
  row : W.ownsRow w.heap.size 9 1 v k (List.replicate k (strV nought))
  below : Below w.heap.size w W
  base : w.heap.size ≤ R

set_option maxRecDepth 8000 in
set_option maxHeartbeats 2000000 in
theorem rnew_any (n : Nat) (w : World) (hn : 8 ≤ n ∧ n ≤ 65536) :
    Calls Try.prog 18 #[.int .i64 n] w fun e w' => ∃ R, e = .returned (.tuple #[.pointer (some ⟨R, 0, none⟩), .bool true]) ∧ RefIs w' w.heap.size R n (Dk.new n) (-1) ∧ Below w.heap.size w w' := by
  obtain ⟨i0, hi, hz0, hz1, hz2⟩ := info_parts infoStr
  have h8 : ¬ ((n : Int) < 8) := by omega
  have h9 : ¬ ((65536 : Int) < (n : Int)) := by omega
  have HN := hid hn
  have hn1 := hn.2
  have HR0 : Hid (Rn w w.heap.size 0 (.slice none 0 0) (w.alloc (.cells #[.slice none 0 0, .slice none 0 0, .int .i64 0, .int .i64 (-1), .bool false] 76))) := hid ⟨heap_new w _, by simpa using World.ownsRow_nil _ _ _ _, (Below.refl _ _).alloc (Nat.le_refl _) _, Nat.le_refl _⟩
  clear hn
  go_enter Try.func18, Try.ntmps18
  go_wp2
  obtain ⟨R, hR⟩ : ∃ R, w.heap.size = R := ⟨_, rfl⟩
  have HR1 : Hid (Rn w R 0 (.slice none 0 0) (w.alloc (.cells #[.slice none 0 0, .slice none 0 0, .int .i64 0, .int .i64 (-1), .bool false] 76))) := hid (hR ▸ HR0.out)
  rw [hR]
  clear hR HR0
  go_loopw [5] (fun i wr => ∃ (k : Nat) (v : Value), k ≤ n ∧ i = .int .i64 k ∧ Rn w R k v wr) (fun i _ => n - (intOf i).toNat)
  case atStart => exact ⟨0, _, Nat.zero_le _, rfl, HR1.out⟩
  case round =>
    obtain ⟨k, v, hkn, rfl, hRn⟩ := hrel
    clear HR1
    by_cases hlt : k < n
    · have hltI : (k : Int) < (n : Int) := by omega
      obtain ⟨ao, cap, rfl⟩ : ∃ ao cap, v = .slice ao k cap := by
        rcases hRn.row.2 with ⟨rfl, h0⟩ | ⟨g, c, _, rfl, _⟩
        · exact ⟨_, _, by rw [h0]⟩
        · exact ⟨_, _, rfl⟩
      have hc0 := cell_of_row wr.drew R 0 _ _ _ hRn.str
      have HRN : Hid (Rn w R k (.slice ao k cap) wr.drew) := hid ⟨hRn.str, own_below hRn.row (Below.refl _ wr).drew, hRn.below.drew, hRn.base⟩
      obtain ⟨S, hS⟩ : ∃ S, S = strOfNums nought := ⟨_, rfl⟩
      have HSS := hid hS
      clear hRn hS
      go_wp2
      go_region_law (first
        | (refine step_append_own rfl (.tmp 23) (.tmp 25) 73 rfl w.heap.size 9 i0 _ 1 16 Try.underlying73 hi hz0 hz1 hz2 rfl (by decide) (.slice ao k cap) k (List.replicate k (strV nought)) rfl HO4.out ⟨w3.heap.size, 0, none⟩ 1 1 [.string S] rfl rfl (fun j u hj => by
              rw [show (⟨w3.heap.size, 0, none⟩ : Addr).add j = ⟨w3.heap.size, j, none⟩ by simp [Addr.add]; intro h; exact h.symm, cell_of_row _ _ _ _ _ _ (heap_new w3 _)]
              simpa using hj) (by intro u hu; simp at hu; subst hu; rfl) (by unfold maxLen; omega) (by omega) hb4s ?_
           intro v5 w5 hown5 hgrow5
           obtain ⟨a5, c5, rfl⟩ : ∃ a5 c5, v5 = .slice a5 (k + 1) c5 := by
             rcases hown5.2 with ⟨_, h0⟩ | ⟨g, c, _, rfl, _⟩
             · omega
             · exact ⟨_, _, rfl⟩
           have hR5 := (hgrow5.block R (lt_of_heap hR4) (fun e => by
             obtain ⟨c, hc⟩ := own_heap HO4.out e.symm
             exact ne_of_type hR4 hc (by decide) rfl)).trans hR4
           have hc5 := cell_of_row w5 R 0 _ _ _ hR5
           have hf5 := frozen_of_row w5 R 0 _ _ hR5
           have HB5 := hid (HB4.out.grown hgrow5 hb4s (own_base HO4.out))
           have HO5 := hid hown5
           have HR5 := hid hR5
           clear hown5 hgrow5 hR5)
        | (go_simp; go_at_call 26; refine (nought_any _).mono ?_; rintro e w3 ⟨rfl, hb3⟩; rw [← HSS.out]; dsimp only
           have hR3 := (hb3.block R (lt_of_heap HRN.out.str)).trans HRN.out.str
           have hc3 := cell_of_row w3 R 0 _ _ _ hR3
           have HO3 := hid (own_below HRN.out.row hb3)
           have hfr : Below w3.heap.size w3 (w3.alloc (.cells #[.string S] 9)) := (Below.refl _ _).alloc (Nat.le_refl _) _
           have hR4 := (hfr.block R (lt_of_heap hR3)).trans hR3
           have hc4 := cell_of_row _ R 0 _ _ _ hR4
           have HO4 := hid (own_below HO3.out hfr)
           have HB4 := hid (HRN.out.below.trans ((hb3.trans (hfr.mono hb3.size)).mono HRN.out.below.size))
           have hb4s := HB4.out.size))
      all_goals
        go_wp2
        go_roundw
        case rel =>
          refine ⟨k + 1, .slice a5 (k + 1) c5, by omega, by go_num, ?_, ?_, HB5.out.setCell (p := ⟨R, 0, none⟩) HRN.out.base _, HRN.out.base⟩
          · rw [heap_setCell_same _ R 0 _ _ _ HR5.out]
            rfl
          · rw [List.replicate_succ', show strV nought = .string S by unfold strV; rw [HSS.out]]
            have h5 := HO5.out
            rw [show strV nought = .string S by unfold strV; rw [HSS.out]] at h5
            refine own_same h5 fun kk hk => ?_
            obtain ⟨c, hc⟩ := own_heap h5 hk
            exact (grown_setCell _ _ _ _).block kk (lt_of_heap hc) (fun e => by injection e with e; exact ne_of_type hc HR5.out (by decide) e)
        case measure => simp [intOf]; omega
    · obtain rfl : k = n := by omega
      have HRN := hid hRn
      clear hRn
      go_wp2
      go_ret2
      refine ⟨R, rfl, ⟨Dk.ok_new _, HN.out, HRN.out.base, fun _ => rfl, ⟨by omega, by omega⟩, ?_⟩, HRN.out.below⟩
      rcases HRN.out.row.2 with ⟨_, h0⟩ | ⟨g, c, cur, rfl, hg⟩
      · have := HN.out.1; omega
      · refine ⟨g, c, .slice none 0 0, HRN.out.str, ?_, ⟨fun b hb => by simp [Dk.new] at hb, by simpa [Dk.new] using World.ownsRow_nil _ _ _ _⟩⟩
        have := HRN.out.row
        simpa [Dk.new] using this
end Go.Proofs.Ytindjkgkdldooaa
