/-
  turn's Sort.
-/
import Derived.Test.YtkdnkmheidbfdaaGreatMI
import Derived.Test.YtkdnkmheidbfdaaGreatMH
import Derived.Test.YtkdnkmheidbfdaaGreatTFn
namespace Go.Proofs.YtkdnkmheidbfdaaGreat
open Go.RowKit Go.Shelf Go.Sort

set_option maxHeartbeats 1600000 in
theorem sortC_any (Bl b off n cap i k : Nat) (ps : List Pp) (w : World) (hl : w.cell? ⟨Bl, 0, none⟩ = some (.slice (some ⟨b, off, none⟩) n cap)) (hi : i < n) (hk : k < n) (hat : Ats w b off n ps) (_hn : n ≤ 1000000) :
    Calls Tryz.prog 189 #[.int .i64 (i : Nat), .int .i64 (k : Nat), .pointer (some ⟨Bl, 0, none⟩)] w fun e w' => e = .returned (.int .i64 (cmpAt ps i k)) ∧ Below w.heap.size w w' := by
  unfold cmpAt
  obtain ⟨z0, z1⟩ := hat i hi
  obtain ⟨y0, y1⟩ := hat k hk
  generalize ps.getD i (0, 0) = PI at *
  generalize ps.getD k (0, 0) = PK at *
  obtain ⟨px, py⟩ := PI
  obtain ⟨qx, qy⟩ := PK
  dsimp only at z0 z1 y0 y1
  have kl := cell_regrown hl
  have k0 := cell_regrown z0; have k1 := cell_regrown z1; have j0 := cell_regrown y0; have j1 := cell_regrown y1
  have cb := fun d os => turnCmp_any px py qx qy (grow (redrawn w d) os)
  have hiI : (i : Int) < (n : Int) := by omega
  have hkI : (k : Int) < (n : Int) := by omega
  generalize cmpD (px, py) (qx, qy) = R at *
  clear hat hl z0 z1 y0 y1
  go_enter Tryz.func189, Tryz.ntmps189
  go_wp2
  refine wp_region_quiet_below (by kernel_rfl) (by kernel_rfl) ?_
  go_big_quiet_step (fail)
  go_big_quiet_step (fail)
  go_big_quiet_step (fail)
  go_big_quiet_step (fail)
  go_big_quiet_step (fail)
  go_big_quiet_step (fail)
  go_big_quiet_step (fail)
  go_big_quiet_step (fail)
  go_big_quiet_step (exact Calls.regrown_of (cb _ _))
  go_big_quiet_step (fail)
  refine wpQuiet_nil ?_
  intro W hW'
  obtain ⟨⟨dq, osq⟩, hW⟩ := hW'
  have HW := hid (show Below w.heap.size w W by rw [hW]; exact below_regrown _ _ _)
  clear hW kl k0 k1 j0 j1 cb
  go_wp2
  go_ret
  exact ⟨rfl, HW.out⟩

theorem collect_any (Bx n cap : Nat) (ao : Option Addr) (w : World) (hbx : w.cell? ⟨Bx, 0, none⟩ = some (.slice ao n cap)) (hn : n ≤ 100000) :
    Calls Tryz.prog 66 #[(.func (.func 201) #[] #[.pointer (some ⟨Bx, 0, none⟩)])] w fun e w' => ∃ v, e = .returned v ∧ NRow w' w.heap.size v (rowF (fun k => k) n) ∧ Below w.heap.size w w' := by
  have HC := hid (callsIn_wide.1 (appendSeq_in Bx n cap ao w hbx hn))
  clear hbx
  go_enter Tryz.func66, Tryz.ntmps66
  go_wp2_with (go_at_call 103; refine HC.out.mono ?_; rintro e w1 ⟨v, rfl, hv, hb⟩; have HV := hid hv; have HB := hid hb; clear hv hb HC)
  go_ret
  exact ⟨_, rfl, HV.out, HB.out⟩

set_option maxHeartbeats 1600000 in
set_option maxRecDepth 100000 in
theorem sortStable_nil (cv : Value) (w : World) :
    Calls Tryz.prog 200 #[.slice none 0 0, (.func (.func 189) #[] #[cv])] w fun e w' => e = .returned (.tuple #[]) ∧ w' = w := by
  have HI := hid (fun W => (show Calls Tryz.prog 222 #[.slice none 0 0, .int .i64 0, .int .i64 0, (.func (.func 189) #[] #[cv])] W fun e w' => e = .returned (.tuple #[]) ∧ w' = W by
    go_enter Tryz.func222, Tryz.ntmps222
    go_wp2
    go_loopw [8, 9] (fun iv _ wr => iv = .int .i64 1 ∧ wr = W) (fun _ _ _ => 0)
    case atStart => exact ⟨rfl, rfl⟩
    case round =>
      obtain ⟨rfl, rfl⟩ := hrel
      go_wp2
      go_end0
      exact ⟨rfl, rfl⟩))
  have HS := hid (fun W => (show Calls Tryz.prog 215 #[.slice none 0 0, .int .i64 0, (.func (.func 189) #[] #[cv])] W fun e w' => e = .returned (.tuple #[]) ∧ w' = W by
    go_enter Tryz.func215, Tryz.ntmps215
    go_wp2
    go_loopw [7, 8] (fun av bv wr => av = .int .i64 0 ∧ bv = .int .i64 20 ∧ wr = W) (fun _ _ _ => 0)
    case atStart => exact ⟨rfl, rfl, rfl⟩
    case round =>
      obtain ⟨rfl, rfl, rfl⟩ := hrel
      go_wp2_with (go_at_call 222; refine (HI.out _).mono ?_; rintro e w1 ⟨rfl, rfl⟩)
      go_loopw [6, 7, 8, 9] (fun sv _ _ _ wq => sv = .int .i64 20 ∧ wq = w1) (fun _ _ _ _ _ => 0)
      case atStart => exact ⟨rfl, rfl⟩
      case round =>
        obtain ⟨rfl, rfl⟩ := hrel
        go_wp2
        go_end0
        exact ⟨rfl, rfl⟩))
  go_enter Tryz.func200, Tryz.ntmps200
  go_wp2_with (go_at_call 215; refine (HS.out _).mono ?_; rintro e w1 ⟨rfl, rfl⟩)
  go_end0
  exact ⟨rfl, rfl⟩

theorem sortedStable_new (cv : Value) (c : Nat → Nat → Int) (Bx n cap : Nat) (ao : Option Addr) (w : World) (hc : OrdC c) (hcmp : CmpC cv c w.heap.size n w) (hbx : w.cell? ⟨Bx, 0, none⟩ = some (.slice ao n cap)) (hn : n ≤ 60) :
    Calls Tryz.prog 187 #[(.func (.func 201) #[] #[.pointer (some ⟨Bx, 0, none⟩)]), (.func (.func 189) #[] #[cv])] w fun e w' => ∃ u, e = .returned u ∧ (∃ F, Nums w' u (rowF F n) ∧ Blk c F 0 n) ∧ (∀ k, u.ownBlock = some k → w.heap.size ≤ k) ∧ Below w.heap.size w w' := by
  have HC := hid (collect_any Bx n cap ao w hbx (by omega))
  have HS := hid (show ∀ v W, NRow W w.heap.size v (rowF (fun k => k) n) → Below w.heap.size w W → Calls Tryz.prog 200 #[v, (.func (.func 189) #[] #[cv])] W fun e w' => e = .returned (.tuple #[]) ∧ (∃ F, Nums w' v (rowF F n) ∧ Blk c F 0 n) ∧ Below w.heap.size w w' from fun v W hv hb => by
    rcases hv.2 with ⟨rfl, h0⟩ | ⟨g, cp, cur, e, _⟩
    · rw [rowF_len] at h0
      subst h0
      refine (sortStable_nil cv W).mono ?_
      rintro e w1 ⟨rfl, rfl⟩
      exact ⟨rfl, ⟨fun k => k, ⟨none, 0, rfl, fun h => absurd h (by decide)⟩, ⟨fun k _ h => absurd h (Nat.not_lt_zero _), fun i j _ _ h => absurd h (Nat.not_lt_zero _)⟩⟩, hb⟩
    · rw [rowF_len] at e
      subst e
      refine (sortStable_any cv c w.heap.size g n cp W hc (hcmp.on hb) hv hn).mono ?_
      rintro e w1 ⟨rfl, ⟨F, hF, hB⟩, hb1⟩
      exact ⟨rfl, ⟨F, NRow.nums hF, hB⟩, hb.trans hb1⟩)
  clear hbx hcmp hc
  go_enter Tryz.func187, Tryz.ntmps187
  go_wp2_with (first
    | (go_at_call 66; refine HC.out.mono ?_; rintro e w1 ⟨v, rfl, hv, hb⟩; obtain ⟨va, vc, hve⟩ := NRow.form hv; rw [rowF_len] at hve; subst hve; have HV := hid hv; have HB := hid hb; clear hv hb HC)
    | (go_at_call 200; refine (HS.out _ _ HV.out HB.out).mono ?_; rintro e w2 ⟨rfl, hF, hb2⟩; have HF := hid hF; have HB2 := hid hb2; clear hF hb2 HS))
  go_ret
  exact ⟨_, rfl, HF.out, fun k hk => (NRow.lt HV.out hk).2, HB2.out⟩

set_option maxHeartbeats 1600000 in
theorem turnSort_new (v : Value) (ps : List Pp) (w : World) (hp : Pts w v ps) (hl : ps.length ≤ 60) :
    Calls Tryz.prog 170 #[v] w fun e w' => ∃ u, e = .returned u ∧ Nums w' u (natsI (sortD ps)) ∧ (∀ k, u.ownBlock = some k → w.heap.size ≤ k) ∧ Below w.heap.size w w' := by
  obtain ⟨a, cap, rfl, hx⟩ := hp
  obtain ⟨n, hn⟩ : ∃ n, ps.length = n := ⟨_, rfl⟩
  obtain ⟨wA, hwA⟩ : ∃ wA, w.alloc (.cells #[.slice a n cap] 210) = wA := ⟨_, rfl⟩
  obtain ⟨wB, hwB⟩ : ∃ wB, wA.alloc (.cells #[.slice a n cap] 210) = wB := ⟨_, rfl⟩
  have hszA : wA.heap.size = w.heap.size + 1 := by rw [← hwA]; simp
  have a0 : wA.cell? ⟨w.heap.size, 0, none⟩ = some (.slice a n cap) := by rw [← hwA]; exact (Boxed.new w _ _).cell
  have hb1 : Boxed wB w.heap.size 210 (.slice a n cap) := by rw [← hwB, ← hwA]; exact (Boxed.new w _ _).alloc _
  have hb2 : Boxed wB (w.heap.size + 1) 210 (.slice a n cap) := by rw [← hwB, ← hszA]; exact Boxed.new wA _ _
  have hBL : Below w.heap.size w wB := by rw [← hwB, ← hwA]; exact ((Below.refl _ w).alloc (Nat.le_refl _) _).alloc (by simp) _
  have HBL := hid hBL
  have HP := hid (show Calls Tryz.prog 188 #[.slice a n cap] wA fun e w' => e = .returned (.func (.func 201) #[] #[.pointer (some ⟨w.heap.size + 1, 0, none⟩)]) ∧ w' = wB by
    have h := placesOf_any a n cap wA
    rw [hszA, hwB] at h
    exact h)
  have hcmp : CmpC (.pointer (some ⟨w.heap.size, 0, none⟩)) (cmpAt ps) wB.heap.size n wB := fun W hW i k hi hk => by
    obtain ⟨b, off, rfl, hc⟩ := hx (by omega)
    have hat : Ats w b off n ps := fun j hj => by
      have hjp : j < ps.length := by omega
      have := hc j ps[j] (by simp [hjp])
      rw [List.getD_eq_getElem?_getD, List.getElem?_eq_getElem hjp]
      exact this
    have hbb : b < w.heap.size := lt_of_cell (hat i hi).1
    exact sortC_any w.heap.size b off n cap i k ps W ((hW.cell (p := ⟨w.heap.size, 0, none⟩) hb1.lt).trans hb1.cell) hi hk ((hat.below hBL hbb).below hW (Nat.lt_of_lt_of_le hbb hBL.size)) (by omega)
  have HS := hid (sortedStable_new (.pointer (some ⟨w.heap.size, 0, none⟩)) (cmpAt ps) (w.heap.size + 1) n cap a wB (cmpAt_ord ps) hcmp hb2.cell (by omega))
  have HU := hid (show ∀ F, Blk (cmpAt ps) F 0 n → rowF F n = natsI (sortD ps) from fun F hF => by rw [← hn] at hF ⊢; exact sort_one hF)
  rw [hn]
  clear hx hb1 hb2 hBL hn hcmp hwB
  go_enter Tryz.func170, Tryz.ntmps170
  go_wp2_with (first
    | (go_at_call 188; refine HP.out.mono ?_; rintro e w1 ⟨rfl, hw1⟩; subst hw1; clear HP)
    | (go_at_call 187; refine HS.out.mono ?_; rintro e w2 ⟨u, rfl, ⟨F, hF, hB⟩, hnw, hb3⟩; rw [HU.out F hB] at hF; have HF := hid hF; have HNW := hid (fun k hk => Nat.le_trans HBL.out.size (hnw k hk)); clear hnw; replace HBL := hid (HBL.out.trans (hb3.mono HBL.out.size)); clear hb3 HS hF hB))
  go_ret
  exact ⟨_, rfl, HF.out, HNW.out, HBL.out⟩
theorem sortedStable_any (cv : Value) (c : Nat → Nat → Int) (Bx n cap : Nat) (ao : Option Addr) (w : World) (hc : OrdC c) (hcmp : CmpC cv c w.heap.size n w) (hbx : w.cell? ⟨Bx, 0, none⟩ = some (.slice ao n cap)) (hn : n ≤ 60) :
    Calls Tryz.prog 187 #[(.func (.func 201) #[] #[.pointer (some ⟨Bx, 0, none⟩)]), (.func (.func 189) #[] #[cv])] w fun e w' => ∃ u, e = .returned u ∧ (∃ F, Nums w' u (rowF F n) ∧ Blk c F 0 n) ∧ Below w.heap.size w w' :=
  (sortedStable_new cv c Bx n cap ao w hc hcmp hbx hn).mono fun _ _ ⟨u, h1, h2, _, h4⟩ => ⟨u, h1, h2, h4⟩
theorem turnSort_any (v : Value) (ps : List Pp) (w : World) (hp : Pts w v ps) (hl : ps.length ≤ 60) :
    Calls Tryz.prog 170 #[v] w fun e w' => ∃ u, e = .returned u ∧ Nums w' u (natsI (sortD ps)) ∧ Below w.heap.size w w' :=
  (turnSort_new v ps w hp hl).mono fun _ _ ⟨u, h1, h2, _, h4⟩ => ⟨u, h1, h2, h4⟩
end Go.Proofs.YtkdnkmheidbfdaaGreat
