/-
  Layer 4: what wal.writeTail gives.
-/
import Derived.Test.YthhlbhnogcfnjaaDoorWChunk
import Derived.Test.YthhlbhnogcfnjaaDoorME
import Derived.Test.YthhlbhnogcfnjaaDoorMF
import Derived.Test.YthhlbhnogcfnjaaDoorWReadRecs
import Derived.Test.YthhlbhnogcfnjaaDoorDBad
namespace Go.Proofs.YthhlbhnogcfnjaaDoor
open Go.RowKit Go.Shelf

attribute [local go_sem] Oper.semAt_some

/-- Pieces written one behind the other. -/
def tailP (at' sc : Nat) : Dk → Nat → List (List Int) → Dk × Int
  | d, _, [] => (d, 0)
  | d, no, p :: ps => if d.left = 0 then (d, 50) else tailP at' sc (d.write (at' + 1 + no % (sc - 1)) (secL no p)) (no + 1) ps
theorem tailP_snoc (at' sc : Nat) : ∀ (ss : List (List Int)) (d : Dk) (i : Nat) (s : List Int), tailP at' sc d i (ss ++ [s]) = if (tailP at' sc d i ss).2 = 0 then (if (tailP at' sc d i ss).1.left = 0 then ((tailP at' sc d i ss).1, 50) else ((tailP at' sc d i ss).1.write (at' + 1 + (i + ss.length) % (sc - 1)) (secL (i + ss.length) s), 0)) else tailP at' sc d i ss
  | [], d, i, s => by
    simp only [List.nil_append, tailP, if_true]
    by_cases h : d.left = 0 <;> simp [h]
  | x :: r, d, i, s => by
    simp only [List.cons_append, tailP]
    by_cases h : d.left = 0
    · simp [h]
    · simp only [h, if_false]
      rw [tailP_snoc at' sc r, List.length_cons, show i + 1 + r.length = i + (r.length + 1) by omega]
theorem tailP_stop (at' sc : Nat) : ∀ (ss t : List (List Int)) (d : Dk) (i : Nat), (tailP at' sc d i ss).2 = 50 → tailP at' sc d i (ss ++ t) = tailP at' sc d i ss
  | [], _, _, _, h => by simp [tailP] at h
  | x :: r, t, d, i, h => by
    simp only [List.cons_append, tailP] at h ⊢
    by_cases hd : d.left = 0
    · simp [hd]
    · simp only [hd, if_false] at h ⊢
      exact tailP_stop at' sc r t _ _ h
theorem tailP_wait (at' sc : Nat) : ∀ (ss : List (List Int)) (d : Dk) (i : Nat), (tailP at' sc d i ss).1.wait.length ≤ d.wait.length + ss.length ∧ (tailP at' sc d i ss).1.writes ≤ d.writes + ss.length
  | [], d, i => by simp [tailP]
  | s :: r, d, i => by
    unfold tailP
    split
    · simp; omega
    · have := tailP_wait at' sc r (d.write (at' + 1 + i % (sc - 1)) (secL i s)) (i + 1)
      have h1 : (d.write (at' + 1 + i % (sc - 1)) (secL i s)).wait.length ≤ d.wait.length + 1 ∧ (d.write (at' + 1 + i % (sc - 1)) (secL i s)).writes ≤ d.writes + 1 := by
        simp [Dk.write]
      simp only [List.length_cons]
      omega
/-- The pieces of bytes, the last as long as what is left. -/
def cut48 : Nat → List Int → List (List Int)
  | 0, _ => []
  | q + 1, zs => zs.take 48 :: cut48 q (zs.drop 48)
theorem cut48_len : ∀ (q : Nat) (zs : List Int), (cut48 q zs).length = q
  | 0, _ => rfl
  | q + 1, zs => by simp [cut48, cut48_len q]
theorem cut48_at : ∀ (q : Nat) (zs : List Int) (k : Nat), k < q → (cut48 q zs)[k]? = some ((zs.drop (48 * k)).take 48)
  | 0, _, _, h => by omega
  | q + 1, zs, 0, _ => by simp [cut48]
  | q + 1, zs, k + 1, h => by
    rw [cut48, List.getElem?_cons_succ, cut48_at q _ k (by omega), List.drop_drop, show 48 + 48 * k = 48 * (k + 1) by omega]
abbrev pieceL {q : Nat} (zs : List Int) (x : Pl q) : List Int := (zs.drop (48 * x.1)).take 48
theorem piecesL_some (q : Nat) (zs : List Int) (xs : List (Pl q)) (h : xs.map (·.1) = List.range xs.length) (hl : xs.length ≤ q) : ∃ t, cut48 q zs = xs.map (pieceL zs) ++ t := by
  refine ⟨(cut48 q zs).drop xs.length, ?_⟩
  have e : xs.map (pieceL zs) = (xs.map (·.1)).map (fun k => (zs.drop (48 * k)).take 48) := by rw [List.map_map]; rfl
  have e2 : xs.map (pieceL zs) = (cut48 q zs).take xs.length := by
    rw [e, h]
    apply List.ext_getElem (by simp [cut48_len]; omega)
    intro k h1 h2
    have h3 : k < xs.length := by simpa using h1
    have := cut48_at q zs k (by omega)
    rw [List.getElem_take]
    rw [List.getElem?_eq_getElem (by rw [cut48_len]; omega)] at this
    simpa using this.symm
  rw [e2, List.take_append_drop]
theorem piecesL_all (q : Nat) (zs : List Int) (xs : List (Pl q)) (h : xs.map (·.1) = List.range q) : xs.map (pieceL zs) = cut48 q zs := by
  have hl : xs.length = q := by simpa using congrArg List.length h
  obtain ⟨t, ht⟩ := piecesL_some q zs xs (by rw [hl]; exact h) (by omega)
  have : t = [] := by
    have := congrArg List.length ht
    rw [cut48_len, List.length_append, List.length_map, hl] at this
    exact List.eq_nil_of_length_eq_zero (by omega)
  rw [ht, this, List.append_nil]
theorem lenL_le {q : Nat} {xs : List (Pl q)} (h : xs.map (·.1) = List.range xs.length) : xs.length ≤ q := by
  rcases Nat.eq_zero_or_pos xs.length with h0 | h0
  · omega
  · have hl : xs.length - 1 < xs.length := by omega
    have e := congrArg (fun l => l[xs.length - 1]?) h
    simp only [List.getElem?_map, List.getElem?_eq_getElem hl, Option.map_some] at e
    rw [List.getElem?_range (by omega)] at e
    injection e with e
    have := (xs[xs.length - 1]).2
    omega

/-- Amid wal.writeTail: the boxes, the Log. -/
structure TlI (w : World) (base L B n at' sc no r : Nat) (ao : Option Addr) (Ln cap : Nat) (dk : Dk) (g : Lg) (e : Int) (W : World) : Prop where
  bl : W.heap[w.heap.size]? = some (.cells #[.pointer (some ⟨L, 0, none⟩)] 26 (0, 0))
  br : W.heap[w.heap.size + 1]? = some (.cells #[.int .i64 e] 23 (0, 0))
  bn : W.heap[w.heap.size + 2]? = some (.cells #[.int .u64 ((no + r : Nat) : Int)] 29 (0, 0))
  bv : W.heap[w.heap.size + 3]? = some (.cells #[.slice ao Ln cap] 32 (0, 0))
  bc : W.heap[w.heap.size + 4]? = some (.cells #[.int .i64 48] 3 (0, 0))
  log : LogIs W base L B n at' sc dk g
  kd : Kd base w W
theorem TlI.turn {w W W' : World} {base L B n at' sc no r : Nat} {ao : Option Addr} {Ln cap : Nat} {dk : Dk} {g : Lg} {e : Int} {row : Option Nat} (h : TlI w base L B n at' sc no r ao Ln cap dk g e W) (hb : base ≤ w.heap.size) (hg : W.grownBy W' row)
    (hr : ∀ r, row = some r → w.heap.size ≤ r ∧ ∃ o : Obj, W.heap[r]? = some o ∧ o.isCells = false) : TlI w base L B n at' sc no r ao Ln cap dk g e W' := by
  have key := turn_cells hg (fun r e => (hr r e).2)
  exact ⟨(key _ _ _ _ h.bl).trans h.bl, (key _ _ _ _ h.br).trans h.br, (key _ _ _ _ h.bn).trans h.bn, (key _ _ _ _ h.bv).trans h.bv, (key _ _ _ _ h.bc).trans h.bc, h.log.cells key, h.kd.turn hb hg (fun r e => (hr r e).1)⟩
theorem TlI.drew {w W : World} {base L B n at' sc no r : Nat} {ao : Option Addr} {Ln cap : Nat} {dk : Dk} {g : Lg} {e : Int} (h : TlI w base L B n at' sc no r ao Ln cap dk g e W) (hb : base ≤ w.heap.size) : TlI w base L B n at' sc no r ao Ln cap dk g e W.drew :=
  h.turn hb (row := none) ⟨rfl, rfl, rfl, Nat.le_refl _, fun _ _ _ => rfl⟩ (fun r e => by cases e)
theorem nd_plog : ¬ diskT 26 := by unfold diskT; decide
theorem nd_u64 : ¬ diskT 29 := by unfold diskT; decide
theorem nlT_err : ¬ logT 23 := by unfold logT diskT; decide
theorem nlT_u64 : ¬ logT 29 := by unfold logT diskT; decide
theorem TlI.kd' {w W W' : World} {base L B n at' sc no r : Nat} {ao : Option Addr} {Ln cap : Nat} {dk dk' : Dk} {g : Lg} {e : Int} (h : TlI w base L B n at' sc no r ao Ln cap dk g e W) (hd : DiskIs W' base B n dk') (hk : Kd base W W') : TlI w base L B n at' sc no r ao Ln cap dk' g e W' :=
  ⟨hk.keep' h.bl nd_plog, hk.keep' h.br nd_err, hk.keep' h.bn nd_u64, hk.keep' h.bv nd_bytes, hk.keep' h.bc nd_int, h.log.kd hd hk, h.kd.trans hk⟩
theorem LogIs.ofTT {w w' : World} {base L B n at' sc : Nat} {d : Dk} {g : Lg} (h : LogIs w base L B n at' sc d g) (hk : ∀ (k : Nat) (c : Array Value) (t : TypeId) (f : Nat × Nat), w.heap[k]? = some (Obj.cells c t f) → logT t → w'.heap[k]? = w.heap[k]?) : LogIs w' base L B n at' sc d g := by
  obtain ⟨hd, hL, hs, hn, hby, rv, tv, hh, ht, hr⟩ := h
  refine ⟨hd.same fun k c t f hk' ht' => hk k c t f hk' (.inl ht'), hL, hs, hn, hby, rv, tv, (hk L _ _ _ hh (.inr (.inl rfl))).trans hh, own_same ht fun k e => ?_, hr.all fun k c t hc h2 => hk k c t _ hc ?_⟩
  · obtain ⟨c, hc⟩ := own_heap ht e
    exact hk k _ _ _ hc (.inr (.inr (.inl rfl)))
  · rcases h2 with rfl | rfl
    · exact .inr (.inr (.inl rfl))
    · exact .inr (.inr (.inr rfl))
theorem LogIs.boxT {w : World} {base L B n at' sc : Nat} {d : Dk} {g : Lg} (h : LogIs w base L B n at' sc d g) {b o : Nat} {c : Array Value} {t : TypeId} {f : Nat × Nat} (hb : w.heap[b]? = some (.cells c t f)) (ht : ¬ logT t) (v : Value) : LogIs (w.setCell ⟨b, o, none⟩ v) base L B n at' sc d g :=
  h.ofTT fun k c' t' f' hk hd => Below.heap_setCell w ⟨b, o, none⟩ v k (fun e => by
    have e' : k = b := e
    subst e'
    rw [hb] at hk
    injection hk with e1
    injection e1 with _ e2 _
    exact ht (e2 ▸ hd))
theorem TlI.setErr {w W : World} {base L B n at' sc no r : Nat} {ao : Option Addr} {Ln cap : Nat} {dk : Dk} {g : Lg} {e : Int} (h : TlI w base L B n at' sc no r ao Ln cap dk g e W) (hb : base ≤ w.heap.size) (e' : Int) : TlI w base L B n at' sc no r ao Ln cap dk g e' (W.setCell ⟨w.heap.size + 1, 0, none⟩ (.int .i64 e')) := by
  have far : ∀ k, k ≠ w.heap.size + 1 → (W.setCell ⟨w.heap.size + 1, 0, none⟩ (.int .i64 e')).heap[k]? = W.heap[k]? := fun k hk => Below.heap_setCell W _ _ k (fun e => hk (by rw [e]))
  exact ⟨(far _ (by omega)).trans h.bl, box_set h.br, (far _ (by omega)).trans h.bn, (far _ (by omega)).trans h.bv, (far _ (by omega)).trans h.bc, h.log.boxT h.br nlT_err _, h.kd.turn hb (grown_setCell W _ 0 _) (fun r e => by cases e; omega)⟩
theorem TlI.setNo {w W : World} {base L B n at' sc no r : Nat} {ao : Option Addr} {Ln cap : Nat} {dk : Dk} {g : Lg} {e : Int} (h : TlI w base L B n at' sc no r ao Ln cap dk g e W) (hb : base ≤ w.heap.size) (r' : Nat) : TlI w base L B n at' sc no r' ao Ln cap dk g e (W.setCell ⟨w.heap.size + 2, 0, none⟩ (.int .u64 ((no + r' : Nat) : Int))) := by
  have far : ∀ k, k ≠ w.heap.size + 2 → (W.setCell ⟨w.heap.size + 2, 0, none⟩ (.int .u64 ((no + r' : Nat) : Int))).heap[k]? = W.heap[k]? := fun k hk => Below.heap_setCell W _ _ k (fun e => hk (by rw [e]))
  exact ⟨(far _ (by omega)).trans h.bl, (far _ (by omega)).trans h.br, box_set h.bn, (far _ (by omega)).trans h.bv, (far _ (by omega)).trans h.bc, h.log.boxT h.bn nlT_u64 _, h.kd.turn hb (grown_setCell W _ 0 _) (fun r e => by cases e; omega)⟩
theorem TlI.fresh {w W W' : World} {base L B n at' sc no r : Nat} {ao : Option Addr} {Ln cap : Nat} {dk : Dk} {g : Lg} {e : Int} (h : TlI w base L B n at' sc no r ao Ln cap dk g e W) (hb : base ≤ w.heap.size) (hk : Below W.heap.size W W') : TlI w base L B n at' sc no r ao Ln cap dk g e W' :=
  h.kd' (h.log.1.below hk) (Kd.fresh hk (Nat.le_trans hb h.kd.size))
theorem TlI.own {w W : World} {base L B n at' sc no r : Nat} {ao ao' : Option Addr} {Ln cap cap' : Nat} {dk : Dk} {g : Lg} {e : Int} (h : TlI w base L B n at' sc no r ao Ln cap dk g e W) {x0 x1 x2 x3 x4 x5 x6 x7 : Value} {T : Nat} (hT : T = g.tail.length)
    (hw : w.heap[L]? = some (.cells #[x0, x1, x2, x3, x4, x5, x6, x7, .slice ao' T cap'] 50 (0, 0))) : W.ownsRow base 5 1 (.slice ao' T cap') T (secV g.tail) := by
  obtain ⟨_, _, _, _, _, rv, tv, hh1, ho1, _⟩ := h.log
  rw [h.kd.keep' hw nd_log] at hh1
  injection hh1 with e1
  injection e1 with e1 _ _
  have e9 : some (Value.slice ao' T cap') = some tv := congrArg (fun a : Array Value => a[8]?) e1
  injection e9 with e9
  rw [← hT, ← e9] at ho1
  exact ho1
theorem pieceL_len {q T : Nat} {zs : List Int} (hT : T = zs.length) (x : Pl q) : (pieceL zs x).length = x.size 48 T := by
  simp only [pieceL, Pl.size, List.length_take, List.length_drop, hT]
  omega
/-- A piece of the tail, as bytes. -/
theorem piece_bs {W : World} {base gt tc T q : Nat} {zs : List Int} (h : W.ownsRow base 5 1 (.slice (some ⟨gt, 0, none⟩) T tc) T (secV zs)) (hT : T = zs.length) (hb : By zs) (x : Pl q) : Bs W (.slice (some ⟨gt, x.1 * 48, none⟩) (x.size 48 T) (x.size 48 T)) (pieceL zs x) := by
  have hl := pieceL_len hT x
  have hpb : By (pieceL zs x) := (hb.drop _).take _
  have hm : (pieceL zs x).length ≤ 48 := by simp only [pieceL, List.length_take]; omega
  refine ⟨range_of hpb, by omega, .inr ⟨gt, x.1 * 48, x.size 48 T, by rw [hl], by rw [hl]; exact Nat.le_refl _, fun j hj => ?_⟩⟩
  have hj2 : j < 48 ∧ 48 * x.1 + j < zs.length := by
    simp only [pieceL, List.length_take, List.length_drop] at hj
    omega
  rw [h.cellAt (x.1 * 48 + j) (by omega)]
  simp only [secV, List.getElem?_map, pieceL, List.getD_eq_getElem?_getD, List.getElem?_take, if_pos hj2.1, List.getElem?_drop]
  rw [show 48 * x.1 + j = x.1 * 48 + j by omega, List.getElem?_eq_getElem (by omega)]
  rfl
/-- One piece more. -/
theorem piece_write {w : World} {base L B n at' sc no : Nat} {ao : Option Addr} {Ln cap : Nat} {d dk : Dk} {g : Lg} {q : Nat} {pre : List (Pl q)} {x : Pl q} {zs : List Int} (hs : tailP at' sc d no (pre.map (pieceL zs)) = (dk, 0)) (hsc : 16 ≤ sc ∧ at' + sc ≤ n) (hwl : dk.wait.length ≤ 1000000) (hwr : dk.writes ≤ 1000000000) :
    ∃ dk2 E, (E = 0 ∨ E = 50) ∧ tailP at' sc d no ((pre ++ [x]).map (pieceL zs)) = (dk2, E) ∧ ∀ (W2 : World) (a2 : Option Addr) (c2 : Nat), TlI w base L B n at' sc no pre.length ao Ln cap dk g 0 W2 → Has W2 (.slice a2 64 c2) (secL (no + pre.length) (pieceL zs x)) → Sec (secL (no + pre.length) (pieceL zs x)) →
      Calls Tryd.prog 25 #[.pointer (some ⟨B, 0, none⟩), .int .i64 ((at' + 1 + (no + pre.length) % (sc - 1) : Nat) : Int), .slice a2 64 c2] W2 fun e W3 => e = .returned (.int .i64 E) ∧ TlI w base L B n at' sc no pre.length ao Ln cap dk2 g 0 W3 ∧ Kd base W2 W3 := by
  have hsn := tailP_snoc at' sc (pre.map (pieceL zs)) d no (pieceL zs x)
  rw [hs, List.length_map] at hsn
  have hm : (no + pre.length) % (sc - 1) < sc - 1 := Nat.mod_lt _ (by omega)
  by_cases hdl : dk.left = 0
  · refine ⟨dk, 50, .inr rfl, by rw [List.map_append]; simp only [List.map_cons, List.map_nil]; rw [hsn]; simp [hdl], fun W2 a2 c2 h2 _ _ => ?_⟩
    refine (write_dead h2.log.1 (i := ((at' + 1 + (no + pre.length) % (sc - 1) : Nat) : Int)) (by omega) hdl (ao := a2) (cap := c2)).mono ?_
    rintro e W3 ⟨rfl, rfl⟩
    exact ⟨rfl, h2, Kd.refl _ _⟩
  · refine ⟨dk.write (at' + 1 + (no + pre.length) % (sc - 1)) (secL (no + pre.length) (pieceL zs x)), 0, .inl rfl, by rw [List.map_append]; simp only [List.map_cons, List.map_nil]; rw [hsn]; simp [hdl], fun W2 a2 c2 h2 hh hsec => ?_⟩
    refine (write_any h2.log.1 (i := at' + 1 + (no + pre.length) % (sc - 1)) (by omega) hdl hsec hh hwl hwr).mono ?_
    rintro e W3 ⟨rfl, hd3, hk3⟩
    exact ⟨rfl, h2.kd' hd3 hk3, hk3⟩
end Go.Proofs.YthhlbhnogcfnjaaDoor
