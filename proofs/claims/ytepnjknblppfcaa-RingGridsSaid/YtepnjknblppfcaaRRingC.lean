/-
  All that the laws ask of ring, of the landed ring.
-/
import Derived.Test.YtepnjknblppfcaaRLaw
import Derived.Test.YtepnjknblppfcaaRHold
import Derived.Test.YtepnjknblppfcaaRTurn
namespace Go.Proofs.Ytepnjknblppfcaa
open Go.RowKit Go.Sort

theorem inF_is {ps : List Pp} (hg : Gl ps) (p : Pp) : inF ps p = insideG ps p := by
  by_cases h : clP p = p
  · rw [inF_grid hg h, insideG_in h]
  · rw [inF_beyond hg h]
    exact (if_neg h).symm

theorem ringC : RingC where
  area := fun v ps w hs _ hl => ringArea_any v ps w hs (by omega)
  inside := fun v ps px py w hs hg hl => by
    have h := ringIn_any v ps px py w hs (by omega)
    rwa [inF_is hg] at h

  holds := fun u v ps ms w hu hv hg hgm hl hm => by
    have h := ringHolds_any u v ps ms w hu hv (by omega) (by omega)
    have e : (decide (0 < ms.length) && ms.all fun m => inF ps m == 1) = holdsL ps ms := by
      unfold holdsL
      congr 1
      rw [Bool.eq_iff_iff, List.all_eq_true, List.all_eq_true]
      exact forall_congr' fun m => forall_congr' fun hm => by rw [inF_grid hg (hgm m hm)]
    rwa [e] at h


  turned := fun v ps w hs _ hl => ringTurned_any v ps w hs (by omega)

end Go.Proofs.Ytepnjknblppfcaa
