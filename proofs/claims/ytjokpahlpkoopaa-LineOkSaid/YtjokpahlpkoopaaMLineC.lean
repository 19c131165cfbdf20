/-
  line answers as exact numbers say.
-/
import Derived.Test.YtjokpahlpkoopaaMH
import Derived.Test.YtjokpahlpkoopaaMI
import Derived.Test.YtjokpahlpkoopaaMSplit
import Derived.Test.YtjokpahlpkoopaaMApartB
import Derived.Test.YtjokpahlpkoopaaMSame
namespace Go.Proofs.Ytjokpahlpkoopaa
open Go.RowKit Go.Sort

theorem lineC : LineC where
  ok := fun v ps w hs _ hl => lineOk_any v ps w hs.pts (by omega)
  closed := fun v ps w hs hg hl => lineClosed_any v ps w hs.pts hg (by omega)
  split := fun v ps px py w hs hg hp hl => lineSplit_any v ps px py w hs hg hp hl
  apart := fun u v ps qs w hu hv ho1 ho2 => lineApart_any u v ps qs w hu.pts hv.pts (by have := okL_len ho1; omega) (by have := okL_len ho2; omega)

  simple := fun v ps w hs hg hl => lineSimple_any v ps w hs.pts hg (by omega)
  rev := fun v ps w hs _ hl => lineReverse_any v ps w hs (by omega)
  join := fun u v ps qs w hu hv _ _ h1 h2 => (joinRow_any u v ps qs w hu hv (by omega) (by omega)).mono fun _e _w' ⟨⟨x, he, hx⟩, hb⟩ => ⟨⟨x, he, hx.src⟩, hb⟩
  at_ := fun v ps px py w hs hg hp hl => lineAt_any v ps px py w hs.pts hg hp (by omega)
  same := fun u v ps qs w hu hv _ _ h1 _ => lineSame_any u v ps qs w hu.pts hv.pts (by omega)

end Go.Proofs.Ytjokpahlpkoopaa
