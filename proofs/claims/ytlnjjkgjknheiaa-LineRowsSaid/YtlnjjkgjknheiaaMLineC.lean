/-
  line answers as exact numbers say.
-/
import Derived.Test.YtlnjjkgjknheiaaMH
import Derived.Test.YtlnjjkgjknheiaaMI
import Derived.Test.YtlnjjkgjknheiaaMSplit
import Derived.Test.YtlnjjkgjknheiaaMApartB
import Derived.Test.YtlnjjkgjknheiaaMSame
namespace Go.Proofs.Ytlnjjkgjknheiaa
open Go.RowKit Go.Sort

theorem lineC : LineC where
  ok := fun v ps w hs _ hl => lineOk_any v ps w hs.pts (by omega)
  closed := fun v ps w hs hg hl => lineClosed_any v ps w hs.pts hg (by omega)
  split := fun v ps px py w hs hg hp hl => lineSplit_any v ps px py w hs hg hp hl
  apart := fun u v ps qs w hu hv ho1 ho2 => lineApart_any u v ps qs w hu hv (by have := okL_len ho1; omega) (by have := okL_len ho2; omega) (by have := okL_len ho1; omega) (by have := okL_len ho2; omega)







end Go.Proofs.Ytlnjjkgjknheiaa
