/-
  The document's near, Clean, Ok.
-/
import Derived.Test.YthalnfnfnaknnaaQOk
import Derived.Test.YthalnfnfnaknnaaQRefN
namespace Go.Proofs.Ythalnfnfnaknnaa
open Go.RowKit Go.Sort


































end Go.Proofs.Ythalnfnfnaknnaa
