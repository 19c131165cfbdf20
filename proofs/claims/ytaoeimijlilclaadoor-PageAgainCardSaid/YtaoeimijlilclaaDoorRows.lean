/-
  NARROWER THAN 'FOR EVERY INPUT', by the rows' own cells (each row's printed sentence says how): PageAgain: laid · PagePlays: laid · PageEach: laid · PageBounds: laid.
  DERIVED. THE GIVEN ROWS OF THIS SEAT. 4 by the template 'for every input the law returns true; each argument reads behind the call as it read before'; 0 by the template 'total and deterministic' (their statements: YtaoeimijlilclaaDoorTotals.lean).
  GIVEN WITH THE SEED: the statements are not yours to turn. If you find one false, say at which input.
  Laid BY PROGRAM, IN A SANDBOX (cutbox-rows.mjs): the forced cells as the released guide's own fill.sh prints them over the translation 3fe34b0aa0833788… (all of the seat's roots in one cut). By AI agents, Wed Nov 11 2026. No macro, syntax, notation, axiom, sorry.
-/
import Derived.Test.YtaoeimijlilclaaDoorChecked
import GoSem.Claim
import GoSem.ClaimJoined
import GoSem.ClaimMapViews
import Derived.JoinedTies
import Derived.KernelRfl
namespace Go.Proofs.YtaoeimijlilclaaDoor
/- THE CELL 'sum', in the pinned program and in every row, IS THE sha256 OF THE DUMP (.gsa) THAT YtaoeimijlilclaaDoorProg.lean LOADS. Nothing in Lean hashes anything: it is a label: what it is worth is what the hold of that sum in a sandbox is worth. -/
noncomputable def Tryd.pinned : Pinned := { name := "ytaoeimijlilclaadoor", sum := "3fe34b0aa08337887fe71c35f5dda9322550a90d5345f684e7ddcfac8a6b43ce", checked := Tryd.checked }
namespace Rows
def none {H : Type} : Left H := { results := [], args := [] }

/- WHAT THE LISTED PACKAGE-LEVEL VARIABLES READ AS WHEN THE CALL BEGINS. Each datum BY PROGRAM (the guide's laid-datum.mjs) off the statement by which the dump's own 'gosem.cut.vars' lays the variable. In a bare row this is a premise. The card (YtaoeimijlilclaaDoorCards.lean) ties it to the program's text. -/
def laid_terrier_pack_crcOfHalf {H : Type} : DataW H := .agg [.lit (.int .u32 0), .lit (.int .u32 498536548), .lit (.int .u32 997073096), .lit (.int .u32 651767980), .lit (.int .u32 1994146192), .lit (.int .u32 1802195444), .lit (.int .u32 1303535960), .lit (.int .u32 1342533948), .lit (.int .u32 3988292384), .lit (.int .u32 4027552580), .lit (.int .u32 3604390888), .lit (.int .u32 3412177804), .lit (.int .u32 2607071920), .lit (.int .u32 2262029012), .lit (.int .u32 2685067896), .lit (.int .u32 3183342108)]

/-- 'terrierlaw3.PageAgain': WHATEVER THE INPUT: true; the input reads as it did. -/
def pageAgainSpec : ChangeSpec := { name := "pageAgain", fn := fun _ => fun
  | [d1, d2] => { results := [.lit (.bool true)], args := [d1, d2] }
  | _ => none }
def pageAgainRow : OpenClaim := { program := "ytaoeimijlilclaadoor", sum := "3fe34b0aa08337887fe71c35f5dda9322550a90d5345f684e7ddcfac8a6b43ce", func := "terrier/terrierlaw3.PageAgain", spec := "pageAgain", unfollowed := true, recurses := true, named := ["terrier/pack.crcOfHalf"], apart := false, laid := [("terrier/pack.crcOfHalf", laid_terrier_pack_crcOfHalf)] }
def PageAgainSaid : Prop := pageAgainRow.holds Tryd.pinned (OpenSpec.ofChange pageAgainSpec)

/-- ITS FALSE NEIGHBOUR: 'it returns false'. Refute it at one input. -/
def pageAgainWrong : ChangeSpec := { name := "pageAgain", fn := fun _ => fun
  | [d1, d2] => { results := [.lit (.bool false)], args := [d1, d2] }
  | _ => none }
def PageAgainWrongFalsely : Prop := pageAgainRow.holds Tryd.pinned (OpenSpec.ofChange pageAgainWrong)

/-- 'terrierlaw3.PagePlays': WHATEVER THE INPUT: true; the input reads as it did. -/
def pagePlaysSpec : ChangeSpec := { name := "pagePlays", fn := fun _ => fun
  | [d] => { results := [.lit (.bool true)], args := [d] }
  | _ => none }
def pagePlaysRow : OpenClaim := { program := "ytaoeimijlilclaadoor", sum := "3fe34b0aa08337887fe71c35f5dda9322550a90d5345f684e7ddcfac8a6b43ce", func := "terrier/terrierlaw3.PagePlays", spec := "pagePlays", unfollowed := true, recurses := true, named := ["terrier/pack.crcOfHalf"], apart := false, laid := [("terrier/pack.crcOfHalf", laid_terrier_pack_crcOfHalf)] }
def PagePlaysSaid : Prop := pagePlaysRow.holds Tryd.pinned (OpenSpec.ofChange pagePlaysSpec)

/-- ITS FALSE NEIGHBOUR: 'it returns false'. Refute it at one input. -/
def pagePlaysWrong : ChangeSpec := { name := "pagePlays", fn := fun _ => fun
  | [d] => { results := [.lit (.bool false)], args := [d] }
  | _ => none }
def PagePlaysWrongFalsely : Prop := pagePlaysRow.holds Tryd.pinned (OpenSpec.ofChange pagePlaysWrong)

/-- 'terrierlaw3.PageEach': WHATEVER THE INPUT: true; the input reads as it did. -/
def pageEachSpec : ChangeSpec := { name := "pageEach", fn := fun _ => fun
  | [d1, d2, d3, d4] => { results := [.lit (.bool true)], args := [d1, d2, d3, d4] }
  | _ => none }
def pageEachRow : OpenClaim := { program := "ytaoeimijlilclaadoor", sum := "3fe34b0aa08337887fe71c35f5dda9322550a90d5345f684e7ddcfac8a6b43ce", func := "terrier/terrierlaw3.PageEach", spec := "pageEach", unfollowed := true, recurses := true, named := ["terrier/pack.crcOfHalf"], apart := false, laid := [("terrier/pack.crcOfHalf", laid_terrier_pack_crcOfHalf)] }
def PageEachSaid : Prop := pageEachRow.holds Tryd.pinned (OpenSpec.ofChange pageEachSpec)

/-- ITS FALSE NEIGHBOUR: 'it returns false'. Refute it at one input. -/
def pageEachWrong : ChangeSpec := { name := "pageEach", fn := fun _ => fun
  | [d1, d2, d3, d4] => { results := [.lit (.bool false)], args := [d1, d2, d3, d4] }
  | _ => none }
def PageEachWrongFalsely : Prop := pageEachRow.holds Tryd.pinned (OpenSpec.ofChange pageEachWrong)

/-- 'terrierlaw3.PageBounds': WHATEVER THE INPUT: true; the input reads as it did. -/
def pageBoundsSpec : ChangeSpec := { name := "pageBounds", fn := fun _ => fun
  | [d1, d2, d3] => { results := [.lit (.bool true)], args := [d1, d2, d3] }
  | _ => none }
def pageBoundsRow : OpenClaim := { program := "ytaoeimijlilclaadoor", sum := "3fe34b0aa08337887fe71c35f5dda9322550a90d5345f684e7ddcfac8a6b43ce", func := "terrier/terrierlaw3.PageBounds", spec := "pageBounds", unfollowed := true, recurses := true, named := ["terrier/pack.crcOfHalf"], apart := false, laid := [("terrier/pack.crcOfHalf", laid_terrier_pack_crcOfHalf)] }
def PageBoundsSaid : Prop := pageBoundsRow.holds Tryd.pinned (OpenSpec.ofChange pageBoundsSpec)

/-- ITS FALSE NEIGHBOUR: 'it returns false'. Refute it at one input. -/
def pageBoundsWrong : ChangeSpec := { name := "pageBounds", fn := fun _ => fun
  | [d1, d2, d3] => { results := [.lit (.bool false)], args := [d1, d2, d3] }
  | _ => none }
def PageBoundsWrongFalsely : Prop := pageBoundsRow.holds Tryd.pinned (OpenSpec.ofChange pageBoundsWrong)

/- THE SECOND FORM. 'bulk': how many values and letters a reading holds, each counted each time it is reached (what is shared counts as often as it is met; a slice's spare places count too). A statement '..UptoSaid' is the law's where the arguments, and the package variables that the reading takes, are together of bulk at most 1048576: NARROWER than '..Said'. Prove '..Said' where nothing that the law and all that it calls make is longer than what came in: it says more and counts as full. Else prove '..UptoSaid'. A law counts once. -/
mutual
def uptoBulk {H : Type} : DataW H → Nat
  | .lit (.string bytes) => bytes.length + 1
  | .lit _ => 1
  | .nil => 1
  | .ptr d => uptoBulk d + 1
  | .slice elems spare => uptoBulkAll elems + uptoBulkAll spare + 1
  | .agg parts => uptoBulkAll parts + 1
  | .iface _ d => uptoBulk d + 1
  | .map entries => uptoBulkEntries entries + 1
  | .held _ => 1
def uptoBulkAll {H : Type} : List (DataW H) → Nat
  | [] => 0
  | d :: r => uptoBulk d + uptoBulkAll r
def uptoBulkEntries {H : Type} : List (Lit × DataW H) → Nat
  | [] => 0
  | x :: r => uptoBulkEntry x + uptoBulkEntries r
def uptoBulkEntry {H : Type} : Lit × DataW H → Nat
  | (.string bytes, d) => bytes.length + uptoBulk d + 1
  | (_, d) => uptoBulk d + 1
 end
def uptoSmall : (H : Type) → List (DataW H) → Bool := fun _ ds => decide (uptoBulkAll ds ≤ 1048576)
def OpenSpec.upto (s : _root_.Go.ChangeSpec) : _root_.Go.OpenSpec := { _root_.Go.OpenSpec.ofChange s with cond := some uptoSmall }

/-- 'terrierlaw3.PageAgain', WHERE WHAT IT READS IS OF BULK AT MOST 1048576: true; the input reads as it did. -/
def pageAgainUptoRow : OpenClaim := { program := "ytaoeimijlilclaadoor", sum := "3fe34b0aa08337887fe71c35f5dda9322550a90d5345f684e7ddcfac8a6b43ce", func := "terrier/terrierlaw3.PageAgain", spec := "pageAgain", unfollowed := true, recurses := true, named := ["terrier/pack.crcOfHalf"], apart := false, laid := [("terrier/pack.crcOfHalf", laid_terrier_pack_crcOfHalf)], narrowed := true }
def PageAgainUptoSaid : Prop := pageAgainUptoRow.holds Tryd.pinned (OpenSpec.upto pageAgainSpec)

/-- 'terrierlaw3.PagePlays', WHERE WHAT IT READS IS OF BULK AT MOST 1048576: true; the input reads as it did. -/
def pagePlaysUptoRow : OpenClaim := { program := "ytaoeimijlilclaadoor", sum := "3fe34b0aa08337887fe71c35f5dda9322550a90d5345f684e7ddcfac8a6b43ce", func := "terrier/terrierlaw3.PagePlays", spec := "pagePlays", unfollowed := true, recurses := true, named := ["terrier/pack.crcOfHalf"], apart := false, laid := [("terrier/pack.crcOfHalf", laid_terrier_pack_crcOfHalf)], narrowed := true }
def PagePlaysUptoSaid : Prop := pagePlaysUptoRow.holds Tryd.pinned (OpenSpec.upto pagePlaysSpec)

/-- 'terrierlaw3.PageEach', WHERE WHAT IT READS IS OF BULK AT MOST 1048576: true; the input reads as it did. -/
def pageEachUptoRow : OpenClaim := { program := "ytaoeimijlilclaadoor", sum := "3fe34b0aa08337887fe71c35f5dda9322550a90d5345f684e7ddcfac8a6b43ce", func := "terrier/terrierlaw3.PageEach", spec := "pageEach", unfollowed := true, recurses := true, named := ["terrier/pack.crcOfHalf"], apart := false, laid := [("terrier/pack.crcOfHalf", laid_terrier_pack_crcOfHalf)], narrowed := true }
def PageEachUptoSaid : Prop := pageEachUptoRow.holds Tryd.pinned (OpenSpec.upto pageEachSpec)

/-- 'terrierlaw3.PageBounds', WHERE WHAT IT READS IS OF BULK AT MOST 1048576: true; the input reads as it did. -/
def pageBoundsUptoRow : OpenClaim := { program := "ytaoeimijlilclaadoor", sum := "3fe34b0aa08337887fe71c35f5dda9322550a90d5345f684e7ddcfac8a6b43ce", func := "terrier/terrierlaw3.PageBounds", spec := "pageBounds", unfollowed := true, recurses := true, named := ["terrier/pack.crcOfHalf"], apart := false, laid := [("terrier/pack.crcOfHalf", laid_terrier_pack_crcOfHalf)], narrowed := true }
def PageBoundsUptoSaid : Prop := pageBoundsUptoRow.holds Tryd.pinned (OpenSpec.upto pageBoundsSpec)

end Rows
end Go.Proofs.YtaoeimijlilclaaDoor
