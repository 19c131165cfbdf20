/-
  NARROWER THAN 'FOR EVERY INPUT', by the rows' own cells (each row's printed sentence says how): PackSums: laid · PackMany: laid · PackNumbers: laid · PackReads: laid · PackParts: laid · PackSeals: laid.
  DERIVED. THE GIVEN ROWS OF THIS SEAT. 6 by the template 'for every input the law returns true; each argument reads behind the call as it read before'; 0 by the template 'total and deterministic' (their statements: YtongdccpoefnlaaDoorTotals.lean).
  GIVEN WITH THE SEED: the statements are not yours to turn. If you find one false, say at which input.
  Laid BY PROGRAM, IN A SANDBOX (cutbox-rows.mjs): the forced cells as the released guide's own fill.sh prints them over the translation d01859d0b1e3cdc0… (all of the seat's roots in one cut). By AI agents, Wed Nov 11 2026. No macro, syntax, notation, axiom, sorry.
-/
import Derived.Test.YtongdccpoefnlaaDoorChecked
import GoSem.Claim
import GoSem.ClaimJoined
import GoSem.ClaimMapViews
import Derived.JoinedTies
import Derived.KernelRfl
namespace Go.Proofs.YtongdccpoefnlaaDoor
/- THE CELL 'sum', in the pinned program and in every row, IS THE sha256 OF THE DUMP (.gsa) THAT YtongdccpoefnlaaDoorProg.lean LOADS. Nothing in Lean hashes anything: it is a label: what it is worth is what the hold of that sum in a sandbox is worth. -/
noncomputable def Tryd.pinned : Pinned := { name := "ytongdccpoefnlaadoor", sum := "d01859d0b1e3cdc03b6cd607e57375e5c5fb9b5439da915372594180d811cbc3", checked := Tryd.checked }
namespace Rows
def none {H : Type} : Left H := { results := [], args := [] }

/- WHAT THE LISTED PACKAGE-LEVEL VARIABLES READ AS WHEN THE CALL BEGINS. Each datum BY PROGRAM (the guide's laid-datum.mjs) off the statement by which the dump's own 'gosem.cut.vars' lays the variable. In a bare row this is a premise. The card (YtongdccpoefnlaaDoorCards.lean) ties it to the program's text. -/
def laid_terrier_pack_crcOfHalf {H : Type} : DataW H := .agg [.lit (.int .u32 0), .lit (.int .u32 498536548), .lit (.int .u32 997073096), .lit (.int .u32 651767980), .lit (.int .u32 1994146192), .lit (.int .u32 1802195444), .lit (.int .u32 1303535960), .lit (.int .u32 1342533948), .lit (.int .u32 3988292384), .lit (.int .u32 4027552580), .lit (.int .u32 3604390888), .lit (.int .u32 3412177804), .lit (.int .u32 2607071920), .lit (.int .u32 2262029012), .lit (.int .u32 2685067896), .lit (.int .u32 3183342108)]

/-- 'terrierlaw1.PackSums': WHATEVER THE INPUT: true; the input reads as it did. -/
def packSumsSpec : ChangeSpec := { name := "packSums", fn := fun _ => fun
  | [d1, d2, d3] => { results := [.lit (.bool true)], args := [d1, d2, d3] }
  | _ => none }
def packSumsRow : OpenClaim := { program := "ytongdccpoefnlaadoor", sum := "d01859d0b1e3cdc03b6cd607e57375e5c5fb9b5439da915372594180d811cbc3", func := "terrier/terrierlaw1.PackSums", spec := "packSums", named := ["terrier/pack.crcOfHalf"], apart := false, laid := [("terrier/pack.crcOfHalf", laid_terrier_pack_crcOfHalf)] }
def PackSumsSaid : Prop := packSumsRow.holds Tryd.pinned (OpenSpec.ofChange packSumsSpec)

/-- ITS FALSE NEIGHBOUR: 'it returns false'. Refute it at one input. -/
def packSumsWrong : ChangeSpec := { name := "packSums", fn := fun _ => fun
  | [d1, d2, d3] => { results := [.lit (.bool false)], args := [d1, d2, d3] }
  | _ => none }
def PackSumsWrongFalsely : Prop := packSumsRow.holds Tryd.pinned (OpenSpec.ofChange packSumsWrong)

/-- 'terrierlaw1.PackMany': WHATEVER THE INPUT: true; the input reads as it did. -/
def packManySpec : ChangeSpec := { name := "packMany", fn := fun _ => fun
  | [d1, d2] => { results := [.lit (.bool true)], args := [d1, d2] }
  | _ => none }
def packManyRow : OpenClaim := { program := "ytongdccpoefnlaadoor", sum := "d01859d0b1e3cdc03b6cd607e57375e5c5fb9b5439da915372594180d811cbc3", func := "terrier/terrierlaw1.PackMany", spec := "packMany", named := ["terrier/pack.crcOfHalf"], apart := false, laid := [("terrier/pack.crcOfHalf", laid_terrier_pack_crcOfHalf)] }
def PackManySaid : Prop := packManyRow.holds Tryd.pinned (OpenSpec.ofChange packManySpec)

/-- ITS FALSE NEIGHBOUR: 'it returns false'. Refute it at one input. -/
def packManyWrong : ChangeSpec := { name := "packMany", fn := fun _ => fun
  | [d1, d2] => { results := [.lit (.bool false)], args := [d1, d2] }
  | _ => none }
def PackManyWrongFalsely : Prop := packManyRow.holds Tryd.pinned (OpenSpec.ofChange packManyWrong)

/-- 'terrierlaw1.PackNumbers': WHATEVER THE INPUT: true; the input reads as it did. -/
def packNumbersSpec : ChangeSpec := { name := "packNumbers", fn := fun _ => fun
  | [d1, d2, d3] => { results := [.lit (.bool true)], args := [d1, d2, d3] }
  | _ => none }
def packNumbersRow : OpenClaim := { program := "ytongdccpoefnlaadoor", sum := "d01859d0b1e3cdc03b6cd607e57375e5c5fb9b5439da915372594180d811cbc3", func := "terrier/terrierlaw1.PackNumbers", spec := "packNumbers", named := ["terrier/pack.crcOfHalf"], apart := false, laid := [("terrier/pack.crcOfHalf", laid_terrier_pack_crcOfHalf)] }
def PackNumbersSaid : Prop := packNumbersRow.holds Tryd.pinned (OpenSpec.ofChange packNumbersSpec)

/-- ITS FALSE NEIGHBOUR: 'it returns false'. Refute it at one input. -/
def packNumbersWrong : ChangeSpec := { name := "packNumbers", fn := fun _ => fun
  | [d1, d2, d3] => { results := [.lit (.bool false)], args := [d1, d2, d3] }
  | _ => none }
def PackNumbersWrongFalsely : Prop := packNumbersRow.holds Tryd.pinned (OpenSpec.ofChange packNumbersWrong)

/-- 'terrierlaw1.PackReads': WHATEVER THE INPUT: true; the input reads as it did. -/
def packReadsSpec : ChangeSpec := { name := "packReads", fn := fun _ => fun
  | [d] => { results := [.lit (.bool true)], args := [d] }
  | _ => none }
def packReadsRow : OpenClaim := { program := "ytongdccpoefnlaadoor", sum := "d01859d0b1e3cdc03b6cd607e57375e5c5fb9b5439da915372594180d811cbc3", func := "terrier/terrierlaw1.PackReads", spec := "packReads", named := ["terrier/pack.crcOfHalf"], apart := false, laid := [("terrier/pack.crcOfHalf", laid_terrier_pack_crcOfHalf)] }
def PackReadsSaid : Prop := packReadsRow.holds Tryd.pinned (OpenSpec.ofChange packReadsSpec)

/-- ITS FALSE NEIGHBOUR: 'it returns false'. Refute it at one input. -/
def packReadsWrong : ChangeSpec := { name := "packReads", fn := fun _ => fun
  | [d] => { results := [.lit (.bool false)], args := [d] }
  | _ => none }
def PackReadsWrongFalsely : Prop := packReadsRow.holds Tryd.pinned (OpenSpec.ofChange packReadsWrong)

/-- 'terrierlaw1.PackParts': WHATEVER THE INPUT: true; the input reads as it did. -/
def packPartsSpec : ChangeSpec := { name := "packParts", fn := fun _ => fun
  | [d1, d2] => { results := [.lit (.bool true)], args := [d1, d2] }
  | _ => none }
def packPartsRow : OpenClaim := { program := "ytongdccpoefnlaadoor", sum := "d01859d0b1e3cdc03b6cd607e57375e5c5fb9b5439da915372594180d811cbc3", func := "terrier/terrierlaw1.PackParts", spec := "packParts", unfollowed := true, recurses := true, named := ["terrier/pack.crcOfHalf"], apart := false, laid := [("terrier/pack.crcOfHalf", laid_terrier_pack_crcOfHalf)] }
def PackPartsSaid : Prop := packPartsRow.holds Tryd.pinned (OpenSpec.ofChange packPartsSpec)

/-- ITS FALSE NEIGHBOUR: 'it returns false'. Refute it at one input. -/
def packPartsWrong : ChangeSpec := { name := "packParts", fn := fun _ => fun
  | [d1, d2] => { results := [.lit (.bool false)], args := [d1, d2] }
  | _ => none }
def PackPartsWrongFalsely : Prop := packPartsRow.holds Tryd.pinned (OpenSpec.ofChange packPartsWrong)

/-- 'terrierlaw1.PackSeals': WHATEVER THE INPUT: true; the input reads as it did. -/
def packSealsSpec : ChangeSpec := { name := "packSeals", fn := fun _ => fun
  | [d1, d2, d3] => { results := [.lit (.bool true)], args := [d1, d2, d3] }
  | _ => none }
def packSealsRow : OpenClaim := { program := "ytongdccpoefnlaadoor", sum := "d01859d0b1e3cdc03b6cd607e57375e5c5fb9b5439da915372594180d811cbc3", func := "terrier/terrierlaw1.PackSeals", spec := "packSeals", named := ["terrier/pack.crcOfHalf"], apart := false, laid := [("terrier/pack.crcOfHalf", laid_terrier_pack_crcOfHalf)] }
def PackSealsSaid : Prop := packSealsRow.holds Tryd.pinned (OpenSpec.ofChange packSealsSpec)

/-- ITS FALSE NEIGHBOUR: 'it returns false'. Refute it at one input. -/
def packSealsWrong : ChangeSpec := { name := "packSeals", fn := fun _ => fun
  | [d1, d2, d3] => { results := [.lit (.bool false)], args := [d1, d2, d3] }
  | _ => none }
def PackSealsWrongFalsely : Prop := packSealsRow.holds Tryd.pinned (OpenSpec.ofChange packSealsWrong)

/- THE SECOND FORM. 'bulk': how many values and letters a reading holds, each counted each time it is reached (what is shared counts as often as it is met; a slice's spare places count too). A statement '..UptoSaid' is the law's where the arguments, and the package variables that the reading takes, are together of bulk at most 1048576: NARROWER than '..Said'. Prove '..Said' where nothing that the law and all that it calls make is longer than what came in: it says more and counts as full. Else prove '..UptoSaid'. A law counts once. -/
mutual
def uptoBulk {H : Type} : DataW H → Nat
  | .lit (.string bytes) => bytes.length + 1
  | .lit _ => 1
  | .nil => 1
  | .ptr d => uptoBulk d + 1
  | .slice elems spare => uptoBulkAll elems + uptoBulkAll spare + 1
  | .agg parts => uptoBulkAll parts + 1
  | .iface _ d => uptoBulk d + 1
  | .map entries => uptoBulkEntries entries + 1
  | .held _ => 1
def uptoBulkAll {H : Type} : List (DataW H) → Nat
  | [] => 0
  | d :: r => uptoBulk d + uptoBulkAll r
def uptoBulkEntries {H : Type} : List (Lit × DataW H) → Nat
  | [] => 0
  | x :: r => uptoBulkEntry x + uptoBulkEntries r
def uptoBulkEntry {H : Type} : Lit × DataW H → Nat
  | (.string bytes, d) => bytes.length + uptoBulk d + 1
  | (_, d) => uptoBulk d + 1
 end
def uptoSmall : (H : Type) → List (DataW H) → Bool := fun _ ds => decide (uptoBulkAll ds ≤ 1048576)
def OpenSpec.upto (s : _root_.Go.ChangeSpec) : _root_.Go.OpenSpec := { _root_.Go.OpenSpec.ofChange s with cond := some uptoSmall }

/-- 'terrierlaw1.PackSums', WHERE WHAT IT READS IS OF BULK AT MOST 1048576: true; the input reads as it did. -/
def packSumsUptoRow : OpenClaim := { program := "ytongdccpoefnlaadoor", sum := "d01859d0b1e3cdc03b6cd607e57375e5c5fb9b5439da915372594180d811cbc3", func := "terrier/terrierlaw1.PackSums", spec := "packSums", named := ["terrier/pack.crcOfHalf"], apart := false, laid := [("terrier/pack.crcOfHalf", laid_terrier_pack_crcOfHalf)], narrowed := true }
def PackSumsUptoSaid : Prop := packSumsUptoRow.holds Tryd.pinned (OpenSpec.upto packSumsSpec)

/-- 'terrierlaw1.PackMany', WHERE WHAT IT READS IS OF BULK AT MOST 1048576: true; the input reads as it did. -/
def packManyUptoRow : OpenClaim := { program := "ytongdccpoefnlaadoor", sum := "d01859d0b1e3cdc03b6cd607e57375e5c5fb9b5439da915372594180d811cbc3", func := "terrier/terrierlaw1.PackMany", spec := "packMany", named := ["terrier/pack.crcOfHalf"], apart := false, laid := [("terrier/pack.crcOfHalf", laid_terrier_pack_crcOfHalf)], narrowed := true }
def PackManyUptoSaid : Prop := packManyUptoRow.holds Tryd.pinned (OpenSpec.upto packManySpec)

/-- 'terrierlaw1.PackNumbers', WHERE WHAT IT READS IS OF BULK AT MOST 1048576: true; the input reads as it did. -/
def packNumbersUptoRow : OpenClaim := { program := "ytongdccpoefnlaadoor", sum := "d01859d0b1e3cdc03b6cd607e57375e5c5fb9b5439da915372594180d811cbc3", func := "terrier/terrierlaw1.PackNumbers", spec := "packNumbers", named := ["terrier/pack.crcOfHalf"], apart := false, laid := [("terrier/pack.crcOfHalf", laid_terrier_pack_crcOfHalf)], narrowed := true }
def PackNumbersUptoSaid : Prop := packNumbersUptoRow.holds Tryd.pinned (OpenSpec.upto packNumbersSpec)

/-- 'terrierlaw1.PackReads', WHERE WHAT IT READS IS OF BULK AT MOST 1048576: true; the input reads as it did. -/
def packReadsUptoRow : OpenClaim := { program := "ytongdccpoefnlaadoor", sum := "d01859d0b1e3cdc03b6cd607e57375e5c5fb9b5439da915372594180d811cbc3", func := "terrier/terrierlaw1.PackReads", spec := "packReads", named := ["terrier/pack.crcOfHalf"], apart := false, laid := [("terrier/pack.crcOfHalf", laid_terrier_pack_crcOfHalf)], narrowed := true }
def PackReadsUptoSaid : Prop := packReadsUptoRow.holds Tryd.pinned (OpenSpec.upto packReadsSpec)

/-- 'terrierlaw1.PackParts', WHERE WHAT IT READS IS OF BULK AT MOST 1048576: true; the input reads as it did. -/
def packPartsUptoRow : OpenClaim := { program := "ytongdccpoefnlaadoor", sum := "d01859d0b1e3cdc03b6cd607e57375e5c5fb9b5439da915372594180d811cbc3", func := "terrier/terrierlaw1.PackParts", spec := "packParts", unfollowed := true, recurses := true, named := ["terrier/pack.crcOfHalf"], apart := false, laid := [("terrier/pack.crcOfHalf", laid_terrier_pack_crcOfHalf)], narrowed := true }
def PackPartsUptoSaid : Prop := packPartsUptoRow.holds Tryd.pinned (OpenSpec.upto packPartsSpec)

/-- 'terrierlaw1.PackSeals', WHERE WHAT IT READS IS OF BULK AT MOST 1048576: true; the input reads as it did. -/
def packSealsUptoRow : OpenClaim := { program := "ytongdccpoefnlaadoor", sum := "d01859d0b1e3cdc03b6cd607e57375e5c5fb9b5439da915372594180d811cbc3", func := "terrier/terrierlaw1.PackSeals", spec := "packSeals", named := ["terrier/pack.crcOfHalf"], apart := false, laid := [("terrier/pack.crcOfHalf", laid_terrier_pack_crcOfHalf)], narrowed := true }
def PackSealsUptoSaid : Prop := packSealsUptoRow.holds Tryd.pinned (OpenSpec.upto packSealsSpec)

end Rows
end Go.Proofs.YtongdccpoefnlaaDoor
