/-
  NARROWER THAN 'FOR EVERY INPUT', by the rows' own cells (each row's printed sentence says how): IndexMakes: laid · IndexSeeks: laid · IndexFinds: laid · IndexFew: laid.
  DERIVED. THE GIVEN ROWS OF THIS SEAT. 4 by the template 'for every input the law returns true; each argument reads behind the call as it read before'; 0 by the template 'total and deterministic' (their statements: YtffmfgbjlijpeaaDoorTotals.lean).
  GIVEN WITH THE SEED: the statements are not yours to turn. If you find one false, say at which input.
  Laid BY PROGRAM, IN A SANDBOX (cutbox-rows.mjs): the forced cells as the released guide's own fill.sh prints them over the translation d8a7ae1f991d78fc… (all of the seat's roots in one cut). By AI agents, Wed Nov 11 2026. No macro, syntax, notation, axiom, sorry.
-/
import Derived.Test.YtffmfgbjlijpeaaDoorChecked
import GoSem.Claim
import GoSem.ClaimJoined
import GoSem.ClaimMapViews
import Derived.JoinedTies
import Derived.KernelRfl
namespace Go.Proofs.YtffmfgbjlijpeaaDoor
/- THE CELL 'sum', in the pinned program and in every row, IS THE sha256 OF THE DUMP (.gsa) THAT YtffmfgbjlijpeaaDoorProg.lean LOADS. Nothing in Lean hashes anything: it is a label: what it is worth is what the hold of that sum in a sandbox is worth. -/
noncomputable def Tryd.pinned : Pinned := { name := "ytffmfgbjlijpeaadoor", sum := "d8a7ae1f991d78fc4437b4fcfa7d2fedbcc30198e5b173a69989aaf3f5bef2a8", checked := Tryd.checked }
namespace Rows
def none {H : Type} : Left H := { results := [], args := [] }

/- WHAT THE LISTED PACKAGE-LEVEL VARIABLES READ AS WHEN THE CALL BEGINS. Each datum BY PROGRAM (the guide's laid-datum.mjs) off the statement by which the dump's own 'gosem.cut.vars' lays the variable. In a bare row this is a premise. The card (YtffmfgbjlijpeaaDoorCards.lean) ties it to the program's text. -/
def laid_cooperage_crc_half {H : Type} : DataW H := .agg [.lit (.int .u32 0), .lit (.int .u32 498536548), .lit (.int .u32 997073096), .lit (.int .u32 651767980), .lit (.int .u32 1994146192), .lit (.int .u32 1802195444), .lit (.int .u32 1303535960), .lit (.int .u32 1342533948), .lit (.int .u32 3988292384), .lit (.int .u32 4027552580), .lit (.int .u32 3604390888), .lit (.int .u32 3412177804), .lit (.int .u32 2607071920), .lit (.int .u32 2262029012), .lit (.int .u32 2685067896), .lit (.int .u32 3183342108)]

/-- 'cooperagelaw9.IndexMakes': WHATEVER THE INPUT: true; the input reads as it did. -/
def indexMakesSpec : ChangeSpec := { name := "indexMakes", fn := fun _ => fun
  | [d1, d2] => { results := [.lit (.bool true)], args := [d1, d2] }
  | _ => none }
def indexMakesRow : OpenClaim := { program := "ytffmfgbjlijpeaadoor", sum := "d8a7ae1f991d78fc4437b4fcfa7d2fedbcc30198e5b173a69989aaf3f5bef2a8", func := "cooperage/cooperagelaw9.IndexMakes", spec := "indexMakes", named := ["cooperage/crc.half"], apart := false, laid := [("cooperage/crc.half", laid_cooperage_crc_half)] }
def IndexMakesSaid : Prop := indexMakesRow.holds Tryd.pinned (OpenSpec.ofChange indexMakesSpec)

/-- ITS FALSE NEIGHBOUR: 'it returns false'. Refute it at one input. -/
def indexMakesWrong : ChangeSpec := { name := "indexMakes", fn := fun _ => fun
  | [d1, d2] => { results := [.lit (.bool false)], args := [d1, d2] }
  | _ => none }
def IndexMakesWrongFalsely : Prop := indexMakesRow.holds Tryd.pinned (OpenSpec.ofChange indexMakesWrong)

/-- 'cooperagelaw9.IndexSeeks': WHATEVER THE INPUT: true; the input reads as it did. -/
def indexSeeksSpec : ChangeSpec := { name := "indexSeeks", fn := fun _ => fun
  | [d1, d2, d3] => { results := [.lit (.bool true)], args := [d1, d2, d3] }
  | _ => none }
def indexSeeksRow : OpenClaim := { program := "ytffmfgbjlijpeaadoor", sum := "d8a7ae1f991d78fc4437b4fcfa7d2fedbcc30198e5b173a69989aaf3f5bef2a8", func := "cooperage/cooperagelaw9.IndexSeeks", spec := "indexSeeks", unfollowed := true, recurses := true, named := ["cooperage/crc.half"], apart := false, laid := [("cooperage/crc.half", laid_cooperage_crc_half)] }
def IndexSeeksSaid : Prop := indexSeeksRow.holds Tryd.pinned (OpenSpec.ofChange indexSeeksSpec)

/-- ITS FALSE NEIGHBOUR: 'it returns false'. Refute it at one input. -/
def indexSeeksWrong : ChangeSpec := { name := "indexSeeks", fn := fun _ => fun
  | [d1, d2, d3] => { results := [.lit (.bool false)], args := [d1, d2, d3] }
  | _ => none }
def IndexSeeksWrongFalsely : Prop := indexSeeksRow.holds Tryd.pinned (OpenSpec.ofChange indexSeeksWrong)

/-- 'cooperagelaw9.IndexFinds': WHATEVER THE INPUT: true; the input reads as it did. -/
def indexFindsSpec : ChangeSpec := { name := "indexFinds", fn := fun _ => fun
  | [d1, d2, d3, d4] => { results := [.lit (.bool true)], args := [d1, d2, d3, d4] }
  | _ => none }
def indexFindsRow : OpenClaim := { program := "ytffmfgbjlijpeaadoor", sum := "d8a7ae1f991d78fc4437b4fcfa7d2fedbcc30198e5b173a69989aaf3f5bef2a8", func := "cooperage/cooperagelaw9.IndexFinds", spec := "indexFinds", unfollowed := true, recurses := true, named := ["cooperage/crc.half"], apart := false, laid := [("cooperage/crc.half", laid_cooperage_crc_half)] }
def IndexFindsSaid : Prop := indexFindsRow.holds Tryd.pinned (OpenSpec.ofChange indexFindsSpec)

/-- ITS FALSE NEIGHBOUR: 'it returns false'. Refute it at one input. -/
def indexFindsWrong : ChangeSpec := { name := "indexFinds", fn := fun _ => fun
  | [d1, d2, d3, d4] => { results := [.lit (.bool false)], args := [d1, d2, d3, d4] }
  | _ => none }
def IndexFindsWrongFalsely : Prop := indexFindsRow.holds Tryd.pinned (OpenSpec.ofChange indexFindsWrong)

/-- 'cooperagelaw9.IndexFew': WHATEVER THE INPUT: true; the input reads as it did. -/
def indexFewSpec : ChangeSpec := { name := "indexFew", fn := fun _ => fun
  | [d1, d2] => { results := [.lit (.bool true)], args := [d1, d2] }
  | _ => none }
def indexFewRow : OpenClaim := { program := "ytffmfgbjlijpeaadoor", sum := "d8a7ae1f991d78fc4437b4fcfa7d2fedbcc30198e5b173a69989aaf3f5bef2a8", func := "cooperage/cooperagelaw9.IndexFew", spec := "indexFew", named := ["cooperage/crc.half"], apart := false, laid := [("cooperage/crc.half", laid_cooperage_crc_half)] }
def IndexFewSaid : Prop := indexFewRow.holds Tryd.pinned (OpenSpec.ofChange indexFewSpec)

/-- ITS FALSE NEIGHBOUR: 'it returns false'. Refute it at one input. -/
def indexFewWrong : ChangeSpec := { name := "indexFew", fn := fun _ => fun
  | [d1, d2] => { results := [.lit (.bool false)], args := [d1, d2] }
  | _ => none }
def IndexFewWrongFalsely : Prop := indexFewRow.holds Tryd.pinned (OpenSpec.ofChange indexFewWrong)

/- THE SECOND FORM. 'bulk': how many values and letters a reading holds, each counted each time it is reached (what is shared counts as often as it is met; a slice's spare places count too). A statement '..UptoSaid' is the law's where the arguments, and the package variables that the reading takes, are together of bulk at most 1048576: NARROWER than '..Said'. Prove '..Said' where nothing that the law and all that it calls make is longer than what came in: it says more and counts as full. Else prove '..UptoSaid'. A law counts once. -/
mutual
def uptoBulk {H : Type} : DataW H → Nat
  | .lit (.string bytes) => bytes.length + 1
  | .lit _ => 1
  | .nil => 1
  | .ptr d => uptoBulk d + 1
  | .slice elems spare => uptoBulkAll elems + uptoBulkAll spare + 1
  | .agg parts => uptoBulkAll parts + 1
  | .iface _ d => uptoBulk d + 1
  | .map entries => uptoBulkEntries entries + 1
  | .held _ => 1
def uptoBulkAll {H : Type} : List (DataW H) → Nat
  | [] => 0
  | d :: r => uptoBulk d + uptoBulkAll r
def uptoBulkEntries {H : Type} : List (Lit × DataW H) → Nat
  | [] => 0
  | x :: r => uptoBulkEntry x + uptoBulkEntries r
def uptoBulkEntry {H : Type} : Lit × DataW H → Nat
  | (.string bytes, d) => bytes.length + uptoBulk d + 1
  | (_, d) => uptoBulk d + 1
 end
def uptoSmall : (H : Type) → List (DataW H) → Bool := fun _ ds => decide (uptoBulkAll ds ≤ 1048576)
def OpenSpec.upto (s : _root_.Go.ChangeSpec) : _root_.Go.OpenSpec := { _root_.Go.OpenSpec.ofChange s with cond := some uptoSmall }

/-- 'cooperagelaw9.IndexMakes', WHERE WHAT IT READS IS OF BULK AT MOST 1048576: true; the input reads as it did. -/
def indexMakesUptoRow : OpenClaim := { program := "ytffmfgbjlijpeaadoor", sum := "d8a7ae1f991d78fc4437b4fcfa7d2fedbcc30198e5b173a69989aaf3f5bef2a8", func := "cooperage/cooperagelaw9.IndexMakes", spec := "indexMakes", named := ["cooperage/crc.half"], apart := false, laid := [("cooperage/crc.half", laid_cooperage_crc_half)], narrowed := true }
def IndexMakesUptoSaid : Prop := indexMakesUptoRow.holds Tryd.pinned (OpenSpec.upto indexMakesSpec)

/-- 'cooperagelaw9.IndexSeeks', WHERE WHAT IT READS IS OF BULK AT MOST 1048576: true; the input reads as it did. -/
def indexSeeksUptoRow : OpenClaim := { program := "ytffmfgbjlijpeaadoor", sum := "d8a7ae1f991d78fc4437b4fcfa7d2fedbcc30198e5b173a69989aaf3f5bef2a8", func := "cooperage/cooperagelaw9.IndexSeeks", spec := "indexSeeks", unfollowed := true, recurses := true, named := ["cooperage/crc.half"], apart := false, laid := [("cooperage/crc.half", laid_cooperage_crc_half)], narrowed := true }
def IndexSeeksUptoSaid : Prop := indexSeeksUptoRow.holds Tryd.pinned (OpenSpec.upto indexSeeksSpec)

/-- 'cooperagelaw9.IndexFinds', WHERE WHAT IT READS IS OF BULK AT MOST 1048576: true; the input reads as it did. -/
def indexFindsUptoRow : OpenClaim := { program := "ytffmfgbjlijpeaadoor", sum := "d8a7ae1f991d78fc4437b4fcfa7d2fedbcc30198e5b173a69989aaf3f5bef2a8", func := "cooperage/cooperagelaw9.IndexFinds", spec := "indexFinds", unfollowed := true, recurses := true, named := ["cooperage/crc.half"], apart := false, laid := [("cooperage/crc.half", laid_cooperage_crc_half)], narrowed := true }
def IndexFindsUptoSaid : Prop := indexFindsUptoRow.holds Tryd.pinned (OpenSpec.upto indexFindsSpec)

/-- 'cooperagelaw9.IndexFew', WHERE WHAT IT READS IS OF BULK AT MOST 1048576: true; the input reads as it did. -/
def indexFewUptoRow : OpenClaim := { program := "ytffmfgbjlijpeaadoor", sum := "d8a7ae1f991d78fc4437b4fcfa7d2fedbcc30198e5b173a69989aaf3f5bef2a8", func := "cooperage/cooperagelaw9.IndexFew", spec := "indexFew", named := ["cooperage/crc.half"], apart := false, laid := [("cooperage/crc.half", laid_cooperage_crc_half)], narrowed := true }
def IndexFewUptoSaid : Prop := indexFewUptoRow.holds Tryd.pinned (OpenSpec.upto indexFewSpec)

end Rows
end Go.Proofs.YtffmfgbjlijpeaaDoor
