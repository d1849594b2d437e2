/-
  NARROWER THAN 'FOR EVERY INPUT', by the rows' own cells (each row's printed sentence says how): SegmentBytes: laid · SegmentScans: laid · SegmentTorn: laid · SegmentFrom: laid.
  DERIVED. THE GIVEN ROWS OF THIS SEAT. 4 by the template 'for every input the law returns true; each argument reads behind the call as it read before'; 0 by the template 'total and deterministic' (their statements: YtaoflfdpagpgaaaDoorTotals.lean).
  GIVEN WITH THE SEED: the statements are not yours to turn. If you find one false, say at which input.
  Laid BY PROGRAM, IN A SANDBOX (cutbox-rows.mjs): the forced cells as the released guide's own fill.sh prints them over the translation 5ccd11377aecddaf… (all of the seat's roots in one cut). By AI agents, Wed Nov 11 2026. No macro, syntax, notation, axiom, sorry.
-/
import Derived.Test.YtaoflfdpagpgaaaDoorChecked
import GoSem.Claim
import GoSem.ClaimJoined
import GoSem.ClaimMapViews
import Derived.JoinedTies
import Derived.KernelRfl
namespace Go.Proofs.YtaoflfdpagpgaaaDoor
/- THE CELL 'sum', in the pinned program and in every row, IS THE sha256 OF THE DUMP (.gsa) THAT YtaoflfdpagpgaaaDoorProg.lean LOADS. Nothing in Lean hashes anything: it is a label: what it is worth is what the hold of that sum in a sandbox is worth. -/
noncomputable def Tryd.pinned : Pinned := { name := "ytaoflfdpagpgaaadoor", sum := "5ccd11377aecddaff26b6c194f562ccfe54e00eafc14fcf9be393516b716ff37", checked := Tryd.checked }
namespace Rows
def none {H : Type} : Left H := { results := [], args := [] }

/- WHAT THE LISTED PACKAGE-LEVEL VARIABLES READ AS WHEN THE CALL BEGINS. Each datum BY PROGRAM (the guide's laid-datum.mjs) off the statement by which the dump's own 'gosem.cut.vars' lays the variable. In a bare row this is a premise. The card (YtaoflfdpagpgaaaDoorCards.lean) ties it to the program's text. -/
def laid_cooperage_crc_half {H : Type} : DataW H := .agg [.lit (.int .u32 0), .lit (.int .u32 498536548), .lit (.int .u32 997073096), .lit (.int .u32 651767980), .lit (.int .u32 1994146192), .lit (.int .u32 1802195444), .lit (.int .u32 1303535960), .lit (.int .u32 1342533948), .lit (.int .u32 3988292384), .lit (.int .u32 4027552580), .lit (.int .u32 3604390888), .lit (.int .u32 3412177804), .lit (.int .u32 2607071920), .lit (.int .u32 2262029012), .lit (.int .u32 2685067896), .lit (.int .u32 3183342108)]

/-- 'cooperagelaw8.SegmentBytes': WHATEVER THE INPUT: true; the input reads as it did. -/
def segmentBytesSpec : ChangeSpec := { name := "segmentBytes", fn := fun _ => fun
  | [d1, d2, d3] => { results := [.lit (.bool true)], args := [d1, d2, d3] }
  | _ => none }
def segmentBytesRow : OpenClaim := { program := "ytaoflfdpagpgaaadoor", sum := "5ccd11377aecddaff26b6c194f562ccfe54e00eafc14fcf9be393516b716ff37", func := "cooperage/cooperagelaw8.SegmentBytes", spec := "segmentBytes", named := ["cooperage/crc.half"], apart := false, laid := [("cooperage/crc.half", laid_cooperage_crc_half)] }
def SegmentBytesSaid : Prop := segmentBytesRow.holds Tryd.pinned (OpenSpec.ofChange segmentBytesSpec)

/-- ITS FALSE NEIGHBOUR: 'it returns false'. Refute it at one input. -/
def segmentBytesWrong : ChangeSpec := { name := "segmentBytes", fn := fun _ => fun
  | [d1, d2, d3] => { results := [.lit (.bool false)], args := [d1, d2, d3] }
  | _ => none }
def SegmentBytesWrongFalsely : Prop := segmentBytesRow.holds Tryd.pinned (OpenSpec.ofChange segmentBytesWrong)

/-- 'cooperagelaw8.SegmentScans': WHATEVER THE INPUT: true; the input reads as it did. -/
def segmentScansSpec : ChangeSpec := { name := "segmentScans", fn := fun _ => fun
  | [d] => { results := [.lit (.bool true)], args := [d] }
  | _ => none }
def segmentScansRow : OpenClaim := { program := "ytaoflfdpagpgaaadoor", sum := "5ccd11377aecddaff26b6c194f562ccfe54e00eafc14fcf9be393516b716ff37", func := "cooperage/cooperagelaw8.SegmentScans", spec := "segmentScans", named := ["cooperage/crc.half"], apart := false, laid := [("cooperage/crc.half", laid_cooperage_crc_half)] }
def SegmentScansSaid : Prop := segmentScansRow.holds Tryd.pinned (OpenSpec.ofChange segmentScansSpec)

/-- ITS FALSE NEIGHBOUR: 'it returns false'. Refute it at one input. -/
def segmentScansWrong : ChangeSpec := { name := "segmentScans", fn := fun _ => fun
  | [d] => { results := [.lit (.bool false)], args := [d] }
  | _ => none }
def SegmentScansWrongFalsely : Prop := segmentScansRow.holds Tryd.pinned (OpenSpec.ofChange segmentScansWrong)

/-- 'cooperagelaw8.SegmentTorn': WHATEVER THE INPUT: true; the input reads as it did. -/
def segmentTornSpec : ChangeSpec := { name := "segmentTorn", fn := fun _ => fun
  | [d1, d2] => { results := [.lit (.bool true)], args := [d1, d2] }
  | _ => none }
def segmentTornRow : OpenClaim := { program := "ytaoflfdpagpgaaadoor", sum := "5ccd11377aecddaff26b6c194f562ccfe54e00eafc14fcf9be393516b716ff37", func := "cooperage/cooperagelaw8.SegmentTorn", spec := "segmentTorn", named := ["cooperage/crc.half"], apart := false, laid := [("cooperage/crc.half", laid_cooperage_crc_half)] }
def SegmentTornSaid : Prop := segmentTornRow.holds Tryd.pinned (OpenSpec.ofChange segmentTornSpec)

/-- ITS FALSE NEIGHBOUR: 'it returns false'. Refute it at one input. -/
def segmentTornWrong : ChangeSpec := { name := "segmentTorn", fn := fun _ => fun
  | [d1, d2] => { results := [.lit (.bool false)], args := [d1, d2] }
  | _ => none }
def SegmentTornWrongFalsely : Prop := segmentTornRow.holds Tryd.pinned (OpenSpec.ofChange segmentTornWrong)

/-- 'cooperagelaw8.SegmentFrom': WHATEVER THE INPUT: true; the input reads as it did. -/
def segmentFromSpec : ChangeSpec := { name := "segmentFrom", fn := fun _ => fun
  | [d1, d2, d3] => { results := [.lit (.bool true)], args := [d1, d2, d3] }
  | _ => none }
def segmentFromRow : OpenClaim := { program := "ytaoflfdpagpgaaadoor", sum := "5ccd11377aecddaff26b6c194f562ccfe54e00eafc14fcf9be393516b716ff37", func := "cooperage/cooperagelaw8.SegmentFrom", spec := "segmentFrom", named := ["cooperage/crc.half"], apart := false, laid := [("cooperage/crc.half", laid_cooperage_crc_half)] }
def SegmentFromSaid : Prop := segmentFromRow.holds Tryd.pinned (OpenSpec.ofChange segmentFromSpec)

/-- ITS FALSE NEIGHBOUR: 'it returns false'. Refute it at one input. -/
def segmentFromWrong : ChangeSpec := { name := "segmentFrom", fn := fun _ => fun
  | [d1, d2, d3] => { results := [.lit (.bool false)], args := [d1, d2, d3] }
  | _ => none }
def SegmentFromWrongFalsely : Prop := segmentFromRow.holds Tryd.pinned (OpenSpec.ofChange segmentFromWrong)

/- THE SECOND FORM. 'bulk': how many values and letters a reading holds, each counted each time it is reached (what is shared counts as often as it is met; a slice's spare places count too). A statement '..UptoSaid' is the law's where the arguments, and the package variables that the reading takes, are together of bulk at most 1048576: NARROWER than '..Said'. Prove '..Said' where nothing that the law and all that it calls make is longer than what came in: it says more and counts as full. Else prove '..UptoSaid'. A law counts once. -/
mutual
def uptoBulk {H : Type} : DataW H → Nat
  | .lit (.string bytes) => bytes.length + 1
  | .lit _ => 1
  | .nil => 1
  | .ptr d => uptoBulk d + 1
  | .slice elems spare => uptoBulkAll elems + uptoBulkAll spare + 1
  | .agg parts => uptoBulkAll parts + 1
  | .iface _ d => uptoBulk d + 1
  | .map entries => uptoBulkEntries entries + 1
  | .held _ => 1
def uptoBulkAll {H : Type} : List (DataW H) → Nat
  | [] => 0
  | d :: r => uptoBulk d + uptoBulkAll r
def uptoBulkEntries {H : Type} : List (Lit × DataW H) → Nat
  | [] => 0
  | x :: r => uptoBulkEntry x + uptoBulkEntries r
def uptoBulkEntry {H : Type} : Lit × DataW H → Nat
  | (.string bytes, d) => bytes.length + uptoBulk d + 1
  | (_, d) => uptoBulk d + 1
 end
def uptoSmall : (H : Type) → List (DataW H) → Bool := fun _ ds => decide (uptoBulkAll ds ≤ 1048576)
def OpenSpec.upto (s : _root_.Go.ChangeSpec) : _root_.Go.OpenSpec := { _root_.Go.OpenSpec.ofChange s with cond := some uptoSmall }

/-- 'cooperagelaw8.SegmentBytes', WHERE WHAT IT READS IS OF BULK AT MOST 1048576: true; the input reads as it did. -/
def segmentBytesUptoRow : OpenClaim := { program := "ytaoflfdpagpgaaadoor", sum := "5ccd11377aecddaff26b6c194f562ccfe54e00eafc14fcf9be393516b716ff37", func := "cooperage/cooperagelaw8.SegmentBytes", spec := "segmentBytes", named := ["cooperage/crc.half"], apart := false, laid := [("cooperage/crc.half", laid_cooperage_crc_half)], narrowed := true }
def SegmentBytesUptoSaid : Prop := segmentBytesUptoRow.holds Tryd.pinned (OpenSpec.upto segmentBytesSpec)

/-- 'cooperagelaw8.SegmentScans', WHERE WHAT IT READS IS OF BULK AT MOST 1048576: true; the input reads as it did. -/
def segmentScansUptoRow : OpenClaim := { program := "ytaoflfdpagpgaaadoor", sum := "5ccd11377aecddaff26b6c194f562ccfe54e00eafc14fcf9be393516b716ff37", func := "cooperage/cooperagelaw8.SegmentScans", spec := "segmentScans", named := ["cooperage/crc.half"], apart := false, laid := [("cooperage/crc.half", laid_cooperage_crc_half)], narrowed := true }
def SegmentScansUptoSaid : Prop := segmentScansUptoRow.holds Tryd.pinned (OpenSpec.upto segmentScansSpec)

/-- 'cooperagelaw8.SegmentTorn', WHERE WHAT IT READS IS OF BULK AT MOST 1048576: true; the input reads as it did. -/
def segmentTornUptoRow : OpenClaim := { program := "ytaoflfdpagpgaaadoor", sum := "5ccd11377aecddaff26b6c194f562ccfe54e00eafc14fcf9be393516b716ff37", func := "cooperage/cooperagelaw8.SegmentTorn", spec := "segmentTorn", named := ["cooperage/crc.half"], apart := false, laid := [("cooperage/crc.half", laid_cooperage_crc_half)], narrowed := true }
def SegmentTornUptoSaid : Prop := segmentTornUptoRow.holds Tryd.pinned (OpenSpec.upto segmentTornSpec)

/-- 'cooperagelaw8.SegmentFrom', WHERE WHAT IT READS IS OF BULK AT MOST 1048576: true; the input reads as it did. -/
def segmentFromUptoRow : OpenClaim := { program := "ytaoflfdpagpgaaadoor", sum := "5ccd11377aecddaff26b6c194f562ccfe54e00eafc14fcf9be393516b716ff37", func := "cooperage/cooperagelaw8.SegmentFrom", spec := "segmentFrom", named := ["cooperage/crc.half"], apart := false, laid := [("cooperage/crc.half", laid_cooperage_crc_half)], narrowed := true }
def SegmentFromUptoSaid : Prop := segmentFromUptoRow.holds Tryd.pinned (OpenSpec.upto segmentFromSpec)

end Rows
end Go.Proofs.YtaoflfdpagpgaaaDoor
