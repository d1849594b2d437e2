/-
  DERIVED. GIVEN WITH THE SEED: THE CARDS: each row of YtaoflfdpagpgaaaDoorRows.lean that lists a variable, with what it lists TIED to the program's text (the seventh form; the later family's looks); each row that meets fmt, with fmt's text TOLD by the authors' own Lean function (tested against real Go, not proved from fmt's source: count such statements apart). THE CARD IS WHAT COUNTS. Prove the row's statement (the work); the ties are given (YtaoflfdpagpgaaaDoorTie.lean); close each card by the builder's one call (the guide's Derived/Test/ToyasCard.lean, 'card_holds'). Laid BY PROGRAM, IN A SANDBOX (cutbox-door.mjs). By AI agents, Wed Nov 11 2026. No macro, syntax, notation, axiom, sorry.
-/
import Derived.Test.YtaoflfdpagpgaaaDoorRows
import GoSem.ClaimSeven
namespace Go.Proofs.YtaoflfdpagpgaaaDoor
namespace Rows

/-- THE TIED CARD OF 'cooperagelaw8.SegmentBytes'. -/
def segmentBytesCard : Claim7 := { stood := { row := segmentBytesRow, standIns := [], harness := (true, "57e34fe7e6195b37330d53ae7f2fe2cefffe6bf52f7c82621d6670bc05d0138e"), looks := false }, kinds := [], alts := [], laidByText := true, laidKinds := [.data], laidTests := true, laidLooks := .later }
def SegmentBytesCardSaid : Prop := Claim7.holds Tryd.pinned (.plain (OpenSpec.ofChange segmentBytesSpec)) segmentBytesCard

/-- THE TIED CARD OF 'cooperagelaw8.SegmentScans'. -/
def segmentScansCard : Claim7 := { stood := { row := segmentScansRow, standIns := [], harness := (true, "57e34fe7e6195b37330d53ae7f2fe2cefffe6bf52f7c82621d6670bc05d0138e"), looks := false }, kinds := [], alts := [], laidByText := true, laidKinds := [.data], laidTests := true, laidLooks := .later }
def SegmentScansCardSaid : Prop := Claim7.holds Tryd.pinned (.plain (OpenSpec.ofChange segmentScansSpec)) segmentScansCard

/-- THE TIED CARD OF 'cooperagelaw8.SegmentTorn'. -/
def segmentTornCard : Claim7 := { stood := { row := segmentTornRow, standIns := [], harness := (true, "57e34fe7e6195b37330d53ae7f2fe2cefffe6bf52f7c82621d6670bc05d0138e"), looks := false }, kinds := [], alts := [], laidByText := true, laidKinds := [.data], laidTests := true, laidLooks := .later }
def SegmentTornCardSaid : Prop := Claim7.holds Tryd.pinned (.plain (OpenSpec.ofChange segmentTornSpec)) segmentTornCard

/-- THE TIED CARD OF 'cooperagelaw8.SegmentFrom'. -/
def segmentFromCard : Claim7 := { stood := { row := segmentFromRow, standIns := [], harness := (true, "57e34fe7e6195b37330d53ae7f2fe2cefffe6bf52f7c82621d6670bc05d0138e"), looks := false }, kinds := [], alts := [], laidByText := true, laidKinds := [.data], laidTests := true, laidLooks := .later }
def SegmentFromCardSaid : Prop := Claim7.holds Tryd.pinned (.plain (OpenSpec.ofChange segmentFromSpec)) segmentFromCard

/-- THE SECOND FORM's CARD OF 'cooperagelaw8.SegmentBytes'. -/
def segmentBytesUptoCard : Claim7 := { stood := { row := segmentBytesUptoRow, standIns := [], harness := (true, "57e34fe7e6195b37330d53ae7f2fe2cefffe6bf52f7c82621d6670bc05d0138e"), looks := false }, kinds := [], alts := [], laidByText := true, laidKinds := [.data], laidTests := true, laidLooks := .later }
def SegmentBytesUptoCardSaid : Prop := Claim7.holds Tryd.pinned (.plain (OpenSpec.upto segmentBytesSpec)) segmentBytesUptoCard

/-- THE SECOND FORM's CARD OF 'cooperagelaw8.SegmentScans'. -/
def segmentScansUptoCard : Claim7 := { stood := { row := segmentScansUptoRow, standIns := [], harness := (true, "57e34fe7e6195b37330d53ae7f2fe2cefffe6bf52f7c82621d6670bc05d0138e"), looks := false }, kinds := [], alts := [], laidByText := true, laidKinds := [.data], laidTests := true, laidLooks := .later }
def SegmentScansUptoCardSaid : Prop := Claim7.holds Tryd.pinned (.plain (OpenSpec.upto segmentScansSpec)) segmentScansUptoCard

/-- THE SECOND FORM's CARD OF 'cooperagelaw8.SegmentTorn'. -/
def segmentTornUptoCard : Claim7 := { stood := { row := segmentTornUptoRow, standIns := [], harness := (true, "57e34fe7e6195b37330d53ae7f2fe2cefffe6bf52f7c82621d6670bc05d0138e"), looks := false }, kinds := [], alts := [], laidByText := true, laidKinds := [.data], laidTests := true, laidLooks := .later }
def SegmentTornUptoCardSaid : Prop := Claim7.holds Tryd.pinned (.plain (OpenSpec.upto segmentTornSpec)) segmentTornUptoCard

/-- THE SECOND FORM's CARD OF 'cooperagelaw8.SegmentFrom'. -/
def segmentFromUptoCard : Claim7 := { stood := { row := segmentFromUptoRow, standIns := [], harness := (true, "57e34fe7e6195b37330d53ae7f2fe2cefffe6bf52f7c82621d6670bc05d0138e"), looks := false }, kinds := [], alts := [], laidByText := true, laidKinds := [.data], laidTests := true, laidLooks := .later }
def SegmentFromUptoCardSaid : Prop := Claim7.holds Tryd.pinned (.plain (OpenSpec.upto segmentFromSpec)) segmentFromUptoCard
end Rows
end Go.Proofs.YtaoflfdpagpgaaaDoor
