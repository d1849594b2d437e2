/-
  DERIVED. GIVEN WITH THE SEED: THE CARDS: each row of YtffmfgbjlijpeaaDoorRows.lean that lists a variable, with what it lists TIED to the program's text (the seventh form; the later family's looks); each row that meets fmt, with fmt's text TOLD by the authors' own Lean function (tested against real Go, not proved from fmt's source: count such statements apart). THE CARD IS WHAT COUNTS. Prove the row's statement (the work); the ties are given (YtffmfgbjlijpeaaDoorTie.lean); close each card by the builder's one call (the guide's Derived/Test/ToyasCard.lean, 'card_holds'). Laid BY PROGRAM, IN A SANDBOX (cutbox-door.mjs). By AI agents, Wed Nov 11 2026. No macro, syntax, notation, axiom, sorry.
-/
import Derived.Test.YtffmfgbjlijpeaaDoorRows
import GoSem.ClaimSeven
namespace Go.Proofs.YtffmfgbjlijpeaaDoor
namespace Rows

/-- THE TIED CARD OF 'cooperagelaw9.IndexMakes'. -/
def indexMakesCard : Claim7 := { stood := { row := indexMakesRow, standIns := [], harness := (true, "cd441d64ee8463f8884ecdcc991c73fc74c9d8fee24340197352aeb24f58c16e"), looks := false }, kinds := [], alts := [], laidByText := true, laidKinds := [.data], laidTests := true, laidLooks := .later }
def IndexMakesCardSaid : Prop := Claim7.holds Tryd.pinned (.plain (OpenSpec.ofChange indexMakesSpec)) indexMakesCard

/-- THE TIED CARD OF 'cooperagelaw9.IndexSeeks'. -/
def indexSeeksCard : Claim7 := { stood := { row := indexSeeksRow, standIns := [], harness := (true, "cd441d64ee8463f8884ecdcc991c73fc74c9d8fee24340197352aeb24f58c16e"), looks := false }, kinds := [], alts := [], laidByText := true, laidKinds := [.data], laidTests := true, laidLooks := .later }
def IndexSeeksCardSaid : Prop := Claim7.holds Tryd.pinned (.plain (OpenSpec.ofChange indexSeeksSpec)) indexSeeksCard

/-- THE TIED CARD OF 'cooperagelaw9.IndexFinds'. -/
def indexFindsCard : Claim7 := { stood := { row := indexFindsRow, standIns := [], harness := (true, "cd441d64ee8463f8884ecdcc991c73fc74c9d8fee24340197352aeb24f58c16e"), looks := false }, kinds := [], alts := [], laidByText := true, laidKinds := [.data], laidTests := true, laidLooks := .later }
def IndexFindsCardSaid : Prop := Claim7.holds Tryd.pinned (.plain (OpenSpec.ofChange indexFindsSpec)) indexFindsCard

/-- THE TIED CARD OF 'cooperagelaw9.IndexFew'. -/
def indexFewCard : Claim7 := { stood := { row := indexFewRow, standIns := [], harness := (true, "cd441d64ee8463f8884ecdcc991c73fc74c9d8fee24340197352aeb24f58c16e"), looks := false }, kinds := [], alts := [], laidByText := true, laidKinds := [.data], laidTests := true, laidLooks := .later }
def IndexFewCardSaid : Prop := Claim7.holds Tryd.pinned (.plain (OpenSpec.ofChange indexFewSpec)) indexFewCard

/-- THE SECOND FORM's CARD OF 'cooperagelaw9.IndexMakes'. -/
def indexMakesUptoCard : Claim7 := { stood := { row := indexMakesUptoRow, standIns := [], harness := (true, "cd441d64ee8463f8884ecdcc991c73fc74c9d8fee24340197352aeb24f58c16e"), looks := false }, kinds := [], alts := [], laidByText := true, laidKinds := [.data], laidTests := true, laidLooks := .later }
def IndexMakesUptoCardSaid : Prop := Claim7.holds Tryd.pinned (.plain (OpenSpec.upto indexMakesSpec)) indexMakesUptoCard

/-- THE SECOND FORM's CARD OF 'cooperagelaw9.IndexSeeks'. -/
def indexSeeksUptoCard : Claim7 := { stood := { row := indexSeeksUptoRow, standIns := [], harness := (true, "cd441d64ee8463f8884ecdcc991c73fc74c9d8fee24340197352aeb24f58c16e"), looks := false }, kinds := [], alts := [], laidByText := true, laidKinds := [.data], laidTests := true, laidLooks := .later }
def IndexSeeksUptoCardSaid : Prop := Claim7.holds Tryd.pinned (.plain (OpenSpec.upto indexSeeksSpec)) indexSeeksUptoCard

/-- THE SECOND FORM's CARD OF 'cooperagelaw9.IndexFinds'. -/
def indexFindsUptoCard : Claim7 := { stood := { row := indexFindsUptoRow, standIns := [], harness := (true, "cd441d64ee8463f8884ecdcc991c73fc74c9d8fee24340197352aeb24f58c16e"), looks := false }, kinds := [], alts := [], laidByText := true, laidKinds := [.data], laidTests := true, laidLooks := .later }
def IndexFindsUptoCardSaid : Prop := Claim7.holds Tryd.pinned (.plain (OpenSpec.upto indexFindsSpec)) indexFindsUptoCard

/-- THE SECOND FORM's CARD OF 'cooperagelaw9.IndexFew'. -/
def indexFewUptoCard : Claim7 := { stood := { row := indexFewUptoRow, standIns := [], harness := (true, "cd441d64ee8463f8884ecdcc991c73fc74c9d8fee24340197352aeb24f58c16e"), looks := false }, kinds := [], alts := [], laidByText := true, laidKinds := [.data], laidTests := true, laidLooks := .later }
def IndexFewUptoCardSaid : Prop := Claim7.holds Tryd.pinned (.plain (OpenSpec.upto indexFewSpec)) indexFewUptoCard
end Rows
end Go.Proofs.YtffmfgbjlijpeaaDoor
