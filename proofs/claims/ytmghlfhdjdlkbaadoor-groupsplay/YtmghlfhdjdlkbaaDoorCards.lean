/-
  DERIVED. GIVEN WITH THE SEED: THE CARDS: each row of YtmghlfhdjdlkbaaDoorRows.lean that lists a variable, with what it lists TIED to the program's text (the seventh form; the later family's looks); each row that meets fmt, with fmt's text TOLD by the authors' own Lean function (tested against real Go, not proved from fmt's source: count such statements apart). THE CARD IS WHAT COUNTS. Prove the row's statement (the work); the ties are given (YtmghlfhdjdlkbaaDoorTie.lean); close each card by the builder's one call (the guide's Derived/Test/ToyasCard.lean, 'card_holds'). Laid BY PROGRAM, IN A SANDBOX (cutbox-door.mjs). By AI agents, Wed Nov 11 2026. No macro, syntax, notation, axiom, sorry.
-/
import Derived.Test.YtmghlfhdjdlkbaaDoorRows
import GoSem.ClaimSeven
namespace Go.Proofs.YtmghlfhdjdlkbaaDoor
namespace Rows

/-- THE TIED CARD OF 'cooperagelaw12.GroupsPlay'. -/
def groupsPlayCard : Claim7 := { stood := { row := groupsPlayRow, standIns := [], harness := (true, "71f9d8eb906c974c628d97fe7f52072530c4f27e8705de1c19969d55f452aa95"), looks := false }, kinds := [], alts := [], laidByText := true, laidKinds := [.data, .pinned], laidTests := true, laidLooks := .later }
def GroupsPlayCardSaid : Prop := Claim7.holds Tryd.pinned (.plain (OpenSpec.ofChange groupsPlaySpec)) groupsPlayCard

/-- THE TIED CARD OF 'cooperagelaw12.GroupsMany'. -/
def groupsManyCard : Claim7 := { stood := { row := groupsManyRow, standIns := [], harness := (true, "71f9d8eb906c974c628d97fe7f52072530c4f27e8705de1c19969d55f452aa95"), looks := false }, kinds := [], alts := [], laidByText := true, laidKinds := [.data, .pinned], laidTests := true, laidLooks := .later }
def GroupsManyCardSaid : Prop := Claim7.holds Tryd.pinned (.plain (OpenSpec.ofChange groupsManySpec)) groupsManyCard

/-- THE SECOND FORM's CARD OF 'cooperagelaw12.GroupsPlay'. -/
def groupsPlayUptoCard : Claim7 := { stood := { row := groupsPlayUptoRow, standIns := [], harness := (true, "71f9d8eb906c974c628d97fe7f52072530c4f27e8705de1c19969d55f452aa95"), looks := false }, kinds := [], alts := [], laidByText := true, laidKinds := [.data, .pinned], laidTests := true, laidLooks := .later }
def GroupsPlayUptoCardSaid : Prop := Claim7.holds Tryd.pinned (.plain (OpenSpec.upto groupsPlaySpec)) groupsPlayUptoCard

/-- THE SECOND FORM's CARD OF 'cooperagelaw12.GroupsMany'. -/
def groupsManyUptoCard : Claim7 := { stood := { row := groupsManyUptoRow, standIns := [], harness := (true, "71f9d8eb906c974c628d97fe7f52072530c4f27e8705de1c19969d55f452aa95"), looks := false }, kinds := [], alts := [], laidByText := true, laidKinds := [.data, .pinned], laidTests := true, laidLooks := .later }
def GroupsManyUptoCardSaid : Prop := Claim7.holds Tryd.pinned (.plain (OpenSpec.upto groupsManySpec)) groupsManyUptoCard
end Rows
end Go.Proofs.YtmghlfhdjdlkbaaDoor
