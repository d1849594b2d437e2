/-
  DERIVED. GIVEN WITH THE SEED: THE CARDS: each row of YtddlebgfbnfbbaaDoorRows.lean that lists a variable, with what it lists TIED to the program's text (the seventh form; the later family's looks); each row that meets fmt, with fmt's text TOLD by the authors' own Lean function (tested against real Go, not proved from fmt's source: count such statements apart). THE CARD IS WHAT COUNTS. Prove the row's statement (the work); the ties are given (YtddlebgfbnfbbaaDoorTie.lean); close each card by the builder's one call (the guide's Derived/Test/ToyasCard.lean, 'card_holds'). Laid BY PROGRAM, IN A SANDBOX (cutbox-door.mjs). By AI agents, Wed Nov 11 2026. No macro, syntax, notation, axiom, sorry.
-/
import Derived.Test.YtddlebgfbnfbbaaDoorRows
import GoSem.ClaimSeven
namespace Go.Proofs.YtddlebgfbnfbbaaDoor
namespace Rows

/-- THE TIED CARD OF 'cooperagelaw3.NamesTell'. -/
def namesTellCard : Claim7 := { stood := { row := namesTellRow, standIns := [], harness := (true, "dfb91a640cee4f78bae66a14287d2fb00db62dae2a497d04d981e9d8a0b6174b"), looks := false }, kinds := [], alts := [], laidByText := true, laidKinds := [.data, .pinned], laidTests := true, laidLooks := .later }
def NamesTellCardSaid : Prop := Claim7.holds Tryd.pinned (.plain (OpenSpec.ofChange namesTellSpec)) namesTellCard

/-- THE TIED CARD OF 'cooperagelaw3.NamesCut'. -/
def namesCutCard : Claim7 := { stood := { row := namesCutRow, standIns := [], harness := (true, "dfb91a640cee4f78bae66a14287d2fb00db62dae2a497d04d981e9d8a0b6174b"), looks := false }, kinds := [], alts := [], laidByText := true, laidKinds := [.data, .pinned], laidTests := true, laidLooks := .later }
def NamesCutCardSaid : Prop := Claim7.holds Tryd.pinned (.plain (OpenSpec.ofChange namesCutSpec)) namesCutCard

/-- THE TIED CARD OF 'cooperagelaw3.NamesSigns'. -/
def namesSignsCard : Claim7 := { stood := { row := namesSignsRow, standIns := [], harness := (true, "dfb91a640cee4f78bae66a14287d2fb00db62dae2a497d04d981e9d8a0b6174b"), looks := false }, kinds := [], alts := [], laidByText := true, laidKinds := [.data, .pinned], laidTests := true, laidLooks := .later }
def NamesSignsCardSaid : Prop := Claim7.holds Tryd.pinned (.plain (OpenSpec.ofChange namesSignsSpec)) namesSignsCard

/-- THE TIED CARD OF 'cooperagelaw3.NamesLong'. -/
def namesLongCard : Claim7 := { stood := { row := namesLongRow, standIns := [], harness := (true, "dfb91a640cee4f78bae66a14287d2fb00db62dae2a497d04d981e9d8a0b6174b"), looks := false }, kinds := [], alts := [], laidByText := true, laidKinds := [.data, .pinned], laidTests := true, laidLooks := .later }
def NamesLongCardSaid : Prop := Claim7.holds Tryd.pinned (.plain (OpenSpec.ofChange namesLongSpec)) namesLongCard

/-- THE SECOND FORM's CARD OF 'cooperagelaw3.NamesTell'. -/
def namesTellUptoCard : Claim7 := { stood := { row := namesTellUptoRow, standIns := [], harness := (true, "dfb91a640cee4f78bae66a14287d2fb00db62dae2a497d04d981e9d8a0b6174b"), looks := false }, kinds := [], alts := [], laidByText := true, laidKinds := [.data, .pinned], laidTests := true, laidLooks := .later }
def NamesTellUptoCardSaid : Prop := Claim7.holds Tryd.pinned (.plain (OpenSpec.upto namesTellSpec)) namesTellUptoCard

/-- THE SECOND FORM's CARD OF 'cooperagelaw3.NamesCut'. -/
def namesCutUptoCard : Claim7 := { stood := { row := namesCutUptoRow, standIns := [], harness := (true, "dfb91a640cee4f78bae66a14287d2fb00db62dae2a497d04d981e9d8a0b6174b"), looks := false }, kinds := [], alts := [], laidByText := true, laidKinds := [.data, .pinned], laidTests := true, laidLooks := .later }
def NamesCutUptoCardSaid : Prop := Claim7.holds Tryd.pinned (.plain (OpenSpec.upto namesCutSpec)) namesCutUptoCard

/-- THE SECOND FORM's CARD OF 'cooperagelaw3.NamesSigns'. -/
def namesSignsUptoCard : Claim7 := { stood := { row := namesSignsUptoRow, standIns := [], harness := (true, "dfb91a640cee4f78bae66a14287d2fb00db62dae2a497d04d981e9d8a0b6174b"), looks := false }, kinds := [], alts := [], laidByText := true, laidKinds := [.data, .pinned], laidTests := true, laidLooks := .later }
def NamesSignsUptoCardSaid : Prop := Claim7.holds Tryd.pinned (.plain (OpenSpec.upto namesSignsSpec)) namesSignsUptoCard

/-- THE SECOND FORM's CARD OF 'cooperagelaw3.NamesLong'. -/
def namesLongUptoCard : Claim7 := { stood := { row := namesLongUptoRow, standIns := [], harness := (true, "dfb91a640cee4f78bae66a14287d2fb00db62dae2a497d04d981e9d8a0b6174b"), looks := false }, kinds := [], alts := [], laidByText := true, laidKinds := [.data, .pinned], laidTests := true, laidLooks := .later }
def NamesLongUptoCardSaid : Prop := Claim7.holds Tryd.pinned (.plain (OpenSpec.upto namesLongSpec)) namesLongUptoCard
end Rows
end Go.Proofs.YtddlebgfbnfbbaaDoor
