/-
  DERIVED. GIVEN WITH THE SEED: THE CARDS: each row of YtiglignfjegilaaDoorRows.lean that lists a variable, with what it lists TIED to the program's text (the seventh form; the later family's looks); each row that meets fmt, with fmt's text TOLD by the authors' own Lean function (tested against real Go, not proved from fmt's source: count such statements apart). THE CARD IS WHAT COUNTS. Prove the row's statement (the work); the ties are given (YtiglignfjegilaaDoorTie.lean); close each card by the builder's one call (the guide's Derived/Test/ToyasCard.lean, 'card_holds'). Laid BY PROGRAM, IN A SANDBOX (cutbox-door.mjs). By AI agents, Wed Nov 11 2026. No macro, syntax, notation, axiom, sorry.
-/
import Derived.Test.YtiglignfjegilaaDoorRows
import GoSem.ClaimSeven
namespace Go.Proofs.YtiglignfjegilaaDoor
namespace Rows

/-- THE TIED CARD OF 'cooperagelaw10.CommandBytes'. -/
def commandBytesCard : Claim7 := { stood := { row := commandBytesRow, standIns := [], harness := (true, "7f40e3b408ed15b1cef979e57bcf9a92b0890dc3aae873b6e77e4f9b7667b258"), looks := true }, kinds := [], alts := [], laidByText := true, laidKinds := [.data, .pinned], laidTests := true, laidLooks := .later }
def CommandBytesCardSaid : Prop := Claim7.holds Tryd.pinned (.plain (OpenSpec.ofChange commandBytesSpec)) commandBytesCard

/-- THE TIED CARD OF 'cooperagelaw10.CommandReads'. -/
def commandReadsCard : Claim7 := { stood := { row := commandReadsRow, standIns := [], harness := (true, "7f40e3b408ed15b1cef979e57bcf9a92b0890dc3aae873b6e77e4f9b7667b258"), looks := true }, kinds := [], alts := [], laidByText := true, laidKinds := [.data, .pinned], laidTests := true, laidLooks := .later }
def CommandReadsCardSaid : Prop := Claim7.holds Tryd.pinned (.plain (OpenSpec.ofChange commandReadsSpec)) commandReadsCard

/-- THE TIED CARD OF 'cooperagelaw10.CommandSame'. -/
def commandSameCard : Claim7 := { stood := { row := commandSameRow, standIns := [], harness := (true, "7f40e3b408ed15b1cef979e57bcf9a92b0890dc3aae873b6e77e4f9b7667b258"), looks := true }, kinds := [], alts := [], laidByText := true, laidKinds := [.data, .pinned], laidTests := true, laidLooks := .later }
def CommandSameCardSaid : Prop := Claim7.holds Tryd.pinned (.plain (OpenSpec.ofChange commandSameSpec)) commandSameCard

/-- THE TIED CARD OF 'cooperagelaw10.CommandPlain'. -/
def commandPlainCard : Claim7 := { stood := { row := commandPlainRow, standIns := [], harness := (true, "7f40e3b408ed15b1cef979e57bcf9a92b0890dc3aae873b6e77e4f9b7667b258"), looks := true }, kinds := [], alts := [], laidByText := true, laidKinds := [.data, .pinned], laidTests := true, laidLooks := .later }
def CommandPlainCardSaid : Prop := Claim7.holds Tryd.pinned (.plain (OpenSpec.ofChange commandPlainSpec)) commandPlainCard

/-- THE SECOND FORM's CARD OF 'cooperagelaw10.CommandBytes'. -/
def commandBytesUptoCard : Claim7 := { stood := { row := commandBytesUptoRow, standIns := [], harness := (true, "7f40e3b408ed15b1cef979e57bcf9a92b0890dc3aae873b6e77e4f9b7667b258"), looks := true }, kinds := [], alts := [], laidByText := true, laidKinds := [.data, .pinned], laidTests := true, laidLooks := .later }
def CommandBytesUptoCardSaid : Prop := Claim7.holds Tryd.pinned (.plain (OpenSpec.upto commandBytesSpec)) commandBytesUptoCard

/-- THE SECOND FORM's CARD OF 'cooperagelaw10.CommandReads'. -/
def commandReadsUptoCard : Claim7 := { stood := { row := commandReadsUptoRow, standIns := [], harness := (true, "7f40e3b408ed15b1cef979e57bcf9a92b0890dc3aae873b6e77e4f9b7667b258"), looks := true }, kinds := [], alts := [], laidByText := true, laidKinds := [.data, .pinned], laidTests := true, laidLooks := .later }
def CommandReadsUptoCardSaid : Prop := Claim7.holds Tryd.pinned (.plain (OpenSpec.upto commandReadsSpec)) commandReadsUptoCard

/-- THE SECOND FORM's CARD OF 'cooperagelaw10.CommandSame'. -/
def commandSameUptoCard : Claim7 := { stood := { row := commandSameUptoRow, standIns := [], harness := (true, "7f40e3b408ed15b1cef979e57bcf9a92b0890dc3aae873b6e77e4f9b7667b258"), looks := true }, kinds := [], alts := [], laidByText := true, laidKinds := [.data, .pinned], laidTests := true, laidLooks := .later }
def CommandSameUptoCardSaid : Prop := Claim7.holds Tryd.pinned (.plain (OpenSpec.upto commandSameSpec)) commandSameUptoCard

/-- THE SECOND FORM's CARD OF 'cooperagelaw10.CommandPlain'. -/
def commandPlainUptoCard : Claim7 := { stood := { row := commandPlainUptoRow, standIns := [], harness := (true, "7f40e3b408ed15b1cef979e57bcf9a92b0890dc3aae873b6e77e4f9b7667b258"), looks := true }, kinds := [], alts := [], laidByText := true, laidKinds := [.data, .pinned], laidTests := true, laidLooks := .later }
def CommandPlainUptoCardSaid : Prop := Claim7.holds Tryd.pinned (.plain (OpenSpec.upto commandPlainSpec)) commandPlainUptoCard
end Rows
end Go.Proofs.YtiglignfjegilaaDoor
