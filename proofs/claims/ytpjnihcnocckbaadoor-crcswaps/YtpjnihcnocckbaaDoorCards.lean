/-
  DERIVED. GIVEN WITH THE SEED: THE CARDS: each row of YtpjnihcnocckbaaDoorRows.lean that lists a variable, with what it lists TIED to the program's text (the seventh form; the later family's looks); each row that meets fmt, with fmt's text TOLD by the authors' own Lean function (tested against real Go, not proved from fmt's source: count such statements apart). THE CARD IS WHAT COUNTS. Prove the row's statement (the work); the ties are given (YtpjnihcnocckbaaDoorTie.lean); close each card by the builder's one call (the guide's Derived/Test/ToyasCard.lean, 'card_holds'). Laid BY PROGRAM, IN A SANDBOX (cutbox-door.mjs). By AI agents, Wed Nov 11 2026. No macro, syntax, notation, axiom, sorry.
-/
import Derived.Test.YtpjnihcnocckbaaDoorRows
import GoSem.ClaimSeven
namespace Go.Proofs.YtpjnihcnocckbaaDoor
namespace Rows

/-- THE TIED CARD OF 'cooperagelaw2.CrcSums'. -/
def crcSumsCard : Claim7 := { stood := { row := crcSumsRow, standIns := [], harness := (true, "fa76a5a30fb07b11fadbdc9b6887e058170ea6ee560e2a7ce1edd54b56288630"), looks := false }, kinds := [], alts := [], laidByText := true, laidKinds := [.data], laidTests := true, laidLooks := .later }
def CrcSumsCardSaid : Prop := Claim7.holds Tryd.pinned (.plain (OpenSpec.ofChange crcSumsSpec)) crcSumsCard

/-- THE TIED CARD OF 'cooperagelaw2.CrcMore'. -/
def crcMoreCard : Claim7 := { stood := { row := crcMoreRow, standIns := [], harness := (true, "fa76a5a30fb07b11fadbdc9b6887e058170ea6ee560e2a7ce1edd54b56288630"), looks := false }, kinds := [], alts := [], laidByText := true, laidKinds := [.data], laidTests := true, laidLooks := .later }
def CrcMoreCardSaid : Prop := Claim7.holds Tryd.pinned (.plain (OpenSpec.ofChange crcMoreSpec)) crcMoreCard

/-- THE TIED CARD OF 'cooperagelaw2.CrcTurns'. -/
def crcTurnsCard : Claim7 := { stood := { row := crcTurnsRow, standIns := [], harness := (true, "fa76a5a30fb07b11fadbdc9b6887e058170ea6ee560e2a7ce1edd54b56288630"), looks := false }, kinds := [], alts := [], laidByText := true, laidKinds := [.data], laidTests := true, laidLooks := .later }
def CrcTurnsCardSaid : Prop := Claim7.holds Tryd.pinned (.plain (OpenSpec.ofChange crcTurnsSpec)) crcTurnsCard

/-- THE TIED CARD OF 'cooperagelaw2.CrcSwaps'. -/
def crcSwapsCard : Claim7 := { stood := { row := crcSwapsRow, standIns := [], harness := (true, "fa76a5a30fb07b11fadbdc9b6887e058170ea6ee560e2a7ce1edd54b56288630"), looks := false }, kinds := [], alts := [], laidByText := true, laidKinds := [.data], laidTests := true, laidLooks := .later }
def CrcSwapsCardSaid : Prop := Claim7.holds Tryd.pinned (.plain (OpenSpec.ofChange crcSwapsSpec)) crcSwapsCard

/-- THE SECOND FORM's CARD OF 'cooperagelaw2.CrcSums'. -/
def crcSumsUptoCard : Claim7 := { stood := { row := crcSumsUptoRow, standIns := [], harness := (true, "fa76a5a30fb07b11fadbdc9b6887e058170ea6ee560e2a7ce1edd54b56288630"), looks := false }, kinds := [], alts := [], laidByText := true, laidKinds := [.data], laidTests := true, laidLooks := .later }
def CrcSumsUptoCardSaid : Prop := Claim7.holds Tryd.pinned (.plain (OpenSpec.upto crcSumsSpec)) crcSumsUptoCard

/-- THE SECOND FORM's CARD OF 'cooperagelaw2.CrcMore'. -/
def crcMoreUptoCard : Claim7 := { stood := { row := crcMoreUptoRow, standIns := [], harness := (true, "fa76a5a30fb07b11fadbdc9b6887e058170ea6ee560e2a7ce1edd54b56288630"), looks := false }, kinds := [], alts := [], laidByText := true, laidKinds := [.data], laidTests := true, laidLooks := .later }
def CrcMoreUptoCardSaid : Prop := Claim7.holds Tryd.pinned (.plain (OpenSpec.upto crcMoreSpec)) crcMoreUptoCard

/-- THE SECOND FORM's CARD OF 'cooperagelaw2.CrcTurns'. -/
def crcTurnsUptoCard : Claim7 := { stood := { row := crcTurnsUptoRow, standIns := [], harness := (true, "fa76a5a30fb07b11fadbdc9b6887e058170ea6ee560e2a7ce1edd54b56288630"), looks := false }, kinds := [], alts := [], laidByText := true, laidKinds := [.data], laidTests := true, laidLooks := .later }
def CrcTurnsUptoCardSaid : Prop := Claim7.holds Tryd.pinned (.plain (OpenSpec.upto crcTurnsSpec)) crcTurnsUptoCard

/-- THE SECOND FORM's CARD OF 'cooperagelaw2.CrcSwaps'. -/
def crcSwapsUptoCard : Claim7 := { stood := { row := crcSwapsUptoRow, standIns := [], harness := (true, "fa76a5a30fb07b11fadbdc9b6887e058170ea6ee560e2a7ce1edd54b56288630"), looks := false }, kinds := [], alts := [], laidByText := true, laidKinds := [.data], laidTests := true, laidLooks := .later }
def CrcSwapsUptoCardSaid : Prop := Claim7.holds Tryd.pinned (.plain (OpenSpec.upto crcSwapsSpec)) crcSwapsUptoCard
end Rows
end Go.Proofs.YtpjnihcnocckbaaDoor
