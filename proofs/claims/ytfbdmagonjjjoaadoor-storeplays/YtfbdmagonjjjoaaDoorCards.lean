/-
  DERIVED. GIVEN WITH THE SEED: THE CARDS: each row of YtfbdmagonjjjoaaDoorRows.lean that lists a variable, with what it lists TIED to the program's text (the seventh form; the later family's looks); each row that meets fmt, with fmt's text TOLD by the authors' own Lean function (tested against real Go, not proved from fmt's source: count such statements apart). THE CARD IS WHAT COUNTS. Prove the row's statement (the work); the ties are given (YtfbdmagonjjjoaaDoorTie.lean); close each card by the builder's one call (the guide's Derived/Test/ToyasCard.lean, 'card_holds'). Laid BY PROGRAM, IN A SANDBOX (cutbox-door.mjs). By AI agents, Wed Nov 11 2026. No macro, syntax, notation, axiom, sorry.
-/
import Derived.Test.YtfbdmagonjjjoaaDoorRows
import GoSem.ClaimSeven
namespace Go.Proofs.YtfbdmagonjjjoaaDoor
namespace Rows

/-- THE TIED CARD OF 'cooperagelaw7.StorePlays'. -/
def storePlaysCard : Claim7 := { stood := { row := storePlaysRow, standIns := [], harness := (true, "3e3a31de3dccd35ec0ceaf0a4afc31059781e758d50b02b1e4f35fcf7cef0ead"), looks := true }, kinds := [], alts := [], laidByText := true, laidKinds := [.data, .pinned], laidTests := true, laidLooks := .later }
def StorePlaysCardSaid : Prop := Claim7.holds Tryd.pinned (.plain (OpenSpec.ofChange storePlaysSpec)) storePlaysCard

/-- THE TIED CARD OF 'cooperagelaw7.StoreFaults'. -/
def storeFaultsCard : Claim7 := { stood := { row := storeFaultsRow, standIns := [], harness := (true, "3e3a31de3dccd35ec0ceaf0a4afc31059781e758d50b02b1e4f35fcf7cef0ead"), looks := true }, kinds := [], alts := [], laidByText := true, laidKinds := [.data, .pinned], laidTests := true, laidLooks := .later }
def StoreFaultsCardSaid : Prop := Claim7.holds Tryd.pinned (.plain (OpenSpec.ofChange storeFaultsSpec)) storeFaultsCard

/-- THE TIED CARD OF 'cooperagelaw7.StoreRoom'. -/
def storeRoomCard : Claim7 := { stood := { row := storeRoomRow, standIns := [], harness := (true, "3e3a31de3dccd35ec0ceaf0a4afc31059781e758d50b02b1e4f35fcf7cef0ead"), looks := true }, kinds := [], alts := [], laidByText := true, laidKinds := [.data, .pinned], laidTests := true, laidLooks := .later }
def StoreRoomCardSaid : Prop := Claim7.holds Tryd.pinned (.plain (OpenSpec.ofChange storeRoomSpec)) storeRoomCard

/-- THE SECOND FORM's CARD OF 'cooperagelaw7.StorePlays'. -/
def storePlaysUptoCard : Claim7 := { stood := { row := storePlaysUptoRow, standIns := [], harness := (true, "3e3a31de3dccd35ec0ceaf0a4afc31059781e758d50b02b1e4f35fcf7cef0ead"), looks := true }, kinds := [], alts := [], laidByText := true, laidKinds := [.data, .pinned], laidTests := true, laidLooks := .later }
def StorePlaysUptoCardSaid : Prop := Claim7.holds Tryd.pinned (.plain (OpenSpec.upto storePlaysSpec)) storePlaysUptoCard

/-- THE SECOND FORM's CARD OF 'cooperagelaw7.StoreFaults'. -/
def storeFaultsUptoCard : Claim7 := { stood := { row := storeFaultsUptoRow, standIns := [], harness := (true, "3e3a31de3dccd35ec0ceaf0a4afc31059781e758d50b02b1e4f35fcf7cef0ead"), looks := true }, kinds := [], alts := [], laidByText := true, laidKinds := [.data, .pinned], laidTests := true, laidLooks := .later }
def StoreFaultsUptoCardSaid : Prop := Claim7.holds Tryd.pinned (.plain (OpenSpec.upto storeFaultsSpec)) storeFaultsUptoCard

/-- THE SECOND FORM's CARD OF 'cooperagelaw7.StoreRoom'. -/
def storeRoomUptoCard : Claim7 := { stood := { row := storeRoomUptoRow, standIns := [], harness := (true, "3e3a31de3dccd35ec0ceaf0a4afc31059781e758d50b02b1e4f35fcf7cef0ead"), looks := true }, kinds := [], alts := [], laidByText := true, laidKinds := [.data, .pinned], laidTests := true, laidLooks := .later }
def StoreRoomUptoCardSaid : Prop := Claim7.holds Tryd.pinned (.plain (OpenSpec.upto storeRoomSpec)) storeRoomUptoCard
end Rows
end Go.Proofs.YtfbdmagonjjjoaaDoor
