/-
  No cell of these rows narrows 'for every input' (looked for: loops, veiled, ifaces, maps, wideKeys, modest, calm, conditions, laid).
  DERIVED. THE GIVEN ROWS OF THIS SEAT. 4 by the template 'for every input the law returns true; each argument reads behind the call as it read before'; 0 by the template 'total and deterministic' (their statements: YtjblhfhfappmoaaTotals.lean).
  GIVEN WITH THE SEED: the statements are not yours to turn. If you find one false, say at which input.
  Laid BY PROGRAM, IN A SANDBOX (cutbox-rows.mjs): the forced cells as the released guide's own fill.sh prints them over the translation 45a7d0f452509bb1… (all of the seat's roots in one cut). By AI agents, Wed Nov 11 2026. No macro, syntax, notation, axiom, sorry.
-/
import Derived.Test.YtjblhfhfappmoaaChecked
import GoSem.Claim
import GoSem.ClaimJoined
import GoSem.ClaimMapViews
import Derived.JoinedTies
import Derived.KernelRfl
namespace Go.Proofs.Ytjblhfhfappmoaa
/- THE CELL 'sum', in the pinned program and in every row, IS THE sha256 OF THE DUMP (.gsa) THAT YtjblhfhfappmoaaProg.lean LOADS. Nothing in Lean hashes anything: it is a label: what it is worth is what the hold of that sum in a sandbox is worth. -/
noncomputable def Try.pinned : Pinned := { name := "ytjblhfhfappmoaa", sum := "45a7d0f452509bb1e6cd102103d00a61caadd593e8b502a6ed69b3e5c7508007", checked := Try.checked }
namespace Rows
def none {H : Type} : Left H := { results := [], args := [] }

/-- 'cooperagelaw13.CleanKeeps': WHATEVER THE INPUT: true; the input reads as it did. -/
def cleanKeepsSpec : ChangeSpec := { name := "cleanKeeps", fn := fun _ => fun
  | [d1, d2, d3, d4, d5] => { results := [.lit (.bool true)], args := [d1, d2, d3, d4, d5] }
  | _ => none }
def cleanKeepsRow : OpenClaim := { program := "ytjblhfhfappmoaa", sum := "45a7d0f452509bb1e6cd102103d00a61caadd593e8b502a6ed69b3e5c7508007", func := "cooperage/cooperagelaw13.CleanKeeps", spec := "cleanKeeps", inPlace := ["internal/bytealg.abigen_runtime_cmpstring"], unfollowed := true, recurses := true, apart := false }
def CleanKeepsSaid : Prop := cleanKeepsRow.holds Try.pinned (OpenSpec.ofChange cleanKeepsSpec)

/-- ITS FALSE NEIGHBOUR: 'it returns false'. Refute it at one input. -/
def cleanKeepsWrong : ChangeSpec := { name := "cleanKeeps", fn := fun _ => fun
  | [d1, d2, d3, d4, d5] => { results := [.lit (.bool false)], args := [d1, d2, d3, d4, d5] }
  | _ => none }
def CleanKeepsWrongFalsely : Prop := cleanKeepsRow.holds Try.pinned (OpenSpec.ofChange cleanKeepsWrong)

/-- 'cooperagelaw13.CleanMaps': WHATEVER THE INPUT: true; the input reads as it did. -/
def cleanMapsSpec : ChangeSpec := { name := "cleanMaps", fn := fun _ => fun
  | [d1, d2, d3, d4, d5, d6] => { results := [.lit (.bool true)], args := [d1, d2, d3, d4, d5, d6] }
  | _ => none }
def cleanMapsRow : OpenClaim := { program := "ytjblhfhfappmoaa", sum := "45a7d0f452509bb1e6cd102103d00a61caadd593e8b502a6ed69b3e5c7508007", func := "cooperage/cooperagelaw13.CleanMaps", spec := "cleanMaps", inPlace := ["internal/bytealg.abigen_runtime_cmpstring"], unfollowed := true, recurses := true, apart := false }
def CleanMapsSaid : Prop := cleanMapsRow.holds Try.pinned (OpenSpec.ofChange cleanMapsSpec)

/-- ITS FALSE NEIGHBOUR: 'it returns false'. Refute it at one input. -/
def cleanMapsWrong : ChangeSpec := { name := "cleanMaps", fn := fun _ => fun
  | [d1, d2, d3, d4, d5, d6] => { results := [.lit (.bool false)], args := [d1, d2, d3, d4, d5, d6] }
  | _ => none }
def CleanMapsWrongFalsely : Prop := cleanMapsRow.holds Try.pinned (OpenSpec.ofChange cleanMapsWrong)

/-- 'cooperagelaw13.CleanLess': WHATEVER THE INPUT: true; the input reads as it did. -/
def cleanLessSpec : ChangeSpec := { name := "cleanLess", fn := fun _ => fun
  | [d1, d2, d3, d4, d5, d6] => { results := [.lit (.bool true)], args := [d1, d2, d3, d4, d5, d6] }
  | _ => none }
def cleanLessRow : OpenClaim := { program := "ytjblhfhfappmoaa", sum := "45a7d0f452509bb1e6cd102103d00a61caadd593e8b502a6ed69b3e5c7508007", func := "cooperage/cooperagelaw13.CleanLess", spec := "cleanLess", unfollowed := true, recurses := true, apart := false }
def CleanLessSaid : Prop := cleanLessRow.holds Try.pinned (OpenSpec.ofChange cleanLessSpec)

/-- ITS FALSE NEIGHBOUR: 'it returns false'. Refute it at one input. -/
def cleanLessWrong : ChangeSpec := { name := "cleanLess", fn := fun _ => fun
  | [d1, d2, d3, d4, d5, d6] => { results := [.lit (.bool false)], args := [d1, d2, d3, d4, d5, d6] }
  | _ => none }
def CleanLessWrongFalsely : Prop := cleanLessRow.holds Try.pinned (OpenSpec.ofChange cleanLessWrong)

/-- 'cooperagelaw13.CleanAgain': WHATEVER THE INPUT: true; the input reads as it did. -/
def cleanAgainSpec : ChangeSpec := { name := "cleanAgain", fn := fun _ => fun
  | [d1, d2, d3, d4, d5] => { results := [.lit (.bool true)], args := [d1, d2, d3, d4, d5] }
  | _ => none }
def cleanAgainRow : OpenClaim := { program := "ytjblhfhfappmoaa", sum := "45a7d0f452509bb1e6cd102103d00a61caadd593e8b502a6ed69b3e5c7508007", func := "cooperage/cooperagelaw13.CleanAgain", spec := "cleanAgain", unfollowed := true, recurses := true, apart := false }
def CleanAgainSaid : Prop := cleanAgainRow.holds Try.pinned (OpenSpec.ofChange cleanAgainSpec)

/-- ITS FALSE NEIGHBOUR: 'it returns false'. Refute it at one input. -/
def cleanAgainWrong : ChangeSpec := { name := "cleanAgain", fn := fun _ => fun
  | [d1, d2, d3, d4, d5] => { results := [.lit (.bool false)], args := [d1, d2, d3, d4, d5] }
  | _ => none }
def CleanAgainWrongFalsely : Prop := cleanAgainRow.holds Try.pinned (OpenSpec.ofChange cleanAgainWrong)

/- THE SECOND FORM. 'bulk': how many values and letters a reading holds, each counted each time it is reached (what is shared counts as often as it is met; a slice's spare places count too). A statement '..UptoSaid' is the law's where the arguments, and the package variables that the reading takes, are together of bulk at most 1048576: NARROWER than '..Said'. Prove '..Said' where nothing that the law and all that it calls make is longer than what came in: it says more and counts as full. Else prove '..UptoSaid'. A law counts once. -/
mutual
def uptoBulk {H : Type} : DataW H → Nat
  | .lit (.string bytes) => bytes.length + 1
  | .lit _ => 1
  | .nil => 1
  | .ptr d => uptoBulk d + 1
  | .slice elems spare => uptoBulkAll elems + uptoBulkAll spare + 1
  | .agg parts => uptoBulkAll parts + 1
  | .iface _ d => uptoBulk d + 1
  | .map entries => uptoBulkEntries entries + 1
  | .held _ => 1
def uptoBulkAll {H : Type} : List (DataW H) → Nat
  | [] => 0
  | d :: r => uptoBulk d + uptoBulkAll r
def uptoBulkEntries {H : Type} : List (Lit × DataW H) → Nat
  | [] => 0
  | x :: r => uptoBulkEntry x + uptoBulkEntries r
def uptoBulkEntry {H : Type} : Lit × DataW H → Nat
  | (.string bytes, d) => bytes.length + uptoBulk d + 1
  | (_, d) => uptoBulk d + 1
 end
def uptoSmall : (H : Type) → List (DataW H) → Bool := fun _ ds => decide (uptoBulkAll ds ≤ 1048576)
def OpenSpec.upto (s : _root_.Go.ChangeSpec) : _root_.Go.OpenSpec := { _root_.Go.OpenSpec.ofChange s with cond := some uptoSmall }

/-- 'cooperagelaw13.CleanKeeps', WHERE WHAT IT READS IS OF BULK AT MOST 1048576: true; the input reads as it did. -/
def cleanKeepsUptoRow : OpenClaim := { program := "ytjblhfhfappmoaa", sum := "45a7d0f452509bb1e6cd102103d00a61caadd593e8b502a6ed69b3e5c7508007", func := "cooperage/cooperagelaw13.CleanKeeps", spec := "cleanKeeps", inPlace := ["internal/bytealg.abigen_runtime_cmpstring"], unfollowed := true, recurses := true, apart := false, narrowed := true }
def CleanKeepsUptoSaid : Prop := cleanKeepsUptoRow.holds Try.pinned (OpenSpec.upto cleanKeepsSpec)

/-- 'cooperagelaw13.CleanMaps', WHERE WHAT IT READS IS OF BULK AT MOST 1048576: true; the input reads as it did. -/
def cleanMapsUptoRow : OpenClaim := { program := "ytjblhfhfappmoaa", sum := "45a7d0f452509bb1e6cd102103d00a61caadd593e8b502a6ed69b3e5c7508007", func := "cooperage/cooperagelaw13.CleanMaps", spec := "cleanMaps", inPlace := ["internal/bytealg.abigen_runtime_cmpstring"], unfollowed := true, recurses := true, apart := false, narrowed := true }
def CleanMapsUptoSaid : Prop := cleanMapsUptoRow.holds Try.pinned (OpenSpec.upto cleanMapsSpec)

/-- 'cooperagelaw13.CleanLess', WHERE WHAT IT READS IS OF BULK AT MOST 1048576: true; the input reads as it did. -/
def cleanLessUptoRow : OpenClaim := { program := "ytjblhfhfappmoaa", sum := "45a7d0f452509bb1e6cd102103d00a61caadd593e8b502a6ed69b3e5c7508007", func := "cooperage/cooperagelaw13.CleanLess", spec := "cleanLess", unfollowed := true, recurses := true, apart := false, narrowed := true }
def CleanLessUptoSaid : Prop := cleanLessUptoRow.holds Try.pinned (OpenSpec.upto cleanLessSpec)

/-- 'cooperagelaw13.CleanAgain', WHERE WHAT IT READS IS OF BULK AT MOST 1048576: true; the input reads as it did. -/
def cleanAgainUptoRow : OpenClaim := { program := "ytjblhfhfappmoaa", sum := "45a7d0f452509bb1e6cd102103d00a61caadd593e8b502a6ed69b3e5c7508007", func := "cooperage/cooperagelaw13.CleanAgain", spec := "cleanAgain", unfollowed := true, recurses := true, apart := false, narrowed := true }
def CleanAgainUptoSaid : Prop := cleanAgainUptoRow.holds Try.pinned (OpenSpec.upto cleanAgainSpec)

end Rows
end Go.Proofs.Ytjblhfhfappmoaa
