/- From what a row lists of the program's table to what the walks ask of it; and a start at which it lies so. -/
import Derived.Test.YtffmfgbjlijpeaaDoorRows
import Derived.Test.YtffmfgbjlijpeaaDoorVCrc
import Derived.ProofKit
import Derived.LaidMore
import Derived.Lib.LaidTab
import Derived.Stop.Joined
namespace Go.Proofs.YtffmfgbjlijpeaaDoor
open Go.ChangeShapes Go.WideShapes Go.RowKit

abbrev laid1 : List (String × DataW Unit) := [("cooperage/crc.half", Rows.laid_cooperage_crc_half)]
theorem gHalf : Tryd.prog.globalNamed "cooperage/crc.half" = some 0 := by kernel_rfl
theorem tHalf : (Tryd.prog.globals[0]?).map (·.type) = some 82 := by kernel_rfl
theorem of_laid {W : World} (h : laidMetH Tryd.prog laid1 W) : Half W := by
  rw [MakeChecks.laidMetH_plain _ _ _ (by kernel_rfl)] at h
  have ht : Lib.TabIs Tryd.prog W "cooperage/crc.half" .u32 (halfL.map Int.ofNat) :=
    Lib.tabIs_of_head (rest := []) gHalf tHalf Tryd.underlying82 Tryd.underlying55 (by kernel_rfl) (by kernel_rfl) h
  have hget : ∀ k : Fin 16, ((halfL.getD k.val 0 : Nat) : Int) = (halfL.map Int.ofNat).getD k.val 0 := by decide
  intro k hk
  have := ht.cell gHalf k (by simpa [halfL] using hk)
  rw [this, ← hget ⟨k, hk⟩]
theorem door_met (os : Os) (args : Array Value) : laidMetH Tryd.prog laid1 ((World.doorLaid Tryd.prog 400 os).forCall (fun _ _ => 0) ⟨#[], args, []⟩).memory :=
  laidMetH_of_parts3 (fuel := 8) (laidMet_of_run' 8 (by kernel_rfl) (by kernel_rfl)) (by kernel_rfl) (by kernel_rfl)
end Go.Proofs.YtffmfgbjlijpeaaDoor
