/- A range over a text makes a block of its own, and writes nothing that was there. -/
import Derived.WalkKit
import Derived.Below
import Derived.Laws.RangeAny
namespace Go.Proofs.YtmghlfhdjdlkbaaDoor
open Go.RowKit

theorem iter_below (w : World) (s : ByteArray) (p : Nat) : Below w.heap.size w (w.iter s p) := (Below.refl _ _).alloc (Nat.le_refl _) _
end Go.Proofs.YtmghlfhdjdlkbaaDoor
