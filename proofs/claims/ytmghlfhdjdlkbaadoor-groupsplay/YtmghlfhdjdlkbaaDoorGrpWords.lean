/- Words for what the program's own table of groups leaves. No statement of the program is proved here. -/
import Derived.Test.YtmghlfhdjdlkbaaDoorRPlaceSet
namespace Go.Proofs.YtmghlfhdjdlkbaaDoor
open Go.RowKit
/-- What Rows answers: new rows. -/
def NewRowsG (w : World) (l : List PlaceM) (e : Ending) (w' : World) : Prop := ∃ v, e = .returned v ∧ OwnG 25 w' w.heap.size v l ∧ Below w.heap.size w w'
end Go.Proofs.YtmghlfhdjdlkbaaDoor
