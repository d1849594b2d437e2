/- Words for what the program's own table of producers leaves. No statement of the program is proved here. -/
import Derived.Test.YtgjgbelloobdfaaRPidSet
namespace Go.Proofs.Ytgjgbelloobdfaa
open Go.RowKit
/-- What Rows answers: new rows. -/
def NewRowsP (w : World) (l : List PidM) (e : Ending) (w' : World) : Prop := ∃ v, e = .returned v ∧ OwnP 25 w' w.heap.size v l ∧ Below w.heap.size w w'
end Go.Proofs.Ytgjgbelloobdfaa
