/- The contracts of the program's own table of groups that the laws want, under one name. -/
import Derived.Test.YtmghlfhdjdlkbaaDoorVGrpSet
import Derived.Test.YtmghlfhdjdlkbaaDoorValid
namespace Go.Proofs.YtmghlfhdjdlkbaaDoor
open Go.RowKit
theorem gset_any {base g : Nat} {S : Nat → Prop} {w : World} {l : List PlaceM} (hT : Tabs w) (h : GTab base S w g l) (x : PlaceM) (hx : x.wf) :
    Calls Tryd.prog 6 #[.pointer (some ⟨g, 0, none⟩), .string x.name, .int .i64 x.off] w (fun e w' => e = .returned (.int .i64 (setN l x).2) ∧ GrLeft base S w w' g (setN l x).1) :=
  gset_of h x hx (valid_any x.name w hx.1 hT)
end Go.Proofs.YtmghlfhdjdlkbaaDoor
