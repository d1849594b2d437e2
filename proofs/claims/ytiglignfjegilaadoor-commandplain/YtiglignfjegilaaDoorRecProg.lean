/- The contracts of the landed record: Right, Put, Get and Size, in the words that the laws take. -/
import Derived.Test.YtiglignfjegilaaDoorRecWords
import Derived.Test.YtiglignfjegilaaDoorVRecP
import Derived.Test.YtiglignfjegilaaDoorVRecG
namespace Go.Proofs.YtiglignfjegilaaDoor
open Go.RowKit
theorem rright_any (r : Rec) (w : World) (_ : r.wf) : Calls Tryd.prog 42 #[recV r] w (fun e w' => e = .returned (.bool (decide r.right)) ∧ Below w.heap.size w w') := vright_any r w
theorem rput2_any (A : Option Addr) (xs : List Int) (c : Nat) (r : Rec) (w : World) (_ : r.wf) (hl : Lies .u8 w w.heap.size A xs) (hc : xs.length ≤ c) (_ : c ≤ maxLen) (_ : A = none → c = 0) (hb : xs.length ≤ 274877906944) :
    Calls Tryd.prog 43 #[.slice A xs.length c, recV r] w (Gives2 w A c (xs ++ putR r)) :=
  (vrecput_any A xs c r w hl hc hb).mono fun _ _ h => h.gives2
theorem rput_any (A : Option Addr) (xs : List Int) (c : Nat) (r : Rec) (w : World) (hw : r.wf) (hl : Lies .u8 w w.heap.size A xs) (hc : xs.length ≤ c) (hcm : c ≤ maxLen) (hA : A = none → c = 0) (hb : xs.length ≤ 274877906944) :
    Calls Tryd.prog 43 #[.slice A xs.length c, recV r] w (Gives w (xs ++ putR r)) :=
  (rput2_any A xs c r w hw hl hc hcm hA hb).mono fun _ _ h => h.gives
theorem rget_any (A : Option Addr) (xs : List Int) (c : Nat) (w : World) (hl : Lies .u8 w w.heap.size A xs) (hby : IsBytes xs) (hc : xs.length ≤ c) (hcm : c ≤ maxLen) :
    Calls Tryd.prog 44 #[.slice A xs.length c] w (TellsRec (getRec xs) w) := vrecget_any A xs c w hl hby hc hcm
theorem rsize_any (r : Rec) (w : World) (_ : r.wf) : Calls Tryd.prog 46 #[recV r] w (fun e w' => e = .returned (.int .i64 ((putR r).length : Nat)) ∧ Below w.heap.size w w') := vsize_any r w
end Go.Proofs.YtiglignfjegilaaDoor
