/- Words for bytes: what a call answers that makes new ones, that answers true, that tells a number. No statement of the program is proved here. -/
import Derived.Test.YtoienjlpncphgaaRows
import Derived.Test.YtoienjlpncphgaaBase
import Derived.Test.YtoienjlpncphgaaNums
namespace Go.Proofs.Ytoienjlpncphgaa
open Go.RowKit

theorem byte_info : (Try.prog.info? 5).map (fun i => (i.zero, i.size, i.bytes)) = some (some (.int .u8 0), 1, 1) := by kernel_rfl
theorem byte_size : (Try.prog.info? 5).map (·.size) = some 1 := by kernel_rfl

/-- A call that answers new bytes. -/
def NewBytes (w : World) (ys : List Int) (e : Ending) (w' : World) : Prop := ∃ v, e = .returned v ∧ Own .u8 5 w' w.heap.size v ys ∧ Below w.heap.size w w'

/-- A call that answers true, and turns nothing that was there. -/
def Yes (w : World) (e : Ending) (w' : World) : Prop := e = .returned (.bool true) ∧ Below w.heap.size w w'

def IsBytes (xs : List Int) : Prop := ∀ c ∈ xs, 0 ≤ c ∧ c ≤ 255
theorem IsBytes.at_ {xs : List Int} (h : IsBytes xs) {j : Nat} (hj : j < xs.length) : 0 ≤ xs[j] ∧ xs[j] ≤ 255 := h _ (List.getElem_mem hj)

/-- What a reading of a number answers: the number, how many bytes, the error; the world stays. -/
def Tells (r : Int × Int × Int) (w : World) (e : Ending) (w' : World) : Prop := e = .returned (.tuple #[.int .u64 r.1, .int .i64 r.2.1, .int .i64 r.2.2]) ∧ w = w'
theorem Tells.mk {r : Int × Int × Int} {w : World} {a b c : Int} (h : r = (a, b, c)) : Tells r w (.returned (.tuple #[.int .u64 a, .int .i64 b, .int .i64 c])) w := by subst h; exact ⟨rfl, rfl⟩
theorem below_undrewN {B m : Nat} {w w' : World} (h : Below B (w.drewN m) w') : Below B w w' := ⟨h.os, h.tape, h.output, h.size, h.block⟩

end Go.Proofs.Ytoienjlpncphgaa
