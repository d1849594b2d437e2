/- Contracts of the program's varint.Fold and Unfold. -/
import Derived.Test.YtaoflfdpagpgaaaDoorBytes
import Derived.Test.YtaoflfdpagpgaaaDoorFoldNum
namespace Go.Proofs.YtaoflfdpagpgaaaDoor
open Go.RowKit

set_option maxHeartbeats 400000 in
theorem fold_any (n : Int) (w : World) (h0 : -9223372036854775808 ≤ n) (h1 : n ≤ 9223372036854775807) :
    Calls Tryd.prog 43 #[.int .i64 n] w fun e w' => e = .returned (.int .u64 (foldI n)) ∧ w = w' := by
  by_cases hn : n < 0
  · have hx := xor_max (IntKind.u64.wrap (2 * IntKind.u64.wrap n)) (by rw [IntKind.wrap_u64]; omega) (by rw [IntKind.wrap_u64]; omega)
    have hf : Hid (18446744073709551615 - IntKind.u64.wrap (2 * IntKind.u64.wrap n) = foldI n) := by
      show _ = _
      rw [IntKind.wrap_u64, IntKind.wrap_u64, foldI, if_pos hn]; omega
    have HX := Lib.hid hx
    clear hx
    go_enter Tryd.func43, Tryd.ntmps43
    go_wp2
    go_ret
    exact ret_int (HX.out.trans hf.out)
  · have hf : Hid (2 * n = foldI n) := by show _ = _; rw [foldI, if_neg hn]
    have hn' : 0 ≤ n := by omega
    clear hn
    go_enter Tryd.func43, Tryd.ntmps43
    go_wp2
    go_ret
    exact ret_int hf.out

set_option maxHeartbeats 400000 in
theorem unfold_any (x : Int) (w : World) (h0 : 0 ≤ x) (h1 : x ≤ 18446744073709551615) :
    Calls Tryd.prog 49 #[.int .u64 x] w fun e w' => e = .returned (.int .i64 (unfoldI x)) ∧ w = w' := by
  by_cases ho : x % 2 = 1
  · have hb : (x % 2 == 1) = true := by simp [ho]
    have hf : Hid (-1 - x / 2 = unfoldI x) := by show _ = _; rw [unfoldI, if_pos ho]; omega
    clear ho
    go_enter Tryd.func49, Tryd.ntmps49
    go_wp2
    go_ret
    exact ret_int hf.out
  · have hb : (x % 2 == 1) = false := by simp [ho]
    have hf : Hid (x / 2 = unfoldI x) := by show _ = _; rw [unfoldI, if_neg ho]
    clear ho
    go_enter Tryd.func49, Tryd.ntmps49
    go_wp2
    go_ret
    exact ret_int hf.out

end Go.Proofs.YtaoflfdpagpgaaaDoor
