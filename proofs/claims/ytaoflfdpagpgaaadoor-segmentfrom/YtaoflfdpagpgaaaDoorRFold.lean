/- Contracts of the document's own Fold and Unfold. -/
import Derived.Test.YtaoflfdpagpgaaaDoorBytes
import Derived.Test.YtaoflfdpagpgaaaDoorFoldNum
namespace Go.Proofs.YtaoflfdpagpgaaaDoor
open Go.RowKit

set_option maxHeartbeats 400000 in
theorem reffold_any (n : Int) (w : World) (h0 : -9223372036854775808 ≤ n) (h1 : n ≤ 9223372036854775807) :
    Calls Tryd.prog 36 #[.int .i64 n] w fun e w' => e = .returned (.int .u64 (foldI n)) ∧ w = w' := by
  by_cases hn : n < 0
  · have hf : Hid (-(n + 1) * 2 + 1 = foldI n) := by show _ = _; rw [foldI, if_pos hn]; omega
    go_enter Tryd.func36, Tryd.ntmps36
    go_wp2
    go_ret
    exact ret_int hf.out
  · have hf : Hid (n * 2 = foldI n) := by show _ = _; rw [foldI, if_neg hn]; omega
    have hn' : 0 ≤ n := by omega
    clear hn
    go_enter Tryd.func36, Tryd.ntmps36
    go_wp2
    go_ret
    exact ret_int hf.out

set_option maxHeartbeats 400000 in
theorem refunfold_any (x : Int) (w : World) (h0 : 0 ≤ x) (h1 : x ≤ 18446744073709551615) :
    Calls Tryd.prog 40 #[.int .u64 x] w fun e w' => e = .returned (.int .i64 (unfoldI x)) ∧ w = w' := by
  have hand := and_one_u64 x h0 h1
  by_cases ho : x % 2 = 1
  · have hb : (x % 2 == 1) = true := by simp [ho]
    have hf : Hid (-(x / 2) - 1 = unfoldI x) := by show _ = _; rw [unfoldI, if_pos ho]
    clear ho
    go_enter Tryd.func40, Tryd.ntmps40
    go_wp2
    go_ret
    exact ret_int hf.out
  · have hb : (x % 2 == 1) = false := by simp [ho]
    have hf : Hid (x / 2 = unfoldI x) := by show _ = _; rw [unfoldI, if_neg ho]
    clear ho
    go_enter Tryd.func40, Tryd.ntmps40
    go_wp2
    go_ret
    exact ret_int hf.out
end Go.Proofs.YtaoflfdpagpgaaaDoor
