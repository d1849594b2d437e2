/- Contracts of the functions that turn ints into numbers without a sign, and back: the program's and the document's own. -/
import Derived.Test.YtcdhbmjobahoiaaRows
import Derived.Test.YtcdhbmjobahoiaaBase
import Derived.Test.YtcdhbmjobahoiaaNum
namespace Go.Proofs.Ytcdhbmjobahoiaa
open Go.RowKit

def foldI (n : Int) : Int := if n < 0 then -2 * n - 1 else 2 * n
def unfoldI (x : Int) : Int := if x % 2 = 1 then -(x / 2) - 1 else x / 2

theorem nat_xor_max (a : Nat) (h : a < 2 ^ 64) : a ^^^ (2 ^ 64 - 1) = 2 ^ 64 - (a + 1) := by
  apply Nat.eq_of_testBit_eq
  intro i
  rw [Nat.testBit_xor, Nat.testBit_two_pow_sub_one, Nat.testBit_two_pow_sub_succ h]
  by_cases hi : i < 64
  · simp [hi]
  · have : a.testBit i = false := Nat.testBit_lt_two_pow (Nat.lt_of_lt_of_le h (Nat.pow_le_pow_right (by decide) (by omega)))
    simp [hi, this]
theorem xor_max (y : Int) (h0 : 0 ≤ y) (h1 : y ≤ 18446744073709551615) : bits .xor .u64 IntKind.u64.max y = 18446744073709551615 - y := by
  obtain ⟨a, rfl⟩ := Int.eq_ofNat_of_zero_le h0
  have e : IntKind.u64.max = ((18446744073709551615 : Nat) : Int) := by decide
  rw [e, u64_xor_nat _ _ (by decide) (by omega), Nat.xor_comm]
  have h : a ^^^ 18446744073709551615 = 18446744073709551616 - (a + 1) := nat_xor_max a (by omega)
  omega

theorem fold_range (n : Int) (h0 : -9223372036854775808 ≤ n) (h1 : n ≤ 9223372036854775807) : 0 ≤ foldI n ∧ foldI n ≤ 18446744073709551615 := by
  unfold foldI; split <;> omega
theorem unfold_range (x : Int) (h0 : 0 ≤ x) (h1 : x ≤ 18446744073709551615) : -9223372036854775808 ≤ unfoldI x ∧ unfoldI x ≤ 9223372036854775807 := by
  unfold unfoldI; split <;> omega
theorem unfold_fold (n : Int) : unfoldI (foldI n) = n := by
  unfold unfoldI foldI; split <;> split <;> omega
theorem fold_unfold (x : Int) (h0 : 0 ≤ x) : foldI (unfoldI x) = x := by
  unfold unfoldI foldI; split <;> split <;> omega

theorem ret_int {k : IntKind} {a b : Int} {w : World} (h : a = b) : Ending.returned (.int k a) = .returned (.int k b) ∧ w = w := ⟨by rw [h], rfl⟩

set_option maxHeartbeats 400000 in
theorem fold_any (n : Int) (w : World) (h0 : -9223372036854775808 ≤ n) (h1 : n ≤ 9223372036854775807) :
    Calls Try.prog 14 #[.int .i64 n] w fun e w' => e = .returned (.int .u64 (foldI n)) ∧ w = w' := by
  by_cases hn : n < 0
  · have hx := xor_max (IntKind.u64.wrap (2 * IntKind.u64.wrap n)) (by rw [IntKind.wrap_u64]; omega) (by rw [IntKind.wrap_u64]; omega)
    have hf : Hid (18446744073709551615 - IntKind.u64.wrap (2 * IntKind.u64.wrap n) = foldI n) := by
      show _ = _
      rw [IntKind.wrap_u64, IntKind.wrap_u64, foldI, if_pos hn]; omega
    have HX := Lib.hid hx
    clear hx
    go_enter Try.func14, Try.ntmps14
    go_wp2
    go_ret
    exact ret_int (HX.out.trans hf.out)
  · have hf : Hid (2 * n = foldI n) := by show _ = _; rw [foldI, if_neg hn]
    have hn' : 0 ≤ n := by omega
    clear hn
    go_enter Try.func14, Try.ntmps14
    go_wp2
    go_ret
    exact ret_int hf.out

set_option maxHeartbeats 400000 in
theorem reffold_any (n : Int) (w : World) (h0 : -9223372036854775808 ≤ n) (h1 : n ≤ 9223372036854775807) :
    Calls Try.prog 15 #[.int .i64 n] w fun e w' => e = .returned (.int .u64 (foldI n)) ∧ w = w' := by
  by_cases hn : n < 0
  · have hf : Hid (-(n + 1) * 2 + 1 = foldI n) := by show _ = _; rw [foldI, if_pos hn]; omega
    go_enter Try.func15, Try.ntmps15
    go_wp2
    go_ret
    exact ret_int hf.out
  · have hf : Hid (n * 2 = foldI n) := by show _ = _; rw [foldI, if_neg hn]; omega
    have hn' : 0 ≤ n := by omega
    clear hn
    go_enter Try.func15, Try.ntmps15
    go_wp2
    go_ret
    exact ret_int hf.out

set_option maxHeartbeats 400000 in
theorem unfold_any (x : Int) (w : World) (h0 : 0 ≤ x) (h1 : x ≤ 18446744073709551615) :
    Calls Try.prog 16 #[.int .u64 x] w fun e w' => e = .returned (.int .i64 (unfoldI x)) ∧ w = w' := by
  by_cases ho : x % 2 = 1
  · have hb : (x % 2 == 1) = true := by simp [ho]
    have hf : Hid (-1 - x / 2 = unfoldI x) := by show _ = _; rw [unfoldI, if_pos ho]; omega
    clear ho
    go_enter Try.func16, Try.ntmps16
    go_wp2
    go_ret
    exact ret_int hf.out
  · have hb : (x % 2 == 1) = false := by simp [ho]
    have hf : Hid (x / 2 = unfoldI x) := by show _ = _; rw [unfoldI, if_neg ho]
    clear ho
    go_enter Try.func16, Try.ntmps16
    go_wp2
    go_ret
    exact ret_int hf.out

set_option maxHeartbeats 400000 in
theorem refunfold_any (x : Int) (w : World) (h0 : 0 ≤ x) (h1 : x ≤ 18446744073709551615) :
    Calls Try.prog 17 #[.int .u64 x] w fun e w' => e = .returned (.int .i64 (unfoldI x)) ∧ w = w' := by
  have hand := and_one_u64 x h0 h1
  by_cases ho : x % 2 = 1
  · have hb : (x % 2 == 1) = true := by simp [ho]
    have hf : Hid (-(x / 2) - 1 = unfoldI x) := by show _ = _; rw [unfoldI, if_pos ho]
    clear ho
    go_enter Try.func17, Try.ntmps17
    go_wp2
    go_ret
    exact ret_int hf.out
  · have hb : (x % 2 == 1) = false := by simp [ho]
    have hf : Hid (x / 2 = unfoldI x) := by show _ = _; rw [unfoldI, if_neg ho]
    clear ho
    go_enter Try.func17, Try.ntmps17
    go_wp2
    go_ret
    exact ret_int hf.out
end Go.Proofs.Ytcdhbmjobahoiaa
