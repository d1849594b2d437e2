/- A contract of the document's own 'older': is now more than so much behind a time, as if numbers had no end? -/
import Derived.Test.YtoienjlpncphgaaRecs
import Derived.Lib.EndianBits
namespace Go.Proofs.Ytoienjlpncphgaa
open Go.RowKit

set_option maxHeartbeats 1600000 in
theorem older_any (w : World) (a b c : Int) (ha : -9223372036854775808 ≤ a ∧ a ≤ 9223372036854775807) (hb : -9223372036854775808 ≤ b ∧ b ≤ 9223372036854775807) (hc : -9223372036854775808 ≤ c ∧ c ≤ 9223372036854775807) :
    Calls Try.prog 11 #[.int .i64 a, .int .i64 b, .int .i64 c] w (fun e w' => e = .returned (.bool (decide (c < b - a))) ∧ w = w') := by
  by_cases h1 : c < 0
  · have q1 : decide (c < 0) = true := decide_eq_true h1
    by_cases h2 : a ≤ b
    · have q2 : decide (a ≤ b) = true := decide_eq_true h2
      have q3 := Lib.hid (show true = decide (c < b - a) from (decide_eq_true (by omega)).symm)
      go_enter Try.func11, Try.ntmps11
      go_wp2_with fail
      go_ret
      exact ⟨congrArg (fun b => Ending.returned (.bool b)) q3.out, rfl⟩
    · have q2 : decide (a ≤ b) = false := decide_eq_false h2
      have e1 : IntKind.i64.wrap (c + 1) = c + 1 := (IntWalk.i64_left _).trans (by simp only [wrap64]; omega)
      have e2 : IntKind.i64.wrap (-(c + 1)) = -(c + 1) := (IntWalk.i64_left _).trans (by simp only [wrap64]; omega)
      have e3 : IntKind.u64.wrap (-(c + 1)) = -(c + 1) := by rw [IntKind.wrap_u64]; omega
      have e4 : IntKind.u64.wrap (-(c + 1) + 1) = -c := by rw [IntKind.wrap_u64]; omega
      have e5 : IntKind.u64.wrap (IntKind.u64.wrap a - IntKind.u64.wrap b) = a - b := by rw [IntKind.wrap_u64, IntKind.wrap_u64, IntKind.wrap_u64]; omega
      have q3 := Lib.hid (show decide (a - b < -c) = decide (c < b - a) from decide_eq_decide.mpr (by omega))
      go_enter Try.func11, Try.ntmps11
      go_wp2_with fail
      go_ret
      exact ⟨congrArg (fun b => Ending.returned (.bool b)) q3.out, rfl⟩
  · have q1 : decide (c < 0) = false := decide_eq_false h1
    by_cases h2 : b ≤ a
    · have q2 : decide (b ≤ a) = true := decide_eq_true h2
      have q3 := Lib.hid (show false = decide (c < b - a) from (decide_eq_false (by omega)).symm)
      go_enter Try.func11, Try.ntmps11
      go_wp2_with fail
      go_ret
      exact ⟨congrArg (fun b => Ending.returned (.bool b)) q3.out, rfl⟩
    · have q2 : decide (b ≤ a) = false := decide_eq_false h2
      have e3 : IntKind.u64.wrap c = c := by rw [IntKind.wrap_u64]; omega
      have e5 : IntKind.u64.wrap (IntKind.u64.wrap b - IntKind.u64.wrap a) = b - a := by rw [IntKind.wrap_u64, IntKind.wrap_u64, IntKind.wrap_u64]; omega
      go_enter Try.func11, Try.ntmps11
      go_wp2_with fail
      go_ret
      exact ⟨rfl, rfl⟩
end Go.Proofs.Ytoienjlpncphgaa
