/- Contracts of what the program's own cleaning asks: is a record's time up; does it count. -/
import Derived.Test.YtjblhfhfappmoaaRecs
namespace Go.Proofs.Ytjblhfhfappmoaa
open Go.RowKit

set_option maxHeartbeats 1600000 in
theorem over_any (w : World) (t n g : Int) (ht : -9223372036854775808 ≤ t ∧ t ≤ 9223372036854775807) (hn : -9223372036854775808 ≤ n ∧ n ≤ 9223372036854775807) (hg : -9223372036854775808 ≤ g ∧ g ≤ 9223372036854775807) :
    Calls Try.prog 17 #[.int .i64 t, .int .i64 n, .int .i64 g] w (fun e w' => e = .returned (.bool (decide (g < n - t))) ∧ w = w') := by
  by_cases h1 : t ≤ n
  · have q1 : decide (t ≤ n) = true := decide_eq_true h1
    by_cases h2 : g < 0
    · have q2 : decide (g < 0) = true := decide_eq_true h2
      have q3 := Lib.hid (show true = decide (g < n - t) from (decide_eq_true (by omega)).symm)
      go_enter Try.func17, Try.ntmps17
      go_wp2_with fail
      go_ret
      exact ⟨congrArg (fun b => Ending.returned (.bool b)) q3.out, rfl⟩
    · have q2 : decide (g < 0) = false := decide_eq_false h2
      have e5 : IntKind.u64.wrap (IntKind.u64.wrap n - IntKind.u64.wrap t) = n - t := by rw [IntKind.wrap_u64, IntKind.wrap_u64, IntKind.wrap_u64]; omega
      have e6 : IntKind.u64.wrap g = g := by rw [IntKind.wrap_u64]; omega
      go_enter Try.func17, Try.ntmps17
      go_wp2_with fail
      go_ret
      exact ⟨rfl, rfl⟩
  · have q1 : decide (t ≤ n) = false := decide_eq_false h1
    by_cases h2 : g < 0
    · have q2 : decide (g < 0) = true := decide_eq_true h2
      have e5 : IntKind.u64.wrap (IntKind.u64.wrap t - IntKind.u64.wrap n) = t - n := by rw [IntKind.wrap_u64, IntKind.wrap_u64, IntKind.wrap_u64]; omega
      have e6 : IntKind.u64.wrap (-(IntKind.u64.wrap g)) = -g := by rw [IntKind.wrap_u64, IntKind.wrap_u64]; omega
      have q3 := Lib.hid (show decide (t - n < -g) = decide (g < n - t) from decide_eq_decide.mpr (by omega))
      go_enter Try.func17, Try.ntmps17
      go_wp2_with fail
      go_ret
      exact ⟨congrArg (fun b => Ending.returned (.bool b)) q3.out, rfl⟩
    · have q2 : decide (g < 0) = false := decide_eq_false h2
      have q3 := Lib.hid (show false = decide (g < n - t) from (decide_eq_false (by omega)).symm)
      go_enter Try.func17, Try.ntmps17
      go_wp2_with fail
      go_ret
      exact ⟨congrArg (fun b => Ending.returned (.bool b)) q3.out, rfl⟩
theorem counts_any (w : World) (r : Rec) (c : Nat) (p : Int) (hc : w.cell? ⟨c, 0, none⟩ = some (.int .i64 p)) (hlt : c < w.heap.size) :
    Calls Try.prog 16 #[.agg #[.int .i64 r.off, .int .i64 r.time, .string r.key, .string r.val, .bool r.dead], .pointer (some ⟨c, 0, none⟩)] w (fun e w' => e = .returned (.bool (decide (r.off < p))) ∧ Below w.heap.size w w') := by
  obtain ⟨ro, rt, rk, rv, rd⟩ := r
  dsimp only
  have HB := Lib.hid ((Below.refl w.heap.size w).alloc (Nat.le_refl _) (.cells #[.int .i64 ro, .int .i64 rt, .string rk, .string rv, .bool rd] 32))
  have hc1 := (HB.out.cell (p := ⟨c, 0, none⟩) hlt).trans hc
  clear hc
  go_enter Try.func16, Try.ntmps16
  go_wp2_with fail
  go_ret
  exact ⟨rfl, HB.out⟩
theorem every_any (w : World) (r : Rec) : Calls Try.prog 19 #[.agg #[.int .i64 r.off, .int .i64 r.time, .string r.key, .string r.val, .bool r.dead]] w (fun e w' => e = .returned (.bool true) ∧ Below w.heap.size w w') := by
  obtain ⟨ro, rt, rk, rv, rd⟩ := r
  dsimp only
  have HB := Lib.hid ((Below.refl w.heap.size w).alloc (Nat.le_refl _) (.cells #[.int .i64 ro, .int .i64 rt, .string rk, .string rv, .bool rd] 32))
  go_enter Try.func19, Try.ntmps19
  go_wp2_with fail
  go_ret
  exact ⟨rfl, HB.out⟩
end Go.Proofs.Ytjblhfhfappmoaa
