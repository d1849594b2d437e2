/- Contracts of the program's own two tests of a rune. -/
import Derived.Test.YtmghlfhdjdlkbaaDoorRows
import Derived.Test.YtmghlfhdjdlkbaaDoorRuneNum
import Derived.WalkKit
import Derived.Lib.Hide
import Derived.Below
namespace Go.Proofs.YtmghlfhdjdlkbaaDoor
open Go.RowKit

theorem begins_any (r : Nat) (w : World) : Calls Tryd.prog 18 #[.int .i32 (r : Int)] w (fun e w' => e = .returned (.bool (plainR r || farR r)) ∧ w' = w) := by
  have fin : ∀ b : Bool, (plainR r || farR r) = b → Calls Tryd.prog 18 #[.int .i32 (r : Int)] w (fun e w' => e = .returned (.bool b) ∧ w' = w) → Calls Tryd.prog 18 #[.int .i32 (r : Int)] w (fun e w' => e = .returned (.bool (plainR r || farR r)) ∧ w' = w) := by
    rintro b rfl h; exact h
  by_cases h1 : (97 : Int) ≤ r
  · by_cases h2 : (r : Int) ≤ 122
    · refine fin true (by simp [plainR]; omega) ?_
      go_enter Tryd.func18, Tryd.ntmps18
      go_wp2
      go_ret
      exact ⟨rfl, rfl⟩
    · have h3 : (48 : Int) ≤ r := by omega
      have h4 : ¬ (r : Int) ≤ 57 := by omega
      by_cases h5 : (r : Int) = 173
      · refine fin false (by simp [plainR, farR]; omega) ?_
        go_enter Tryd.func18, Tryd.ntmps18
        go_wp2
        go_ret
        exact ⟨rfl, rfl⟩
      · by_cases h6 : (r : Int) = 65279
        · refine fin false (by simp [plainR, farR]; omega) ?_
          go_enter Tryd.func18, Tryd.ntmps18
          go_wp2
          go_ret
          exact ⟨rfl, rfl⟩
        · by_cases h7 : (161 : Int) ≤ r
          · by_cases h8 : (r : Int) ≤ 65535
            · refine fin true (by simp [plainR, farR]; omega) ?_
              go_enter Tryd.func18, Tryd.ntmps18
              go_wp2
              go_ret
              exact ⟨rfl, rfl⟩
            · refine fin false (by simp [plainR, farR]; omega) ?_
              go_enter Tryd.func18, Tryd.ntmps18
              go_wp2
              go_ret
              exact ⟨rfl, rfl⟩
          · refine fin false (by simp [plainR, farR]; omega) ?_
            go_enter Tryd.func18, Tryd.ntmps18
            go_wp2
            go_ret
            exact ⟨rfl, rfl⟩
  · by_cases h3 : (48 : Int) ≤ r
    · by_cases h4 : (r : Int) ≤ 57
      · refine fin true (by simp [plainR]; omega) ?_
        go_enter Tryd.func18, Tryd.ntmps18
        go_wp2
        go_ret
        exact ⟨rfl, rfl⟩
      · have h5 : ¬ (r : Int) = 173 := by omega
        have h6 : ¬ (r : Int) = 65279 := by omega
        have h7 : ¬ (161 : Int) ≤ r := by omega
        refine fin false (by simp [plainR, farR]; omega) ?_
        go_enter Tryd.func18, Tryd.ntmps18
        go_wp2
        go_ret
        exact ⟨rfl, rfl⟩
    · have h5 : ¬ (r : Int) = 173 := by omega
      have h6 : ¬ (r : Int) = 65279 := by omega
      have h7 : ¬ (161 : Int) ≤ r := by omega
      refine fin false (by simp [plainR, farR]; omega) ?_
      go_enter Tryd.func18, Tryd.ntmps18
      go_wp2
      go_ret
      exact ⟨rfl, rfl⟩

theorem joins_any (r : Nat) (w : World) : Calls Tryd.prog 19 #[.int .i32 (r : Int)] w (fun e w' => e = .returned (.bool (markR r)) ∧ w' = w) := by
  have fin : ∀ b : Bool, markR r = b → Calls Tryd.prog 19 #[.int .i32 (r : Int)] w (fun e w' => e = .returned (.bool b) ∧ w' = w) → Calls Tryd.prog 19 #[.int .i32 (r : Int)] w (fun e w' => e = .returned (.bool (markR r)) ∧ w' = w) := by
    rintro b rfl h; exact h
  by_cases h1 : (r : Int) = 45
  · refine fin true (by simp [markR]; omega) ?_
    go_enter Tryd.func19, Tryd.ntmps19
    go_wp2
    go_ret
    exact ⟨rfl, rfl⟩
  · by_cases h2 : (r : Int) = 95
    · refine fin true (by simp [markR]; omega) ?_
      go_enter Tryd.func19, Tryd.ntmps19
      go_wp2
      go_ret
      exact ⟨rfl, rfl⟩
    · by_cases h3 : (r : Int) = 46
      · refine fin true (by simp [markR]; omega) ?_
        go_enter Tryd.func19, Tryd.ntmps19
        go_wp2
        go_ret
        exact ⟨rfl, rfl⟩
      · refine fin false (by simp [markR]; omega) ?_
        have e1 : ((r : Int) == 45) = false := by simpa using h1
        have e2 : ((r : Int) == 95) = false := by simpa using h2
        have e3 : ((r : Int) == 46) = false := by simpa using h3
        go_enter Tryd.func19, Tryd.ntmps19
        go_wp2
        go_ret
        exact ⟨rfl, rfl⟩
end Go.Proofs.YtmghlfhdjdlkbaaDoor
