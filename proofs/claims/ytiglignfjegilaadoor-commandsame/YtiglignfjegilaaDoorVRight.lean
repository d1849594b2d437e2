/- A contract of the program's record.Right. -/
import Derived.Test.YtiglignfjegilaaDoorRecBase
namespace Go.Proofs.YtiglignfjegilaaDoor
open Go.RowKit

set_option maxRecDepth 100000 in
set_option maxHeartbeats 1600000 in
theorem vright_any_at (r : Rec) (w : World) : Calls Tryd.prog 42 #[recV r] w (fun e w' => e = .returned (.bool (decide r.right)) ∧ w' = w.alloc (.cells #[.int .i64 r.off, .int .i64 r.time, .string r.key, .string r.val, .bool r.dead] 39)) := by
  have fin : ∀ b : Bool, decide r.right = b → Calls Tryd.prog 42 #[recV r] w (fun e w' => e = .returned (.bool b) ∧ w' = w.alloc (.cells #[.int .i64 r.off, .int .i64 r.time, .string r.key, .string r.val, .bool r.dead] 39)) → Calls Tryd.prog 42 #[recV r] w (fun e w' => e = .returned (.bool (decide r.right)) ∧ w' = w.alloc (.cells #[.int .i64 r.off, .int .i64 r.time, .string r.key, .string r.val, .bool r.dead] 39)) := by
    rintro b rfl h; exact h
  unfold recV at fin ⊢
  obtain ⟨off, time, key, val, dead⟩ := r
  simp only at fin ⊢
  by_cases h0 : (0 : Int) ≤ off
  · have d0 : decide ((0 : Int) ≤ off) = true := decide_eq_true h0
    by_cases h1 : off ≤ 1125899906842624
    · have d1 : decide (off ≤ 1125899906842624) = true := decide_eq_true h1
      by_cases h2 : (-1099511627776 : Int) ≤ time
      · have d2 : decide ((-1099511627776 : Int) ≤ time) = true := decide_eq_true h2
        by_cases h3 : time ≤ 1099511627776
        · have d3 : decide (time ≤ 1099511627776) = true := decide_eq_true h3
          by_cases h4 : (1 : Int) ≤ (key.size : Int)
          · have d4 : decide ((1 : Int) ≤ (key.size : Int)) = true := decide_eq_true h4
            by_cases h5 : (key.size : Int) ≤ 200
            · have d5 : decide ((key.size : Int) ≤ 200) = true := decide_eq_true h5
              by_cases h6 : (val.size : Int) ≤ 2000
              · have d6 : decide ((val.size : Int) ≤ 2000) = true := decide_eq_true h6
                cases dead with
                | false =>
                  refine fin true (decide_eq_true (by unfold Rec.right; simp only; exact ⟨by omega, by omega, by omega, by omega, by omega, by omega, by omega, by simp⟩)) ?_
                  clear fin
                  go_enter Tryd.func42, Tryd.ntmps42
                  go_wp2
                  go_ret
                  exact ⟨rfl, rfl⟩
                | true =>
                  by_cases h8 : val = ⟨#[]⟩
                  · have hz : val.size = 0 := by rw [h8]; rfl
                    subst h8
                    refine fin true (decide_eq_true (by unfold Rec.right; simp only; exact ⟨by omega, by omega, by omega, by omega, by omega, by omega, by omega, fun _ => hz⟩)) ?_
                    clear fin hz
                    go_enter Tryd.func42, Tryd.ntmps42
                    go_wp2
                    go_ret
                    exact ⟨rfl, rfl⟩
                  · have hz : ¬ val.size = 0 := fun h => h8 (empty_of h)
                    have hb8 : val.toList.isEmpty = false := full_of hz
                    refine fin false (decide_eq_false (by unfold Rec.right; simp only; intro hh; exact hz (hh.2.2.2.2.2.2.2 trivial))) ?_
                    clear fin hz
                    go_enter Tryd.func42, Tryd.ntmps42
                    go_wp2
                    go_ret
                    exact ⟨rfl, rfl⟩
              · have d6 : decide ((val.size : Int) ≤ 2000) = false := decide_eq_false h6
                refine fin false (decide_eq_false (by unfold Rec.right; simp only; omega)) ?_
                clear fin
                go_enter Tryd.func42, Tryd.ntmps42
                go_wp2
                go_ret
                exact ⟨rfl, rfl⟩
            · have d5 : decide ((key.size : Int) ≤ 200) = false := decide_eq_false h5
              refine fin false (decide_eq_false (by unfold Rec.right; simp only; omega)) ?_
              clear fin
              go_enter Tryd.func42, Tryd.ntmps42
              go_wp2
              go_ret
              exact ⟨rfl, rfl⟩
          · have d4 : decide ((1 : Int) ≤ (key.size : Int)) = false := decide_eq_false h4
            refine fin false (decide_eq_false (by unfold Rec.right; simp only; omega)) ?_
            clear fin
            go_enter Tryd.func42, Tryd.ntmps42
            go_wp2
            go_ret
            exact ⟨rfl, rfl⟩
        · have d3 : decide (time ≤ 1099511627776) = false := decide_eq_false h3
          refine fin false (decide_eq_false (by unfold Rec.right; simp only; omega)) ?_
          clear fin
          go_enter Tryd.func42, Tryd.ntmps42
          go_wp2
          go_ret
          exact ⟨rfl, rfl⟩
      · have d2 : decide ((-1099511627776 : Int) ≤ time) = false := decide_eq_false h2
        refine fin false (decide_eq_false (by unfold Rec.right; simp only; omega)) ?_
        clear fin
        go_enter Tryd.func42, Tryd.ntmps42
        go_wp2
        go_ret
        exact ⟨rfl, rfl⟩
    · have d1 : decide (off ≤ 1125899906842624) = false := decide_eq_false h1
      refine fin false (decide_eq_false (by unfold Rec.right; simp only; omega)) ?_
      clear fin
      go_enter Tryd.func42, Tryd.ntmps42
      go_wp2
      go_ret
      exact ⟨rfl, rfl⟩
  · have d0 : decide ((0 : Int) ≤ off) = false := decide_eq_false h0
    refine fin false (decide_eq_false (by unfold Rec.right; simp only; omega)) ?_
    clear fin
    go_enter Tryd.func42, Tryd.ntmps42
    go_wp2
    go_ret
    exact ⟨rfl, rfl⟩
theorem vright_any (r : Rec) (w : World) : Calls Tryd.prog 42 #[recV r] w (fun e w' => e = .returned (.bool (decide r.right)) ∧ Below w.heap.size w w') :=
  (vright_any_at r w).mono fun e w' h => ⟨h.1, by rw [h.2]; exact (Below.refl _ _).alloc (Nat.le_refl _) _⟩
end Go.Proofs.YtiglignfjegilaaDoor
