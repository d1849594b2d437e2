/- The example of the document holds: a contract of the statements' own 'alive'. -/
import Derived.Test.YtddlebgfbnfbbaaDoorValid
namespace Go.Proofs.YtddlebgfbnfbbaaDoor
open Go.RowKit

theorem orders_valid : validS ⟨#[111, 114, 100, 101, 114, 115, 45, 49]⟩ = true := by decide +kernel
theorem ab_cnt : cntFrom ⟨#[97, 98]⟩ 0 = 2 := by decide +kernel

theorem alive_any (w : World) (hT : Tabs w) : Calls Tryd.prog 7 #[] w (fun e w' => e = .returned (.bool true) ∧ Below w.heap.size w w') := by
  have h1 := valid_any ⟨#[111, 114, 100, 101, 114, 115, 45, 49]⟩ w (by decide) hT
  rw [orders_valid] at h1
  go_enter Tryd.func7, Tryd.ntmps7
  go_wp2_with fail
  refine h1.mono ?_
  rintro e w1 ⟨rfl, hb1⟩
  have h2 := count_any ⟨#[97, 98]⟩ w1 (by decide)
  rw [ab_cnt] at h2
  go_wp2_with fail
  refine h2.mono ?_
  rintro e w2 ⟨rfl, hb2⟩
  go_wp2
  go_ret
  exact ⟨rfl, hb1.trans (hb2.mono hb1.size)⟩
end Go.Proofs.YtddlebgfbnfbbaaDoor
