/- Contracts of the program's Count and Cut. -/
import Derived.Test.YtddlebgfbnfbbaaDoorRows
import Derived.Test.YtddlebgfbnfbbaaDoorRuneNum
import Derived.WalkKit
import Derived.Lib.Hide
import Derived.Below
import Derived.Laws.RangeAny
import Derived.LoopTactic
namespace Go.Proofs.YtddlebgfbnfbbaaDoor
open Go.RowKit

theorem iter_below (w : World) (s : ByteArray) (p : Nat) : Below w.heap.size w (w.iter s p) := (Below.refl _ _).alloc (Nat.le_refl _) _

set_option maxHeartbeats 800000 in
theorem count_any (s : ByteArray) (w : World) (hs : s.size ≤ maxLen) :
    Calls Tryd.prog 10 #[.string s] w (fun e w' => e = .returned (.int .i64 (cntFrom s 0 : Nat)) ∧ Below w.heap.size w w') := by
  unfold maxLen at hs
  go_enter Tryd.func10, Tryd.ntmps10
  go_wp2
  go_loopw [3] (fun n w' => ∃ (pos acc : Nat), w' = w.iter s pos ∧ n = .int .i64 acc ∧ acc + cntFrom s pos = cntFrom s 0 ∧ acc ≤ pos ∧ pos ≤ s.size) (fun _ w' => s.size - w'.iterPos w.heap.size)
  case atStart => exact ⟨0, 0, rfl, rfl, by omega, by omega, by omega⟩
  case round =>
    obtain ⟨pos, acc, rfl, rfl, hc, ha, hps⟩ := hrel
    by_cases hp : pos < s.size
    · have hnx : ∀ ty, (Instr.next (.pointer (some ⟨w.heap.size, 0, none⟩)) true ty).run Tryd.prog (w.iter s pos) = _ := fun ty => run_next_any w s pos ty hp
      have hwd := Lib.decode_width_pos s pos hp
      have hft := decode_fits s pos hp
      have hst := cnt_step s pos hp
      go_wp2
      go_roundw
      case rel => exact ⟨pos + (Utf8.decode s pos).2, acc + 1, rfl, by go_num, by omega, by omega, hft⟩
      case measure =>
        simp
        omega
    · have hnx : ∀ ty, (Instr.next (.pointer (some ⟨w.heap.size, 0, none⟩)) true ty).run Tryd.prog (w.iter s pos) = _ := fun ty => run_next_end w s pos ty hp
      go_wp2
      go_ret
      rw [cnt_end s pos hp, Nat.add_zero] at hc
      subst hc
      exact ⟨rfl, iter_below _ _ _⟩

theorem whole (s : ByteArray) : s.extract 0 s.size = s := by simp

set_option maxHeartbeats 800000 in
theorem cut_any (s : ByteArray) (n : Int) (w : World) (hs : s.size ≤ maxLen) (h0 : -9223372036854775808 ≤ n) (h1 : n ≤ 9223372036854775807) :
    Calls Tryd.prog 12 #[.string s, .int .i64 n] w (fun e w' => e = .returned (.string (s.extract 0 (upTo s n.toNat 0))) ∧ Below w.heap.size w w') := by
  unfold maxLen at hs
  go_enter Tryd.func12, Tryd.ntmps12
  go_wp2
  go_loopw [1] (fun v w' => ∃ (pos : Nat) (m : Int), w' = w.iter s pos ∧ v = .int .i64 m ∧ m ≤ n ∧ (0 ≤ m ∨ m = n) ∧ upTo s n.toNat 0 = upTo s m.toNat pos ∧ pos ≤ s.size) (fun _ w' => s.size - w'.iterPos w.heap.size)
  case atStart => exact ⟨0, n, rfl, rfl, by omega, .inr rfl, rfl, by omega⟩
  case round =>
    obtain ⟨pos, m, rfl, rfl, hm, hm0, hc, hps⟩ := hrel
    have HC := Lib.hid hc
    clear hc
    by_cases hp : pos < s.size
    · have hnx : ∀ ty, (Instr.next (.pointer (some ⟨w.heap.size, 0, none⟩)) true ty).run Tryd.prog (w.iter s pos) = _ := fun ty => run_next_any w s pos ty hp
      have hwd := Lib.decode_width_pos s pos hp
      have hft := decode_fits s pos hp
      by_cases hz : m ≤ 0
      · go_wp2
        go_ret
        refine ⟨?_, iter_below _ _ _⟩
        rw [HC.out, show m.toNat = 0 by omega]
        rfl
      · go_wp2
        go_roundw
        case rel =>
          refine ⟨pos + (Utf8.decode s pos).2, m - 1, rfl, by go_num, by omega, .inl (by omega), ?_, hft⟩
          rw [HC.out, show m.toNat = (m - 1).toNat + 1 by omega, upTo_step s _ pos hp]
        case measure =>
          simp
          omega
    · have hnx : ∀ ty, (Instr.next (.pointer (some ⟨w.heap.size, 0, none⟩)) true ty).run Tryd.prog (w.iter s pos) = _ := fun ty => run_next_end w s pos ty hp
      go_wp2
      go_ret
      refine ⟨?_, iter_below _ _ _⟩
      rw [HC.out, upTo_end s _ pos hp, show pos = s.size by omega, whole]
      rfl
end Go.Proofs.YtddlebgfbnfbbaaDoor
