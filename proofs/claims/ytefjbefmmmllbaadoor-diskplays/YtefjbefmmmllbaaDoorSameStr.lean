/- A contract of the document's own SameStrings, of two rows that hold the same texts. -/
import Derived.Test.YtefjbefmmmllbaaDoorBase
import Derived.Test.YtefjbefmmmllbaaDoorProg
import Derived.Deep.QuietTactic
import Derived.BigQuiet
namespace Go.Proofs.YtefjbefmmmllbaaDoor
open Go.RowKit

/-- Texts lie from A on. -/
def TextsLie (w : World) (A : Option Addr) (ns : List ByteArray) : Prop := 0 < ns.length → ∃ b, A = some ⟨b, 0, none⟩ ∧ ∀ i (h : i < ns.length), w.cell? ⟨b, i, none⟩ = some (.string ns[i])
set_option maxHeartbeats 1600000 in
theorem samestr_any (w : World) (ns : List ByteArray) (A1 A2 : Option Addr) (c1 c2 : Nat) (h1 : TextsLie w A1 ns) (h2 : TextsLie w A2 ns) (hl : ns.length < 1000000000) :
    Calls Tryd.prog 31 #[.slice A1 ns.length c1, .slice A2 ns.length c2] w fun e w' => e = .returned (.bool true) ∧ ∃ m, w' = w.drewN m := by
  have hq : ((ns.length : Int) != (ns.length : Int)) = false := by simp
  have hq2 : (ns.length != ns.length) = false := by simp
  have H1 := Lib.hid h1
  have H2 := Lib.hid h2
  clear h1 h2
  go_enter Tryd.func31, Tryd.ntmps31
  go_wp2_with fail
  go_loopw [5] (fun iv wr => ∃ (i m : Nat), iv = .int .i64 i ∧ i ≤ ns.length ∧ wr = w.drewN m) (fun iv _ => ns.length - (intOf iv).toNat)
  case atStart => exact ⟨0, 0, rfl, Nat.zero_le _, rfl⟩
  case round =>
    obtain ⟨i, m, rfl, hi, rfl⟩ := hrel
    by_cases hlt : i < ns.length
    · obtain ⟨b1, rfl, k1⟩ := H1.out (by omega)
      obtain ⟨b2, rfl, k2⟩ := H2.out (by omega)
      have e1 : (w.drewN m).cell? ⟨b1, i, none⟩ = some (.string ns[i]) := k1 i hlt
      have e2 : (w.drewN m).cell? ⟨b2, i, none⟩ = some (.string ns[i]) := k2 i hlt
      obtain ⟨t, ht⟩ : ∃ t, ns[i] = t := ⟨_, rfl⟩
      rw [ht] at e1 e2
      have hqt : (t.toList != t.toList) = false := by simp
      have hqt2 : (t.toList == t.toList) = true := by simp
      have HW := Lib.hid (fun n => World.drewN_drewN w m n)
      clear k1 k2 ht H1 H2
      generalize w.drewN m = W0 at *
      go_wp2_with fail
      go_quiet (fail)
      go_wp2
      go_roundw
      case rel => exact ⟨i + 1, m + nq, by go_num, by omega, HW.out nq⟩
      case measure => simp [intOf]; omega
    · obtain rfl : i = ns.length := by omega
      go_wp2
      go_ret
      exact ⟨rfl, m, rfl⟩
end Go.Proofs.YtefjbefmmmllbaaDoor
