/- A contract of the statements' own Big: records too many, or too great. -/
import Derived.Test.YtjblhfhfappmoaaRecs
import Derived.Deep.QuietTactic
import Derived.BigQuiet
namespace Go.Proofs.Ytjblhfhfappmoaa
open Go.RowKit

/-- Records that are not too great. -/
def SmallR (rs : List Rec) : Prop := rs.length ≤ 60 ∧ ∀ r ∈ rs, r.key.size ≤ 250 ∧ r.val.size ≤ 300
def BigSays (rs : List Rec) (w : World) (e : Ending) (w' : World) : Prop := w' = w ∧ ∃ r, e = .returned (.bool r) ∧ (r = false → SmallR rs)
set_option maxHeartbeats 1600000 in
set_option maxRecDepth 4000 in
theorem big_any (w0 w : World) (A : Option Addr) (rs : List Rec) (cap : Nat) (h : RecsLie w0 A rs cap) (hb : Below w0.heap.size w0 w) :
    Calls Try.prog 8 #[.slice A rs.length cap] w (BigSays rs w) := by
  have HA := Lib.hid h
  have hcl := h.2.1
  have hcm := h.2.2.1
  unfold maxLen at hcm
  clear h
  go_enter Try.func8, Try.ntmps8
  go_wp2_with fail
  go_loop [3] (fun iv => ∃ i : Nat, iv = .int .i64 i ∧ i ≤ rs.length ∧ ∀ j (h : j < rs.length), j < i → rs[j].key.size ≤ 250 ∧ rs[j].val.size ≤ 300) (fun iv => rs.length - (intOf iv).toNat)
  case atStart => exact ⟨0, rfl, Nat.zero_le _, fun j _ h => absurd h (by omega)⟩
  case round =>
    obtain ⟨i, rfl, hi, hsm⟩ := hrel
    have HSM := Lib.hid hsm
    clear hsm
    by_cases hlt : i < rs.length
    · obtain ⟨b, off, rfl, hbl, hat⟩ := HA.out.more hlt
      obtain ⟨g0, g1, g2, g3, g4⟩ := hat.keep (w' := w) fun j => hb.cell hbl
      obtain ⟨km, hkm⟩ : ∃ n, rs[i].key = n := ⟨_, rfl⟩
      obtain ⟨vm, hvm⟩ : ∃ n, rs[i].val = n := ⟨_, rfl⟩
      rw [hkm] at g2
      rw [hvm] at g3
      have HB1 := Lib.hid hkm
      have HB2 := Lib.hid hvm
      clear hat g0 g1 g4 hkm hvm hbl
      by_cases q1 : 250 < km.size
      · have z1 : decide ((250 : Int) < (km.size : Int)) = true := decide_eq_true (by omega)
        go_wp2
        go_ret
        exact ⟨rfl, true, rfl, fun h => by cases h⟩
      · have z1 : decide ((250 : Int) < (km.size : Int)) = false := decide_eq_false (by omega)
        by_cases q2 : 300 < vm.size
        · have z2 : decide ((300 : Int) < (vm.size : Int)) = true := decide_eq_true (by omega)
          go_wp2
          go_ret
          exact ⟨rfl, true, rfl, fun h => by cases h⟩
        · have z2 : decide ((300 : Int) < (vm.size : Int)) = false := decide_eq_false (by omega)
          go_wp2
          go_round
          case rel =>
            refine ⟨i + 1, by go_num, hlt, fun j h hj => ?_⟩
            by_cases e : j = i
            · subst e
              rw [HB1.out, HB2.out]
              exact ⟨Nat.le_of_not_lt q1, Nat.le_of_not_lt q2⟩
            · exact HSM.out j h (Nat.lt_of_le_of_ne (Nat.le_of_lt_succ hj) e)
          case measure => simp [intOf]; omega
    · obtain rfl : i = rs.length := by omega
      go_wp2
      go_ret
      refine ⟨rfl, _, rfl, fun h => ⟨?_, fun a ha => ?_⟩⟩
      · simp at h
        omega
      · obtain ⟨j, hj, rfl⟩ := List.getElem_of_mem ha
        exact HSM.out j hj hj
end Go.Proofs.Ytjblhfhfappmoaa
