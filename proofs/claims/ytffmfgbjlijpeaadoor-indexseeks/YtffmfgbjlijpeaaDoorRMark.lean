/- Contracts of the document's own Seek and SeekTime. -/
import Derived.Test.YtffmfgbjlijpeaaDoorMarks
import Derived.Test.YtffmfgbjlijpeaaDoorProg
namespace Go.Proofs.YtffmfgbjlijpeaaDoor
open Go.RowKit

theorem refseek_any (w : World) (S : Nat → Prop) (A : Option Addr) (ms : List MarkM) (cap : Nat) (h : RowsLie markRep w S A ms cap) (n : Int) :
    Calls Tryd.prog 17 #[.slice A ms.length cap, .int .i64 n] w (fun e w' => e = .returned (.int .i64 (seekM ms n)) ∧ w' = w) := by
  have HA := Lib.hid h
  have hcl := h.2.1
  have hcm := h.2.2
  unfold maxLen at hcm
  clear h
  go_enter Tryd.func17, Tryd.ntmps17
  go_wp2_with fail
  go_loop [5, 6] (fun pv iv => ∃ i : Nat, iv = .int .i64 i ∧ pv = .int .i64 (seekM (ms.take i) n) ∧ i ≤ ms.length) (fun _ iv => ms.length - (intOf iv).toNat)
  case atStart => exact ⟨0, rfl, rfl, Nat.zero_le _⟩
  case round =>
    obtain ⟨i, rfl, rfl, hi⟩ := hrel
    by_cases hlt : i < ms.length
    · obtain ⟨b, off, rfl, _, _, g0, g1, g2⟩ := MarksLie.at_ HA.out hlt
      have HY := Lib.hid (fun hp => lastPos_yes (p := fun m => decide (m.off ≤ n)) hlt hp)
      have HN := Lib.hid (fun hp => lastPos_no (p := fun m => decide (m.off ≤ n)) hlt hp)
      obtain ⟨m, hm⟩ : ∃ m, ms[i] = m := ⟨_, rfl⟩
      rw [hm] at g0 g1 g2 HY HN
      obtain ⟨mo, mt, mp⟩ := m
      dsimp only at g0 g1 g2 HY HN
      clear hm
      by_cases hp : mo ≤ n
      · have hq : decide (mo ≤ n) = true := decide_eq_true hp
        have HE : Hid (seekM (ms.take (i + 1)) n = mp) := Lib.hid (HY.out hq)
        clear HY HN hp
        go_wp2
        go_round
        case rel => exact ⟨i + 1, by go_num, by rw [HE.out], hlt⟩
        case measure => simp [intOf]; omega
      · have hq : decide (mo ≤ n) = false := decide_eq_false hp
        have HE : Hid (seekM (ms.take (i + 1)) n = seekM (ms.take i) n) := Lib.hid (HN.out (by rw [hq]; decide))
        clear HY HN hp
        go_wp2
        go_round
        case rel => exact ⟨i + 1, by go_num, by rw [HE.out], hlt⟩
        case measure => simp [intOf]; omega
    · obtain rfl : i = ms.length := by omega
      rw [List.take_length]
      go_wp2
      go_ret
      exact ⟨rfl, rfl⟩
theorem refseektime_any (w : World) (S : Nat → Prop) (A : Option Addr) (ms : List MarkM) (cap : Nat) (h : RowsLie markRep w S A ms cap) (n : Int) :
    Calls Tryd.prog 19 #[.slice A ms.length cap, .int .i64 n] w (fun e w' => e = .returned (.int .i64 (seekTM ms n)) ∧ w' = w) := by
  have HA := Lib.hid h
  have hcl := h.2.1
  have hcm := h.2.2
  unfold maxLen at hcm
  clear h
  go_enter Tryd.func19, Tryd.ntmps19
  go_wp2_with fail
  go_loop [5, 6] (fun pv iv => ∃ i : Nat, iv = .int .i64 i ∧ pv = .int .i64 (seekTM (ms.take i) n) ∧ i ≤ ms.length) (fun _ iv => ms.length - (intOf iv).toNat)
  case atStart => exact ⟨0, rfl, rfl, Nat.zero_le _⟩
  case round =>
    obtain ⟨i, rfl, rfl, hi⟩ := hrel
    by_cases hlt : i < ms.length
    · obtain ⟨b, off, rfl, _, _, g0, g1, g2⟩ := MarksLie.at_ HA.out hlt
      have HY := Lib.hid (fun hp => lastPos_yes (p := fun m => decide (m.time < n)) hlt hp)
      have HN := Lib.hid (fun hp => lastPos_no (p := fun m => decide (m.time < n)) hlt hp)
      obtain ⟨m, hm⟩ : ∃ m, ms[i] = m := ⟨_, rfl⟩
      rw [hm] at g0 g1 g2 HY HN
      obtain ⟨mo, mt, mp⟩ := m
      dsimp only at g0 g1 g2 HY HN
      clear hm
      by_cases hp : mt < n
      · have hq : decide (mt < n) = true := decide_eq_true hp
        have HE : Hid (seekTM (ms.take (i + 1)) n = mp) := Lib.hid (HY.out hq)
        clear HY HN hp
        go_wp2
        go_round
        case rel => exact ⟨i + 1, by go_num, by rw [HE.out], hlt⟩
        case measure => simp [intOf]; omega
      · have hq : decide (mt < n) = false := decide_eq_false hp
        have HE : Hid (seekTM (ms.take (i + 1)) n = seekTM (ms.take i) n) := Lib.hid (HN.out (by rw [hq]; decide))
        clear HY HN hp
        go_wp2
        go_round
        case rel => exact ⟨i + 1, by go_num, by rw [HE.out], hlt⟩
        case measure => simp [intOf]; omega
    · obtain rfl : i = ms.length := by omega
      rw [List.take_length]
      go_wp2
      go_ret
      exact ⟨rfl, rfl⟩
end Go.Proofs.YtffmfgbjlijpeaaDoor
