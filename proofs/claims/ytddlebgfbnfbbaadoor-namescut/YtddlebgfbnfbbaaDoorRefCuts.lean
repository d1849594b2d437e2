/- Contracts of the document's own Count and Cut. -/
import Derived.Test.YtddlebgfbnfbbaaDoorRune1
import Derived.Test.YtddlebgfbnfbbaaDoorCuts
namespace Go.Proofs.YtddlebgfbnfbbaaDoor
open Go.RowKit

theorem rune_tail (s : ByteArray) (i : Nat) (w : World) (h : i < s.size) (hs : s.size ≤ maxLen) :
    Calls Tryd.prog 17 #[.string (s.extract i s.size)] w (fun e w' => e = .returned (.tuple #[.int .i64 ((runeAt s i).1 : Nat), .int .i64 ((Utf8.decode s i).2 : Nat), .bool (runeAt s i).2.2]) ∧ w = w') := by
  have hz : (s.extract i s.size).size = s.size - i := Go.Lib.tail_size s i
  have := rune1_any (s.extract i s.size) w (by omega) (by omega)
  unfold Tells at this
  rw [runeAt_tail, runeAt_width] at this
  exact this

set_option maxHeartbeats 800000 in
theorem refcount_any (s : ByteArray) (w : World) (hs : s.size ≤ maxLen) :
    Calls Tryd.prog 11 #[.string s] w (fun e w' => e = .returned (.int .i64 (cntFrom s 0 : Nat)) ∧ w = w') := by
  have HS := Lib.hid hs
  unfold maxLen at hs
  go_enter Tryd.func11, Tryd.ntmps11
  go_wp2_with fail
  go_loop [3, 4] (fun nv iv => ∃ (n i : Nat), nv = .int .i64 (n : Int) ∧ iv = .int .i64 (i : Int) ∧ n + cntFrom s i = cntFrom s 0 ∧ n ≤ i ∧ i ≤ s.size)
    (fun _ iv => s.size - (intOf iv).toNat)
  case atStart => exact ⟨0, 0, rfl, rfl, by omega, by omega, by omega⟩
  case round =>
    obtain ⟨n, i, rfl, rfl, hc, hn, hi⟩ := hrel
    have HC := Lib.hid hc
    clear hc
    by_cases hlt : i < s.size
    · have hltz : (i : Int) < (s.size : Int) := by omega
      have hwd := Lib.decode_width_pos s i hlt
      have hft := decode_fits s i hlt
      have hst := cnt_step s i hlt
      obtain ⟨k, hk⟩ : ∃ k, (Utf8.decode s i).2 = k := ⟨_, rfl⟩
      rw [hk] at hwd hft hst
      have HK := Lib.hid hk
      have HST := Lib.hid hst
      clear hk hst
      go_wp2_with fail
      refine (rune_tail s i _ hlt HS.out).mono ?_
      rintro e w' ⟨rfl, rfl⟩
      rw [HK.out]
      go_wp2
      go_round
      case rel =>
        have h1 := HC.out
        have h2 := HST.out
        exact ⟨n + 1, i + k, by go_num, by go_num, by omega, by omega, hft⟩
      case measure => simp [intOf]; omega
    · have hltz : ¬ (i : Int) < (s.size : Int) := by omega
      have hz := cnt_end s i hlt
      have hfin : cntFrom s 0 = n := by have := HC.out; omega
      have HF := Lib.hid hfin
      clear hfin hz
      go_wp2
      go_ret
      exact ⟨by rw [HF.out]; rfl, rfl⟩

set_option maxHeartbeats 800000 in
theorem refcut_any (s : ByteArray) (n : Int) (w : World) (hs : s.size ≤ maxLen) (h0 : -9223372036854775808 ≤ n) (h1 : n ≤ 9223372036854775807) :
    Calls Tryd.prog 13 #[.string s, .int .i64 n] w (fun e w' => e = .returned (.string (s.extract 0 (upTo s n.toNat 0))) ∧ w = w') := by
  have HS := Lib.hid hs
  unfold maxLen at hs
  go_enter Tryd.func13, Tryd.ntmps13
  go_wp2_with fail
  go_loop [1, 5] (fun mv iv => ∃ (i : Nat) (m : Int), mv = .int .i64 m ∧ iv = .int .i64 (i : Int) ∧ m ≤ n ∧ (0 ≤ m ∨ m = n) ∧ upTo s n.toNat 0 = upTo s m.toNat i ∧ i ≤ s.size)
    (fun _ iv => s.size - (intOf iv).toNat)
  case atStart => exact ⟨0, n, rfl, rfl, by omega, .inr rfl, rfl, by omega⟩
  case round =>
    obtain ⟨i, m, rfl, rfl, hm, hm0, hc, hi⟩ := hrel
    have HC := Lib.hid hc
    clear hc
    by_cases hlt : i < s.size
    · have hltz : (i : Int) < (s.size : Int) := by omega
      by_cases hp : 0 < m
      · have hwd := Lib.decode_width_pos s i hlt
        have hft := decode_fits s i hlt
        have hst := upTo_step s (m - 1).toNat i hlt
        obtain ⟨k, hk⟩ : ∃ k, (Utf8.decode s i).2 = k := ⟨_, rfl⟩
        rw [hk] at hwd hft hst
        have HK := Lib.hid hk
        have HST := Lib.hid hst
        clear hk hst
        go_wp2_with fail
        refine (rune_tail s i _ hlt HS.out).mono ?_
        rintro e w' ⟨rfl, rfl⟩
        rw [HK.out]
        go_wp2
        go_round
        case rel =>
          refine ⟨i + k, m - 1, by go_num, by go_num, by omega, .inl (by omega), ?_, hft⟩
          rw [HC.out, ← HST.out, show m.toNat = (m - 1).toNat + 1 by omega]
        case measure => simp [intOf]; omega
      · have hfin : upTo s n.toNat 0 = i := by
          rw [HC.out, show m.toNat = 0 by omega]; rfl
        have HF := Lib.hid hfin
        clear hfin
        go_wp2
        go_ret
        exact ⟨by rw [HF.out]; rfl, rfl⟩
    · have hltz : ¬ (i : Int) < (s.size : Int) := by omega
      have hfin : upTo s n.toNat 0 = i := by rw [HC.out, upTo_end s _ i hlt]
      have HF := Lib.hid hfin
      clear hfin
      go_wp2
      go_ret
      exact ⟨by rw [HF.out]; rfl, rfl⟩
end Go.Proofs.YtddlebgfbnfbbaaDoor
