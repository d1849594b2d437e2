/- What the library's word 'right UTF-8' says, rune by rune, in the words of RuneNum. -/
import Derived.Test.YtmghlfhdjdlkbaaDoorRuneNum
import Derived.Lib.ValidLaws
namespace Go.Proofs.YtmghlfhdjdlkbaaDoor
open Go.Lib

theorem tail_bytes (s : ByteArray) (p : Nat) : (⟨(s.data.toList.drop p).toArray⟩ : ByteArray) = s.extract p s.size := by
  refine bytes_ext ?_
  rw [extract_data]
  rw [List.take_of_length_le (by rw [List.length_drop, ← size_eq]; omega)]
theorem decodeL_at (s : ByteArray) (p : Nat) : decodeL (s.data.toList.drop p) = Utf8.decode s p := by
  unfold decodeL
  rw [tail_bytes, tail_decode, Nat.add_zero]
/-- From p on the text is right UTF-8. -/
def rightFrom (s : ByteArray) (p : Nat) : Bool := validD (s.data.toList.drop p)
theorem right_all (s : ByteArray) : validD s.data.toList = rightFrom s 0 := rfl
theorem right_end (s : ByteArray) (p : Nat) (h : ¬ p < s.size) : rightFrom s p = true := by
  unfold rightFrom
  rw [List.drop_eq_nil_of_le (by rw [← size_eq]; omega)]
  exact validD_nil
theorem right_step (s : ByteArray) (p : Nat) (h : p < s.size) : rightFrom s p = ((runeAt s p).2.2 && rightFrom s (p + (Utf8.decode s p).2)) := by
  unfold rightFrom
  rw [validD_step _ (by intro e; have := congrArg List.length e; rw [List.length_drop, ← size_eq] at this; simp at this; omega), decodeL_at, List.drop_drop]
  unfold runeAt
  by_cases hb : Utf8.decode s p = (65533, 1)
  · rw [if_pos hb, if_pos (by rw [hb]; exact ⟨rfl, rfl⟩)]
    rfl
  · rw [if_neg hb, if_neg (by intro e; exact hb (Prod.ext e.1 e.2))]
    simp
theorem good_right (s : ByteArray) : ∀ f p, s.size - p ≤ f → good s p = true → rightFrom s p = true
  | 0, p, hf, _ => right_end s p (by omega)
  | f + 1, p, hf, hg => by
    by_cases h : p < s.size
    · have hw := decode_width_pos s p h
      rw [good_step s p h, Bool.and_eq_true] at hg
      have hs := hg.1
      unfold signAt at hs
      rw [Bool.and_eq_true] at hs
      rw [right_step s p h, hs.1, good_right s f _ (by omega) hg.2]
      rfl
    · exact right_end s p h
theorem not_right (s : ByteArray) (h : validD s.data.toList = false) : validS s = false := by
  rw [right_all] at h
  cases hg : good s 0 with
  | true => rw [good_right s _ 0 (Nat.le_refl _) hg] at h; cases h
  | false => unfold validS; rw [hg]; rfl
theorem bad_sign (s : ByteArray) (p : Nat) (h : p < s.size) (hb : signAt s p = false) (hg : good s 0 = good s p) : validS s = false := by
  unfold validS
  rw [hg, good_step s p h, hb]
  rfl
theorem good_done (s : ByteArray) (p n : Nat) (h : ¬ p < s.size) (hg : good s 0 = good s p) (hn : n + cntFrom s p = cntFrom s 0) : validS s = (decide (0 < n) && decide (n ≤ 40)) := by
  unfold validS
  rw [hg, good_end s p h, ← hn, cnt_end s p h, Nat.add_zero]
  rfl
end Go.Proofs.YtmghlfhdjdlkbaaDoor
