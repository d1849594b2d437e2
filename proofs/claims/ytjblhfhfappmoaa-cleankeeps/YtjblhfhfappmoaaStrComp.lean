/- Which of two texts is the lesser one: what strings.Compare answers. -/
import Derived.Test.YtjblhfhfappmoaaNameLt
import Derived.Test.YtjblhfhfappmoaaProg
import Derived.Test.YtjblhfhfappmoaaBase
import Derived.Lib.Bytealg
namespace Go.Proofs.Ytjblhfhfappmoaa
open Go.RowKit

/-- Which of two texts is the lesser one. -/
def cmpS (a b : ByteArray) : Int := if ltS a b = true then -1 else if ltS b a = true then 1 else 0
theorem compareBytes_lt : ∀ (x y : List UInt8), Lib.compareBytes x y = if x < y then -1 else if y < x then 1 else 0
  | [], [] => by simp [Lib.compareBytes]
  | [], _ :: _ => by simp [Lib.compareBytes]
  | _ :: _, [] => by simp [Lib.compareBytes]
  | a :: x, b :: y => by
    unfold Lib.compareBytes
    rw [compareBytes_lt x y]
    simp only [List.cons_lt_cons_iff]
    by_cases h1 : a < b
    · simp [h1]
    · by_cases h2 : b < a
      · have h3 : a ≠ b := fun e => by subst e; exact UInt8.lt_irrefl _ h2
        simp [h1, h2, h3]
      · have h3 : a = b := UInt8.le_antisymm (UInt8.not_lt.1 h2) (UInt8.not_lt.1 h1)
        subst h3
        simp [h1]
theorem cmpS_eq (a b : ByteArray) : Lib.compareBytes a.data.toList b.data.toList = cmpS a b := by
  rw [compareBytes_lt]
  unfold cmpS
  rw [ltS_lt, ltS_lt]
  simp only [decide_eq_true_eq]
theorem cmpS_zero (a b : ByteArray) : (cmpS a b == 0) = decide (a = b) := by
  unfold cmpS
  rcases ltS_tri a b with h | h | h
  · rw [if_pos h, decide_eq_false (ltS_ne h)]; rfl
  · subst h; rw [ltS_self]; simp
  · rw [if_neg (by rw [ltS_asymm h]; decide), if_pos h, decide_eq_false (Ne.symm (ltS_ne h))]; rfl
theorem comparestr_any (a b : ByteArray) (w : World) : Calls Try.prog 25 #[.string a, .string b] w (fun e w' => e = .returned (.int .i64 (cmpS a b)) ∧ w = w') := by
  rw [← cmpS_eq]
  go_enter Try.func25, Try.ntmps25
  go_wp2
  rw [run_callFunc_extern Try.func36 (by kernel_rfl) (by kernel_rfl) (by kernel_rfl) (e := Extern.BytealgCompare.compare) (by kernel_rfl), Lib.run_compareString]
  simp only [Result.andThen]
  rw [Oper.upon_value]
  go_wp2
  go_ret
  exact ⟨rfl, rfl⟩
theorem scompare_any (a b : ByteArray) (w : World) : Calls Try.prog 22 #[.string a, .string b] w (fun e w' => e = .returned (.int .i64 (cmpS a b)) ∧ w = w') := by
  have HC := Lib.hid (comparestr_any a b w)
  go_enter Try.func22, Try.ntmps22
  go_wp2_with fail
  refine HC.out.mono ?_
  rintro e w2 ⟨rfl, rfl⟩
  go_wp2
  go_ret
  exact ⟨rfl, rfl⟩
end Go.Proofs.Ytjblhfhfappmoaa
