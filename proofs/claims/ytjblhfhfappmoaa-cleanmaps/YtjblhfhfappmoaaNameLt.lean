/- Names one ahead of the other, as the language holds texts against each other. Plain mathematics; no program is spoken of here. (The texts of disks and stores hold the same words: never both in one text.) -/
import Derived.Test.YtjblhfhfappmoaaRuneNum
import Derived.Test.YtjblhfhfappmoaaNums
namespace Go.Proofs.Ytjblhfhfappmoaa

def ltS (a b : ByteArray) : Bool := Op.bytesLess a.toList b.toList
theorem bytesLess_lt : ∀ (x y : List UInt8), Op.bytesLess x y = decide (x < y)
  | [], [] => by simp [Op.bytesLess]
  | _ :: _, [] => by simp [Op.bytesLess]
  | [], _ :: _ => by simp [Op.bytesLess]
  | a :: x, b :: y => by
    rw [Op.bytesLess, bytesLess_lt x y]
    simp only [List.cons_lt_cons_iff]
    by_cases h1 : a < b <;> by_cases h2 : a = b <;> by_cases h3 : x < y <;> simp [h1, h2, h3]
theorem ltS_lt (a b : ByteArray) : ltS a b = decide (a.data.toList < b.data.toList) := by unfold ltS; rw [bytesLess_lt, ByteArray.toList_eq, ByteArray.toList_eq]
theorem name_eq {a b : ByteArray} (h : a.data.toList = b.data.toList) : a = b := by
  cases a with
  | mk a =>
    cases b with
    | mk b => simp only at h; rw [Array.toList_inj.1 h]
theorem name_beq (a b : ByteArray) : (a.toList == b.toList) = decide (a = b) := by
  rw [ByteArray.toList_eq, ByteArray.toList_eq]
  by_cases h : a = b
  · subst h; simp
  · rw [decide_eq_false h]
    simp only [beq_eq_false_iff_ne, ne_eq]
    exact fun e => h (name_eq e)
theorem ltS_self (a : ByteArray) : ltS a a = false := by rw [ltS_lt]; exact decide_eq_false (List.lt_irrefl _)
theorem ltS_trans {a b c : ByteArray} (h : ltS a b = true) (h' : ltS b c = true) : ltS a c = true := by
  rw [ltS_lt] at *
  simp only [decide_eq_true_eq] at *
  exact List.lt_trans h h'
theorem ltS_ne {a b : ByteArray} (h : ltS a b = true) : a ≠ b := by rintro rfl; rw [ltS_self] at h; cases h
theorem ltS_asymm {a b : ByteArray} (h : ltS a b = true) : ltS b a = false := by
  cases h' : ltS b a with
  | false => rfl
  | true => have := ltS_trans h h'; rw [ltS_self] at this; cases this
theorem ltS_tri (a b : ByteArray) : ltS a b = true ∨ a = b ∨ ltS b a = true := by
  rw [ltS_lt, ltS_lt]
  simp only [decide_eq_true_eq]
  rcases List.le_total a.data.toList b.data.toList with h | h
  · by_cases e : a.data.toList < b.data.toList
    · exact .inl e
    · exact .inr (.inl (name_eq (List.le_antisymm h (List.not_lt.1 e))))
  · by_cases e : b.data.toList < a.data.toList
    · exact .inr (.inr e)
    · exact .inr (.inl (name_eq (List.le_antisymm (List.not_lt.1 e) h)))

end Go.Proofs.Ytjblhfhfappmoaa
