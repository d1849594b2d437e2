/- A record as the program holds it. -/
import Derived.Test.YtoienjlpncphgaaNums
import Derived.Test.YtoienjlpncphgaaBytes
import Derived.Laws.Strings
namespace Go.Proofs.Ytoienjlpncphgaa
open Go.RowKit

def recV (r : Rec) : Value := .agg #[.int .i64 r.off, .int .i64 r.time, .string r.key, .string r.val, .bool r.dead]
theorem empty_of {s : ByteArray} (h : s.size = 0) : s = ⟨#[]⟩ := by
  refine bytes_eq ?_
  have : s.data.toList.length = 0 := by rw [Array.length_toList]; exact h
  exact List.eq_nil_of_length_eq_zero this
theorem full_of {s : ByteArray} (h : ¬ s.size = 0) : s.toList.isEmpty = false := by
  rw [ByteArray.toList_eq]
  cases hd : s.data.toList with
  | nil => exact absurd (by show s.data.size = 0; rw [← Array.length_toList, hd]; rfl) h
  | cons a t => rfl
end Go.Proofs.Ytoienjlpncphgaa
