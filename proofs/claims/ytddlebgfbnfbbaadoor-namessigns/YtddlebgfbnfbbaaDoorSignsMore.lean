/- Small facts for the statement on single runes. -/
import Derived.Test.YtddlebgfbnfbbaaDoorRuneNum
import Derived.OpenShut
namespace Go.Proofs.YtddlebgfbnfbbaaDoor
open Go.Lib

theorem enc_four (c : Nat) (hv : Utf8.valid (c : Int) = true) : (Utf8.encode (c : Int)).size ≤ 4 := by
  have h := enc_dec c hv ⟨#[]⟩
  have h4 := decode_four (Utf8.encode (c : Int) ++ ⟨#[]⟩) 0
  rw [h] at h4
  generalize (Utf8.encode (c : Int)).size = z at h4 ⊢
  exact h4
theorem front_app (u t : ByteArray) : (u ++ t).extract 0 u.size = u := by
  refine bytes_ext ?_
  rw [extract_data, app_list, Nat.sub_zero, List.drop_zero, size_eq, List.take_left']
  rfl
theorem wrap_rune (c : Nat) (h : c ≤ 1114111) : IntKind.i32.wrap (c : Int) = (c : Int) := by
  simp only [IntKind.wrap, IntKind.signed, IntKind.bits]
  simp
  omega
end Go.Proofs.YtddlebgfbnfbbaaDoor
