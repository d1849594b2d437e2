/- What is gone of a log has a reason: along the list and what stays of it. Two records as values: the same, or of other offsets. -/
import Derived.Test.YtjblhfhfappmoaaCleanNum
import Derived.Test.YtjblhfhfappmoaaRecs
import Derived.Laws.StructEq
namespace Go.Proofs.Ytjblhfhfappmoaa
open Go.RowKit

section
variable {point now grace : Int} {dead : Bool}
theorem less_stay {l K : List Rec} {j i : Nat} (hd : K.drop j = keepL point now grace dead (l.drop i)) (hi : i < l.length) (hg : goneP point now grace dead l[i] (l.drop (i + 1)) = false) :
    ∃ h : j < K.length, K[j] = l[i] ∧ K.drop (j + 1) = keepL point now grace dead (l.drop (i + 1)) := by
  rw [keep_drop hi, if_neg (by rw [hg]; exact Bool.false_ne_true)] at hd
  have hj : j < K.length := by
    rcases Nat.lt_or_ge j K.length with h | h
    · exact h
    · rw [List.drop_eq_nil_of_le h] at hd
      cases hd
  rw [List.drop_eq_getElem_cons hj] at hd
  injection hd with h1 h2
  exact ⟨hj, h1, h2⟩
theorem less_gone {l K : List Rec} {j i : Nat} (hr : RiseO l) (hd : K.drop j = keepL point now grace dead (l.drop i)) (hi : i < l.length) (hg : goneP point now grace dead l[i] (l.drop (i + 1)) = true) :
    K.drop j = keepL point now grace dead (l.drop (i + 1)) ∧ ∀ h : j < K.length, K[j].off ≠ l[i].off := by
  rw [keep_drop hi, if_pos hg] at hd
  refine ⟨hd, fun h => ?_⟩
  have hm : K[j] ∈ K.drop j := by rw [List.drop_eq_getElem_cons h]; exact List.mem_cons_self
  rw [hd] at hm
  have hm2 := keep_sub _ _ hm
  have hp : (l.drop i).Pairwise (fun a b => a.off < b.off) := List.Pairwise.sublist (List.drop_sublist i l) hr
  rw [List.drop_eq_getElem_cons hi] at hp
  have := (List.pairwise_cons.mp hp).1 _ hm2
  omega
end

theorem rec_stood : Try.prog.stoodInHeld 32 = false := by kernel_rfl
theorem rec_fields : Try.prog.underlying 32 = some (.struct (Try.prog.fieldsOf 32)) := by kernel_rfl
theorem rec_noguard : Try.prog.eqGuardType Try.prog.depth 32 = false := by kernel_rfl
theorem rec_eql (w : World) (o t : Int) (k v : ByteArray) (d : Bool) (o' t' : Int) (k' v' : ByteArray) (d' : Bool) :
    (binOp .eql 32 (.agg #[.int .i64 o, .int .i64 t, .string k, .string v, .bool d]) (.agg #[.int .i64 o', .int .i64 t', .string k', .string v', .bool d'])).run Try.prog w
      = .ok (.bool ((o == o') && (t == t') && (k.toList == k'.toList) && (v.toList == v'.toList) && (d == d'))) w := by
  rw [run_eql_struct, run_equalIn_agg w 9999 _ _ _ rec_fields rec_stood]
  unfold Program.fieldsOf
  rw [Try.underlying32]
  simp [Op.eqFields, part, isAgg, run_underlying Try.underlying3, run_underlying Try.underlying4, run_underlying Try.underlying9, run_equalIn_int (P := Try.prog) _ _ _ _ _ _ _ Try.underlying3, run_equalIn_string (P := Try.prog) _ _ _ _ _ Try.underlying9, run_equalIn_bool' (P := Try.prog) _ _ _ _ _ Try.underlying4]
  by_cases h0 : o = o'
  · by_cases h1 : t = t'
    · by_cases h2 : k.toList = k'.toList
      · by_cases h3 : v.toList = v'.toList
        · by_cases h4 : d = d' <;> simp [h0, h1, h2, h3, h4]
        · simp [h0, h1, h2, h3]
      · simp [h0, h1, h2]
    · simp [h0, h1]
  · simp [h0]
theorem rec_eql_same (w : World) (o t : Int) (k v : ByteArray) (d : Bool) :
    (binOp .eql 32 (.agg #[.int .i64 o, .int .i64 t, .string k, .string v, .bool d]) (.agg #[.int .i64 o, .int .i64 t, .string k, .string v, .bool d])).run Try.prog w = .ok (.bool true) w := by
  rw [rec_eql]
  simp
theorem rec_eql_apart (w : World) (o t : Int) (k v : ByteArray) (d : Bool) (o' t' : Int) (k' v' : ByteArray) (d' : Bool) (h : o ≠ o') :
    (binOp .eql 32 (.agg #[.int .i64 o, .int .i64 t, .string k, .string v, .bool d]) (.agg #[.int .i64 o', .int .i64 t', .string k', .string v', .bool d'])).run Try.prog w = .ok (.bool false) w := by
  rw [rec_eql]
  simp [h]
theorem rec_eql_guard (w : World) (x y : Operand) (xs ys : Array Value) : (eqGuard .eql 32 x y (.agg xs) (.agg ys)).run Try.prog w = .ok () w := run_eqGuard_agg w _ _ _ _ _ _ rec_noguard
end Go.Proofs.Ytjblhfhfappmoaa
