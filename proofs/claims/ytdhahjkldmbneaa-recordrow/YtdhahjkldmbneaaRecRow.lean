/- Mathematics of records one behind the other. No program is spoken of here. -/
import Derived.Test.YtdhahjkldmbneaaRecWords
namespace Go.Proofs.Ytdhahjkldmbneaa

/-- The right ones. -/
def goods (l : List Rec) : List Rec := l.filter fun r => decide r.right
/-- Their bytes. -/
def rowB (l : List Rec) : List Int := l.flatMap recL
theorem goods_right {l : List Rec} {r : Rec} (h : r ∈ goods l) : r.right := by
  unfold goods at h
  exact of_decide_eq_true (List.mem_filter.1 h).2
theorem goods_mem {l : List Rec} {r : Rec} (h : r ∈ goods l) : r ∈ l := by
  unfold goods at h
  exact (List.mem_filter.1 h).1
theorem goods_snoc (l : List Rec) (i : Nat) (h : i < l.length) (hr : l[i].right) : goods (l.take (i + 1)) = goods (l.take i) ++ [l[i]] := by
  unfold goods
  rw [List.take_succ_eq_append_getElem h, List.filter_append]
  simp [hr]
theorem goods_skip (l : List Rec) (i : Nat) (h : i < l.length) (hr : ¬ l[i].right) : goods (l.take (i + 1)) = goods (l.take i) := by
  unfold goods
  rw [List.take_succ_eq_append_getElem h, List.filter_append]
  simp [hr]
theorem rowB_put (l : List Rec) (i : Nat) (h : i < l.length) : rowB (goods (l.take i)) ++ putR l[i] = rowB (goods (l.take (i + 1))) := by
  by_cases hr : l[i].right
  · rw [goods_snoc l i h hr, putR_right hr]
    unfold rowB
    rw [List.flatMap_append]
    simp
  · rw [goods_skip l i h hr, putR_wrong hr, List.append_nil]
theorem rowB_length (l : List Rec) (h : ∀ r ∈ l, r.right) : (rowB l).length ≤ 2300 * l.length := by
  induction l with
  | nil => simp [rowB]
  | cons a t ih =>
    have := (recL_length a (h a (List.mem_cons_self ..))).2
    have := ih fun r hr => h r (List.mem_cons_of_mem _ hr)
    unfold rowB at this ⊢
    rw [List.flatMap_cons, List.length_append, List.length_cons]
    omega
theorem rowB_range (l : List Rec) (h : ∀ r ∈ l, r.right) : IsBytes (rowB l) := by
  intro c hc
  unfold rowB at hc
  obtain ⟨r, hr, hc⟩ := List.mem_flatMap.1 hc
  exact recL_range r (h r hr) c hc
theorem rowB_snoc (l : List Rec) (k : Nat) (h : k < l.length) : rowB (l.take (k + 1)) = rowB (l.take k) ++ recL l[k] := by
  unfold rowB
  rw [List.take_succ_eq_append_getElem h, List.flatMap_append]
  simp
theorem rowB_split (l : List Rec) (k : Nat) (h : k < l.length) : rowB l = rowB (l.take k) ++ (recL l[k] ++ rowB (l.drop (k + 1))) := by
  have h1 : l = l.take k ++ (l[k] :: l.drop (k + 1)) := by rw [← List.drop_eq_getElem_cons h, List.take_append_drop]
  have h2 : rowB l = rowB (l.take k ++ (l[k] :: l.drop (k + 1))) := congrArg rowB h1
  rw [h2]
  unfold rowB
  rw [List.flatMap_append, List.flatMap_cons]
theorem rowB_drop (l : List Rec) (k : Nat) (h : k < l.length) : (rowB l).drop (rowB (l.take k)).length = recL l[k] ++ rowB (l.drop (k + 1)) := by
  conv => lhs; rw [rowB_split l k h]
  rw [List.drop_left]
theorem goods_length (l : List Rec) : (goods l).length ≤ l.length := List.length_filter_le _ _
/-- Texts that differ, as the program sees it. -/
theorem text_ne {a b : ByteArray} (h : ¬ a = b) : (a.toList == b.toList) = false := by
  refine beq_eq_false_iff_ne.2 fun hh => h ?_
  rw [ByteArray.toList_eq, ByteArray.toList_eq] at hh
  exact bytes_eq hh
end Go.Proofs.Ytdhahjkldmbneaa
