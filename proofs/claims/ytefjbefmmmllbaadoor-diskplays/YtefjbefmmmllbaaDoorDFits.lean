/- Plain mathematics: how many files a call makes of a disk's, and how many bytes. No program is spoken of here. -/
import Derived.Test.YtefjbefmmmllbaaDoorDiskMap
namespace Go.Proofs.YtefjbefmmmllbaaDoor

theorem usedM_app (a b : List FileM) : usedM (a ++ b) = usedM a + usedM b := by unfold usedM; rw [List.map_append, List.sum_append]
theorem usedM_one (f : FileM) (l : List FileM) : usedM (f :: l) = f.b.length + usedM l := by simp [usedM]
theorem used_at (l : List FileM) (k : Nat) (h : k < l.length) : usedM l = usedM (l.take k) + l[k].b.length + usedM (l.drop (k + 1)) := by
  conv => lhs; rw [← List.take_append_drop k l, List.drop_eq_getElem_cons h, usedM_app, usedM_one]
  omega
theorem ofName_at {l : List FileM} {n : ByteArray} (h : hasF l n = true) : ofName l n = l[findK l n]'(hasF_lt h) := by
  unfold ofName
  rw [if_pos h, List.getElem?_eq_getElem (hasF_lt h)]
  rfl
theorem ofName_none' {l : List FileM} {n : ByteArray} (h : hasF l n = false) : ofName l n = ⟨n, [], 0⟩ := by unfold ofName; rw [if_neg (by rw [h]; simp)]
theorem ofName_name (l : List FileM) (n : ByteArray) : (ofName l n).name = n := by
  cases h : hasF l n with
  | true => rw [ofName_at h]; exact hasF_name h
  | false => rw [ofName_none' h]
theorem used_lay0 (l : List FileM) (f : FileM) : usedM (layF l f) + (ofName l f.name).b.length = usedM l + f.b.length := by
  unfold layF tailK
  rw [usedM_app, usedM_one]
  cases h : hasF l f.name with
  | true =>
    rw [ofName_at h, if_pos rfl]
    have := used_at l _ (hasF_lt h)
    omega
  | false =>
    rw [ofName_none' h, if_neg (by simp)]
    have := usedM_app (l.take (findK l f.name)) (l.drop (findK l f.name))
    rw [List.take_append_drop] at this
    simp only [List.length_nil]
    omega
theorem getM_ok {l : List FileM} {n : ByteArray} (h : (getM l n).2 = 0) : validS n = true ∧ ∃ hh : hasF l n = true, (getM l n).1 = l[findK l n]'(hasF_lt hh) ∧ (getM l n).1 = ofName l n := by
  by_cases hv : validS n = true
  · by_cases hh : hasF l n = true
    · have e : getM l n = (l[findK l n]'(hasF_lt hh), 0) := by
        unfold getM
        rw [if_neg (by rw [hv]; simp), if_pos hh, List.getElem?_eq_getElem (hasF_lt hh)]
        rfl
      exact ⟨hv, hh, by rw [e], by rw [e, ofName_at hh]⟩
    · rw [getM_none hv (by simpa using hh)] at h; cases h
  · rw [getM_bad (by simpa using hv)] at h; cases h
/-- At most one file more, and m bytes. -/
def Few (l l' : List FileM) (m : Nat) : Prop := l'.length ≤ l.length + 1 ∧ usedM l' ≤ usedM l + m
theorem Few.same (l : List FileM) (m : Nat) : Few l l m := ⟨Nat.le_succ _, Nat.le_add_right _ _⟩
theorem append_few (room : Int) (l : List FileM) (n : ByteArray) (b : List Int) : Few l (appendM room l n b).1 b.length := by
  unfold appendM
  split
  · exact Few.same _ _
  · split
    · exact Few.same _ _
    · refine ⟨layF_length _ _, ?_⟩
      have h := used_lay0 l ⟨(ofName l n).name, (ofName l n).b ++ b, (ofName l n).loose + b.length⟩
      dsimp only at h ⊢
      rw [ofName_name, List.length_append] at h
      rw [ofName_name]
      omega
theorem sync_few (l : List FileM) (n : ByteArray) : Few l (syncM l n).1 0 := by
  unfold syncM
  split
  · exact Few.same _ _
  · rename_i h
    obtain ⟨_, _, _, e⟩ := getM_ok (Decidable.not_not.1 h)
    rw [e]
    refine ⟨layF_length _ _, ?_⟩
    have h := used_lay0 l ⟨(ofName l n).name, (ofName l n).b, 0⟩
    dsimp only at h ⊢
    rw [ofName_name] at h ⊢
    omega
theorem cut_few (l : List FileM) (n : ByteArray) (k : Int) : Few l (cutM l n k).1 0 := by
  unfold cutM
  split
  · exact Few.same _ _
  · rename_i h
    obtain ⟨_, _, _, e⟩ := getM_ok (Decidable.not_not.1 h)
    rw [e]
    refine ⟨layF_length _ _, ?_⟩
    have h := used_lay0 l ⟨(ofName l n).name, (ofName l n).b.take k.toNat, 0⟩
    dsimp only at h ⊢
    rw [ofName_name, List.length_take] at h
    rw [ofName_name]
    omega
theorem remove_used {l : List FileM} {n : ByteArray} (h : (getM l n).2 = 0) : usedM (removeM l n).1 + (getM l n).1.b.length = usedM l ∧ (removeM l n).1.length ≤ l.length := by
  obtain ⟨_, hh, e, _⟩ := getM_ok h
  unfold removeM
  rw [if_neg (by rw [h]; simp), e]
  refine ⟨?_, ?_⟩
  · rw [usedM_app]
    have := used_at l _ (hasF_lt hh)
    omega
  · simp only [List.length_append, List.length_take, List.length_drop]
    omega
theorem remove_few (l : List FileM) (n : ByteArray) : Few l (removeM l n).1 0 := by
  by_cases h : (getM l n).2 = 0
  · have := remove_used h
    exact ⟨by omega, by omega⟩
  · unfold removeM
    rw [if_pos h]
    exact Few.same _ _
theorem rename_few (l : List FileM) (a b : ByteArray) : Few l (renameM l a b).1 0 := by
  unfold renameM
  split
  · exact Few.same _ _
  · split
    · exact Few.same _ _
    · split
      · exact Few.same _ _
      · rename_i h _
        obtain ⟨h1, h2⟩ := remove_used (Decidable.not_not.1 h)
        have h3 := layF_length (removeM l a).1 ⟨b, (getM l a).1.b, (getM l a).1.loose⟩
        have h4 := used_lay0 (removeM l a).1 ⟨b, (getM l a).1.b, (getM l a).1.loose⟩
        dsimp only at h4
        exact ⟨by dsimp only; omega, by dsimp only; omega⟩
theorem crash_used (l : List FileM) (keep : List Int) : usedM (crashM l keep) ≤ usedM l := by
  induction l generalizing keep with
  | nil => exact Nat.le_refl _
  | cons f l ih =>
    unfold crashM
    split
    · rw [usedM_one, usedM_one]
      have := ih keep
      omega
    · rw [usedM_one, usedM_one]
      have := ih keep.tail
      have h : (crashF f (keep.headD 0)).b.length ≤ f.b.length := by unfold crashF; rw [List.length_take]; omega
      omega
theorem crash_few (l : List FileM) (keep : List Int) : Few l (crashM l keep) 0 := ⟨by rw [crashM_length]; omega, crash_used l keep⟩
end Go.Proofs.YtefjbefmmmllbaaDoor
