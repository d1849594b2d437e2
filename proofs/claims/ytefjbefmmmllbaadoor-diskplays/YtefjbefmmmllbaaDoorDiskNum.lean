/- Plain mathematics of a disk: files by rising names, some of whose bytes at the end are loose; what each call makes of them. No program is spoken of here. -/
import Derived.Test.YtefjbefmmmllbaaDoorRuneNum
import Derived.Test.YtefjbefmmmllbaaDoorNum
namespace Go.Proofs.YtefjbefmmmllbaaDoor

structure FileM where
  name : ByteArray
  b : List Int
  loose : Nat

/-- Names one ahead of the other, as the language holds texts against each other. -/
def ltS (a b : ByteArray) : Bool := Op.bytesLess a.toList b.toList
def noFile : FileM := ⟨⟨#[]⟩, [], 0⟩
/-- How many files have names below n. -/
def findK (l : List FileM) (n : ByteArray) : Nat := (l.takeWhile fun f => ltS f.name n).length
def hasF (l : List FileM) (n : ByteArray) : Bool := match l[findK l n]? with
  | some f => f.name.toList == n.toList
  | none => false
theorem findK_le (l : List FileM) (n : ByteArray) : findK l n ≤ l.length := by
  unfold findK
  exact List.Sublist.length_le (List.takeWhile_sublist _)
/-- How far the search has come. -/
theorem findK_at (l : List FileM) (n : ByteArray) (k : Nat) (hk : k ≤ l.length) (h1 : ∀ j (h : j < l.length), j < k → ltS l[j].name n = true) (h2 : ∀ h : k < l.length, ltS l[k].name n = false) : findK l n = k := by
  unfold findK
  induction l generalizing k with
  | nil => simp at hk; simp [hk]
  | cons f l ih =>
    cases k with
    | zero =>
      have := h2 (by simp)
      simp only [List.getElem_cons_zero] at this
      simp [this]
    | succ k =>
      have h0 := h1 0 (by simp) (by omega)
      simp only [List.getElem_cons_zero] at h0
      rw [List.takeWhile_cons, if_pos (by exact h0), List.length_cons]
      congr 1
      refine ih k (by simpa using hk) (fun j h hj => ?_) (fun h => ?_)
      · exact h1 (j + 1) (by simpa using h) (by omega)
      · exact h2 (by simpa using h)
theorem hasF_lt {l : List FileM} {n : ByteArray} (h : hasF l n = true) : findK l n < l.length := by
  unfold hasF at h
  rcases Nat.lt_or_ge (findK l n) l.length with h1 | h1
  · exact h1
  · rw [List.getElem?_eq_none h1] at h; cases h
theorem hasF_at (l : List FileM) (n : ByteArray) (h : findK l n < l.length) : hasF l n = (l[findK l n].name.toList == n.toList) := by
  unfold hasF
  rw [List.getElem?_eq_getElem h]
theorem hasF_none (l : List FileM) (n : ByteArray) (h : l.length ≤ findK l n) : hasF l n = false := by
  unfold hasF
  rw [List.getElem?_eq_none h]

/-- Where the files behind n begin. -/
def tailK (l : List FileM) (n : ByteArray) : Nat := if hasF l n then findK l n + 1 else findK l n
theorem tailK_le (l : List FileM) (n : ByteArray) : tailK l n ≤ l.length := by
  unfold tailK
  split
  · rename_i h
    exact hasF_lt h
  · exact findK_le l n
/-- A file put into its place. -/
def layF (l : List FileM) (f : FileM) : List FileM := l.take (findK l f.name) ++ f :: l.drop (tailK l f.name)
def usedM (l : List FileM) : Nat := (l.map fun f => f.b.length).sum
theorem usedM_snoc (l : List FileM) (i : Nat) (h : i < l.length) : usedM (l.take (i + 1)) = usedM (l.take i) + l[i].b.length := by
  unfold usedM
  rw [List.take_succ_eq_append_getElem h, List.map_append, List.sum_append]
  simp
theorem usedM_le (l : List FileM) (i : Nat) : usedM (l.take i) ≤ usedM l := by
  unfold usedM
  conv => rhs; rw [← List.take_append_drop i l, List.map_append, List.sum_append]
  omega
/-- The file of a name, or the error. -/
def getM (l : List FileM) (n : ByteArray) : FileM × Int :=
  if validS n = false then (noFile, 6) else if hasF l n = true then (l[findK l n]?.getD noFile, 0) else (noFile, 8)
theorem getM_bad {l : List FileM} {n : ByteArray} (h : validS n = false) : getM l n = (noFile, 6) := by unfold getM; rw [if_pos h]
theorem getM_none {l : List FileM} {n : ByteArray} (h : validS n = true) (hh : hasF l n = false) : getM l n = (noFile, 8) := by unfold getM; rw [if_neg (by rw [h]; simp), if_neg (by rw [hh]; simp)]
/-- The file of a name, or a new one. -/
def ofName (l : List FileM) (n : ByteArray) : FileM := if hasF l n = true then l[findK l n]?.getD noFile else ⟨n, [], 0⟩

def appendM (room : Int) (l : List FileM) (n : ByteArray) (b : List Int) : List FileM × Int :=
  if validS n = false then (l, 6) else if room - (usedM l : Int) < (b.length : Int) then (l, 7)
  else (layF l ⟨(ofName l n).name, (ofName l n).b ++ b, (ofName l n).loose + b.length⟩, 0)
def syncM (l : List FileM) (n : ByteArray) : List FileM × Int :=
  if (getM l n).2 ≠ 0 then (l, (getM l n).2) else (layF l ⟨(getM l n).1.name, (getM l n).1.b, 0⟩, 0)
def cutM (l : List FileM) (n : ByteArray) (k : Int) : List FileM × Int :=
  if (getM l n).2 ≠ 0 then (l, (getM l n).2) else (layF l ⟨(getM l n).1.name, (getM l n).1.b.take k.toNat, 0⟩, 0)
def removeM (l : List FileM) (n : ByteArray) : List FileM × Int :=
  if (getM l n).2 ≠ 0 then (l, (getM l n).2) else (l.take (findK l n) ++ l.drop (findK l n + 1), 0)
def renameM (l : List FileM) (a b : ByteArray) : List FileM × Int :=
  if validS a = false ∨ validS b = false then (l, 6) else if (getM l a).2 ≠ 0 then (l, (getM l a).2)
  else if a = b then (l, 0) else (layF (removeM l a).1 ⟨b, (getM l a).1.b, (getM l a).1.loose⟩, 0)
/-- What stays of one file. -/
def crashF (f : FileM) (k : Int) : FileM := ⟨f.name, f.b.take (f.b.length - f.loose + (min (max k 0) (f.loose : Int)).toNat), 0⟩
/-- Of files in turn with numbers. -/
def crashM : List FileM → List Int → List FileM
  | [], _ => []
  | f :: l, keep => if f.loose = 0 then f :: crashM l keep else crashF f (keep.headD 0) :: crashM l keep.tail
theorem crashM_length (l : List FileM) (keep : List Int) : (crashM l keep).length = l.length := by
  induction l generalizing keep with
  | nil => rfl
  | cons f l ih => unfold crashM; split <;> simp [ih]

/-- What is right of files in memory. -/
def FileM.wf (f : FileM) : Prop := f.name.size ≤ maxLen ∧ (∀ c ∈ f.b, 0 ≤ c ∧ c ≤ 255) ∧ f.loose ≤ f.b.length
theorem noFile_wf : noFile.wf := ⟨Nat.zero_le _, fun _ h => by simp [noFile] at h, Nat.le_refl _⟩
theorem layF_mem {l : List FileM} {f g : FileM} (h : g ∈ layF l f) : g = f ∨ g ∈ l := by
  unfold layF at h
  rcases List.mem_append.1 h with h1 | h1
  · exact .inr (List.mem_of_mem_take h1)
  · rcases List.mem_cons.1 h1 with rfl | h2
    · exact .inl rfl
    · exact .inr (List.mem_of_mem_drop h2)
theorem layF_length (l : List FileM) (f : FileM) : (layF l f).length ≤ l.length + 1 := by
  unfold layF
  have h1 := findK_le l f.name
  have h2 := tailK_le l f.name
  have h3 : findK l f.name ≤ tailK l f.name := by unfold tailK; split <;> omega
  simp only [List.length_append, List.length_take, List.length_cons, List.length_drop]
  omega
end Go.Proofs.YtefjbefmmmllbaaDoor
