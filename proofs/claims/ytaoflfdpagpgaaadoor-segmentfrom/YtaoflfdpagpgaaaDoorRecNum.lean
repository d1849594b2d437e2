/- Plain mathematics of records: how one is written, how it is read, that it comes back, that a front of it is short, that no other bytes are it. No program is spoken of here. -/
import Derived.Test.YtaoflfdpagpgaaaDoorNum
import Derived.Test.YtaoflfdpagpgaaaDoorFoldNum
import Derived.Test.YtaoflfdpagpgaaaDoorBase
namespace Go.Proofs.YtaoflfdpagpgaaaDoor

/-! ### Texts as lists of numbers -/
def ints (s : ByteArray) : List Int := s.data.toList.map fun b => (b.toNat : Int)
theorem ints_length (s : ByteArray) : (ints s).length = s.size := by
  unfold ints
  rw [List.length_map]
  rfl
theorem ints_range (s : ByteArray) : ∀ c ∈ ints s, 0 ≤ c ∧ c ≤ 255 := by
  intro c hc
  unfold ints at hc
  obtain ⟨b, _, rfl⟩ := List.mem_map.1 hc
  have := b.toNat_lt
  omega
theorem textOf_data (xs : List Int) : (textOf xs).data.toList = xs.map fun n => UInt8.ofNat n.toNat := by
  have h : ∀ (xs : List Int) (r : ByteArray), (xs.foldl (fun r n => r.push (UInt8.ofNat n.toNat)) r).data.toList = r.data.toList ++ xs.map fun n => UInt8.ofNat n.toNat := by
    intro xs
    induction xs with
    | nil => intro r; simp
    | cons a t ih =>
      intro r
      rw [List.foldl_cons, ih]
      simp [ByteArray.push]
  rw [textOf, h]
  simp
theorem bytes_eq {a b : ByteArray} (h : a.data.toList = b.data.toList) : a = b := by
  cases a; cases b
  simp only [ByteArray.mk.injEq]
  exact Array.toList_inj.1 h
theorem textOf_ints (s : ByteArray) : textOf (ints s) = s := by
  refine bytes_eq ?_
  rw [textOf_data, ints, List.map_map]
  conv => rhs; rw [← List.map_id s.data.toList]
  refine List.map_congr_left fun b _ => ?_
  simp
theorem ints_textOf (xs : List Int) (h : ∀ c ∈ xs, 0 ≤ c ∧ c ≤ 255) : ints (textOf xs) = xs := by
  rw [ints, textOf_data, List.map_map]
  conv => rhs; rw [← List.map_id xs]
  refine List.map_congr_left fun c hc => ?_
  have := h c hc
  simp
  omega
theorem textOf_size (xs : List Int) : (textOf xs).size = xs.length := by
  show (textOf xs).data.size = _
  rw [← Array.length_toList, textOf_data, List.length_map]

/-! ### Records -/
structure Rec where
  off : Int
  time : Int
  key : ByteArray
  val : ByteArray
  dead : Bool
def zeroR : Rec := ⟨0, 0, ⟨#[]⟩, ⟨#[]⟩, false⟩
def Rec.right (r : Rec) : Prop := 0 ≤ r.off ∧ r.off ≤ 1125899906842624 ∧ -1099511627776 ≤ r.time ∧ r.time ≤ 1099511627776 ∧ 1 ≤ r.key.size ∧ r.key.size ≤ 200 ∧ r.val.size ≤ 2000 ∧ (r.dead = true → r.val.size = 0)
instance (r : Rec) : Decidable r.right := by unfold Rec.right; infer_instance
def deadI (d : Bool) : Int := if d then 1 else 0
def bodyL (r : Rec) : List Int := putL r.key.size ++ (ints r.key ++ (putL r.val.size ++ ints r.val))
def recL (r : Rec) : List Int := putL r.off ++ (putL (foldI r.time) ++ (deadI r.dead :: bodyL r))
/-- What Put writes. -/
def putR (r : Rec) : List Int := if r.right then recL r else []

/-- A text behind its length, at most so long, from i on: the text, where it ends, the error. -/
def partR (bs : List Int) (i : Nat) (most : Int) : ByteArray × Int × Int :=
  if (getR (bs.drop i)).2.2 ≠ 0 then (⟨#[]⟩, 0, (getR (bs.drop i)).2.2)
  else if most < (getR (bs.drop i)).1 then (⟨#[]⟩, 0, 2)
  else if (bs.length : Int) - (i + (getR (bs.drop i)).2.1) < (getR (bs.drop i)).1 then (⟨#[]⟩, 0, 4)
  else (textOf ((bs.drop (i + (getR (bs.drop i)).2.1.toNat)).take (getR (bs.drop i)).1.toNat), i + (getR (bs.drop i)).2.1 + (getR (bs.drop i)).1, 0)
def getB (bs : List Int) (off time : Int) (dead : Bool) (i : Nat) : Rec × Int × Int :=
  if (partR bs i 200).2.2 ≠ 0 then (zeroR, 0, (partR bs i 200).2.2)
  else if (partR bs (partR bs i 200).2.1.toNat 2000).2.2 ≠ 0 then (zeroR, 0, (partR bs (partR bs i 200).2.1.toNat 2000).2.2)
  else if (⟨off, time, (partR bs i 200).1, (partR bs (partR bs i 200).2.1.toNat 2000).1, dead⟩ : Rec).right then
    (⟨off, time, (partR bs i 200).1, (partR bs (partR bs i 200).2.1.toNat 2000).1, dead⟩, (partR bs (partR bs i 200).2.1.toNat 2000).2.1, 0)
  else (zeroR, 0, 2)
def getD (bs : List Int) (off time : Int) (i : Nat) : Rec × Int × Int :=
  if bs.length ≤ i then (zeroR, 0, 4)
  else if 1 < bs.getD i 0 then (zeroR, 0, 2)
  else getB bs off time (bs.getD i 0 == 1) (i + 1)
def getT (bs : List Int) (off : Int) (i : Nat) : Rec × Int × Int :=
  if (getR (bs.drop i)).2.2 ≠ 0 then (zeroR, 0, (getR (bs.drop i)).2.2)
  else if unfoldI (getR (bs.drop i)).1 < -1099511627776 ∨ 1099511627776 < unfoldI (getR (bs.drop i)).1 then (zeroR, 0, 2)
  else getD bs off (unfoldI (getR (bs.drop i)).1) (i + (getR (bs.drop i)).2.1.toNat)
/-- The record that bytes begin with, how many bytes it has, the error. -/
def getRec (bs : List Int) : Rec × Int × Int :=
  if (getR bs).2.2 ≠ 0 then (zeroR, 0, (getR bs).2.2)
  else if 1125899906842624 < (getR bs).1 then (zeroR, 0, 2)
  else getT bs (getR bs).1 (getR bs).2.1.toNat

/-! ### What was written is read -/
theorem part_put (pre more : List Int) (s : ByteArray) (most : Int) (h : (s.size : Int) ≤ most) (hm : most ≤ 18446744073709551615) :
    partR (pre ++ (putL s.size ++ (ints s ++ more))) pre.length most = (s, ((pre.length + (putL s.size).length + s.size : Nat) : Int), 0) := by
  have hg : getR ((pre ++ (putL s.size ++ (ints s ++ more))).drop pre.length) = ((s.size : Int), ((putL s.size).length : Int), 0) := by
    rw [List.drop_left]
    exact getR_putL _ _ (by omega) (by omega)
  have hl := ints_length s
  have hd : (pre ++ (putL s.size ++ (ints s ++ more))).drop (pre.length + (putL s.size).length) = ints s ++ more := by
    rw [← List.append_assoc, ← List.length_append, List.drop_left]
  unfold partR
  rw [hg]
  simp only [Int.toNat_natCast]
  rw [if_neg (by omega), if_neg (by omega), if_neg (by simp only [List.length_append]; omega), hd, ← hl, List.take_left, textOf_ints]
  simp only [Prod.mk.injEq, true_and, and_true]
  omega
theorem getRec_put (r : Rec) (more : List Int) (h : r.right) : getRec (recL r ++ more) = (r, ((recL r).length : Int), 0) := by
  obtain ⟨off, time, key, val, dead⟩ := r
  have hr := h
  obtain ⟨h1, h2, h3, h4, h5, h6, h7, h8⟩ := h
  simp only at h1 h2 h3 h4 h5 h6 h7 h8
  have hfr := fold_range time (by omega) (by omega)
  have hlen : (recL ⟨off, time, key, val, dead⟩).length = (putL off).length + ((putL (foldI time)).length + (1 + ((putL key.size).length + (key.size + ((putL val.size).length + val.size))))) := by
    simp only [recL, bodyL, List.length_append, List.length_cons, ints_length]
    omega
  have e0 : recL ⟨off, time, key, val, dead⟩ ++ more = putL off ++ (putL (foldI time) ++ (deadI dead :: (putL key.size ++ (ints key ++ (putL val.size ++ (ints val ++ more)))))) := by
    simp [recL, bodyL]
  have g1 := getR_putL off (putL (foldI time) ++ (deadI dead :: (putL key.size ++ (ints key ++ (putL val.size ++ (ints val ++ more)))))) h1 (by omega)
  have g2 := getR_putL (foldI time) (deadI dead :: (putL key.size ++ (ints key ++ (putL val.size ++ (ints val ++ more))))) hfr.1 hfr.2
  rw [hlen, e0]
  unfold getRec
  rw [g1]
  simp only [Int.toNat_natCast]
  rw [if_neg (by omega), if_neg (by omega)]
  unfold getT
  rw [List.drop_left, g2]
  simp only [Int.toNat_natCast]
  rw [unfold_fold, if_neg (by omega), if_neg (by omega)]
  have e1 : putL off ++ (putL (foldI time) ++ (deadI dead :: (putL key.size ++ (ints key ++ (putL val.size ++ (ints val ++ more)))))) = (putL off ++ putL (foldI time)) ++ (deadI dead :: (putL key.size ++ (ints key ++ (putL val.size ++ (ints val ++ more))))) := by
    simp
  have hd : (putL off ++ (putL (foldI time) ++ (deadI dead :: (putL key.size ++ (ints key ++ (putL val.size ++ (ints val ++ more))))))).getD ((putL off).length + (putL (foldI time)).length) 0 = deadI dead := by
    rw [e1, ← List.length_append]
    simp [List.getD]
  unfold getD
  rw [hd, if_neg (by simp only [List.length_append, List.length_cons]; omega), if_neg (by unfold deadI; split <;> omega)]
  have hdd : (deadI dead == 1) = dead := by cases dead <;> rfl
  rw [hdd]
  have e2 : putL off ++ (putL (foldI time) ++ (deadI dead :: (putL key.size ++ (ints key ++ (putL val.size ++ (ints val ++ more)))))) = (putL off ++ (putL (foldI time) ++ [deadI dead])) ++ (putL key.size ++ (ints key ++ (putL val.size ++ (ints val ++ more)))) := by
    simp
  have p1 := part_put (putL off ++ (putL (foldI time) ++ [deadI dead])) (putL val.size ++ (ints val ++ more)) key 200 (by omega) (by omega)
  have e3 : putL off ++ (putL (foldI time) ++ (deadI dead :: (putL key.size ++ (ints key ++ (putL val.size ++ (ints val ++ more)))))) = (putL off ++ (putL (foldI time) ++ (deadI dead :: (putL key.size ++ ints key)))) ++ (putL val.size ++ (ints val ++ more)) := by
    simp
  have p2 := part_put (putL off ++ (putL (foldI time) ++ (deadI dead :: (putL key.size ++ ints key)))) more val 2000 (by omega) (by omega)
  rw [← e2] at p1
  rw [← e3] at p2
  have l1 : (putL off ++ (putL (foldI time) ++ [deadI dead])).length = (putL off).length + (putL (foldI time)).length + 1 := by
    simp only [List.length_append, List.length_cons, List.length_nil]; omega
  have l2 : (putL off ++ (putL (foldI time) ++ (deadI dead :: (putL key.size ++ ints key)))).length = (putL off).length + (putL (foldI time)).length + 1 + (putL key.size).length + key.size := by
    simp only [List.length_append, List.length_cons, ints_length]; omega
  rw [l1] at p1
  rw [l2] at p2
  unfold getB
  rw [p1]
  simp only [Int.toNat_natCast]
  rw [p2]
  simp only
  rw [if_neg (by omega), if_neg (by omega), if_pos hr]
  simp only [Prod.mk.injEq, true_and, and_true]
  omega
end Go.Proofs.YtaoflfdpagpgaaaDoor
