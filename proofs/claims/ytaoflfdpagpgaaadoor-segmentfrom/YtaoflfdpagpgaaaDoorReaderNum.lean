/- Plain mathematics: the program's reader, step by step, comes to what the document says of the record that bytes begin with. No program is spoken of here. -/
import Derived.Test.YtaoflfdpagpgaaaDoorVReader
namespace Go.Proofs.YtaoflfdpagpgaaaDoor

def gsV (off time : Int) (dead : Bool) (key : ByteArray) (L : Nat) (p : List Int × Int) : Rec × Int × Int :=
  if (textS p.1 p.2 2000).2.2 ≠ 0 then (zeroR, 0, (textS p.1 p.2 2000).2.2)
  else if (⟨off, time, key, (textS p.1 p.2 2000).1, dead⟩ : Rec).right then (⟨off, time, key, (textS p.1 p.2 2000).1, dead⟩, (L : Int) - ((textS p.1 p.2 2000).2.1.length : Int), 0)
  else (zeroR, 0, 2)
def gsK (off time : Int) (dead : Bool) (L : Nat) (p : List Int × Int) : Rec × Int × Int := gsV off time dead (textS p.1 p.2 200).1 L (textS p.1 p.2 200).2
def gsF (off time : Int) (L : Nat) (p : List Int × Int) : Rec × Int × Int := gsK off time (flagS p.1 p.2).1 L (flagS p.1 p.2).2
def gsT (off : Int) (L : Nat) (p : List Int × Int) : Rec × Int × Int := gsF off (unfoldI (numS p.1 p.2 2199023255552).1) L (numS p.1 p.2 2199023255552).2
def getS (xs : List Int) : Rec × Int × Int := gsT (numS xs 0 1125899906842624).1 xs.length (numS xs 0 1125899906842624).2

theorem numS_err (xs : List Int) (e most : Int) (h : e ≠ 0) : numS xs e most = (0, xs, e) := if_pos h
theorem takeS_err (xs : List Int) (e : Int) (n : Nat) (h : e ≠ 0) : takeS xs e n = ([], xs, e) := if_pos h
theorem flagS_err (xs : List Int) (e : Int) (h : e ≠ 0) : flagS xs e = (false, xs, e) := by
  unfold flagS
  rw [takeS_err _ _ _ h]
  simp only
  rw [if_pos h]
theorem textS_err (xs : List Int) (e most : Int) (h : e ≠ 0) : textS xs e most = (textOf [], xs, e) := by
  unfold textS
  rw [numS_err _ _ _ h]
  simp only
  rw [takeS_err _ _ _ h]
theorem gsV_err (off time : Int) (dead : Bool) (key : ByteArray) (L : Nat) (p : List Int × Int) (h : p.2 ≠ 0) : gsV off time dead key L p = (zeroR, 0, p.2) := by
  unfold gsV
  rw [textS_err _ _ _ h]
  simp only
  rw [if_pos h]
theorem gsK_err (off time : Int) (dead : Bool) (L : Nat) (p : List Int × Int) (h : p.2 ≠ 0) : gsK off time dead L p = (zeroR, 0, p.2) := by
  unfold gsK
  rw [textS_err _ _ _ h]
  exact gsV_err _ _ _ _ _ _ h
theorem gsF_err (off time : Int) (L : Nat) (p : List Int × Int) (h : p.2 ≠ 0) : gsF off time L p = (zeroR, 0, p.2) := by
  unfold gsF
  rw [flagS_err _ _ h]
  exact gsK_err _ _ _ _ _ h
theorem gsT_err (off : Int) (L : Nat) (p : List Int × Int) (h : p.2 ≠ 0) : gsT off L p = (zeroR, 0, p.2) := by
  unfold gsT
  rw [numS_err _ _ _ h]
  exact gsF_err _ _ _ _ h

/-- A text behind its length: the reader's way and the document's. -/
theorem textS_part (bs : List Int) (i : Nat) (most : Int) (hby : IsBytes bs) (hi : i ≤ bs.length) :
    ((partR bs i most).2.2 ≠ 0 → (textS (bs.drop i) 0 most).2.2 = (partR bs i most).2.2) ∧
    ((partR bs i most).2.2 = 0 → textS (bs.drop i) 0 most = ((partR bs i most).1, bs.drop (partR bs i most).2.1.toNat, 0) ∧ (partR bs i most).2.1.toNat ≤ bs.length ∧ 0 ≤ (partR bs i most).2.1) := by
  have hbd : IsBytes (bs.drop i) := fun x hx => hby x (List.mem_of_mem_drop hx)
  obtain ⟨x, k, e, hg⟩ : ∃ x k e, getR (bs.drop i) = (x, k, e) := ⟨_, _, _, rfl⟩
  unfold textS partR numS
  rw [hg]
  simp only [ne_eq, not_true_eq_false, if_false]
  by_cases he : e = 0
  · subst he
    obtain ⟨n, m, rfl, rfl, hm, hm2, hn⟩ := getR_nat hbd hg
    rw [List.length_drop] at hm
    simp only [not_true_eq_false, if_false]
    by_cases hbig : most < (n : Int)
    · simp only [hbig, if_true]
      unfold takeS
      simp
    · simp only [hbig, if_false, Int.toNat_natCast]
      by_cases hsh : (bs.length : Int) - ((i : Int) + (m : Int)) < (n : Int)
      · have ht : takeS ((bs.drop i).drop m) 0 n = ([], (bs.drop i).drop m, 4) := by
          unfold takeS
          rw [if_neg (by omega), if_pos (by simp only [List.length_drop]; omega)]
        simp only [hsh, if_true, ht]
        simp
      · have ht : takeS ((bs.drop i).drop m) 0 n = (((bs.drop i).drop m).take n, ((bs.drop i).drop m).drop n, 0) := by
          unfold takeS
          rw [if_neg (by omega), if_neg (by simp only [List.length_drop]; omega)]
        simp only [hsh, if_false, ht]
        have e1 : ((i : Int) + (m : Int) + (n : Int)).toNat = i + m + n := by omega
        refine ⟨fun h => (h trivial).elim, fun _ => ⟨?_, by rw [e1]; omega, by omega⟩⟩
        rw [e1, List.drop_drop, List.drop_drop]
  · have ht : takeS (bs.drop i) e 0 = ([], bs.drop i, e) := takeS_err _ _ _ he
    simp only [he, not_false_eq_true, if_true, Int.toNat_zero, ht]
    simp [he]

theorem gsK_eq (bs : List Int) (off time : Int) (dead : Bool) (i : Nat) (hby : IsBytes bs) (hi : i ≤ bs.length) : gsK off time dead bs.length (bs.drop i, 0) = getB bs off time dead i := by
  obtain ⟨k1, k2⟩ := textS_part bs i 200 hby hi
  unfold gsK getB
  simp only
  by_cases he : (partR bs i 200).2.2 = 0
  · obtain ⟨k3, k4, k5⟩ := k2 he
    rw [k3]
    simp only
    rw [if_neg (by rw [he]; simp)]
    obtain ⟨v1, v2⟩ := textS_part bs (partR bs i 200).2.1.toNat 2000 hby k4
    unfold gsV
    simp only
    by_cases hv : (partR bs (partR bs i 200).2.1.toNat 2000).2.2 = 0
    · obtain ⟨v3, v4, v5⟩ := v2 hv
      rw [v3]
      simp only [ne_eq, not_true_eq_false, if_false, hv]
      have e1 : (bs.length : Int) - ((bs.drop (partR bs (partR bs i 200).2.1.toNat 2000).2.1.toNat).length : Int) = (partR bs (partR bs i 200).2.1.toNat 2000).2.1 := by
        rw [List.length_drop]; omega
      rw [e1]
    · rw [if_pos (by rw [v1 hv]; exact hv), if_pos hv, v1 hv]
  · rw [if_pos he, gsV_err _ _ _ _ _ _ (by rw [k1 he]; exact he), k1 he]

theorem gsF_eq (bs : List Int) (off time : Int) (i : Nat) (hby : IsBytes bs) (hi : i ≤ bs.length) : gsF off time bs.length (bs.drop i, 0) = getD bs off time i := by
  unfold gsF getD flagS
  simp only
  by_cases hl : bs.length ≤ i
  · have ht : takeS (bs.drop i) 0 1 = ([], bs.drop i, 4) := by
      unfold takeS
      rw [if_neg (by omega), if_pos (by simp only [List.length_drop]; omega)]
    rw [ht, if_pos hl]
    simp only
    rw [if_pos (by decide)]
    exact gsK_err _ _ _ _ _ (by simp)
  · have hlt : i < bs.length := by omega
    have hd : bs.drop i = bs[i] :: bs.drop (i + 1) := List.drop_eq_getElem_cons hlt
    have ht : takeS (bs.drop i) 0 1 = ([bs[i]], bs.drop (i + 1), 0) := by
      unfold takeS
      rw [if_neg (by omega), if_neg (by simp only [List.length_drop]; omega), hd]
      rfl
    have hq : bs.getD i 0 = bs[i] := by simp [List.getD, hlt]
    rw [ht, if_neg hl, hq]
    simp only [ne_eq, not_true_eq_false, if_false, List.getD_cons_zero]
    by_cases h1 : 1 < bs[i]
    · rw [if_pos h1, if_pos h1]
      exact gsK_err _ _ _ _ _ (by simp)
    · rw [if_neg h1, if_neg h1]
      exact gsK_eq bs off time _ (i + 1) hby hlt

theorem unfold_bound (n : Nat) : (unfoldI n < -1099511627776 ∨ 1099511627776 < unfoldI n) ↔ (2199023255552 : Int) < n := by
  unfold unfoldI
  split <;> omega

theorem gsT_eq (bs : List Int) (off : Int) (i : Nat) (hby : IsBytes bs) (hi : i ≤ bs.length) : gsT off bs.length (bs.drop i, 0) = getT bs off i := by
  have hbd : IsBytes (bs.drop i) := fun x hx => hby x (List.mem_of_mem_drop hx)
  obtain ⟨x, k, e, hg⟩ : ∃ x k e, getR (bs.drop i) = (x, k, e) := ⟨_, _, _, rfl⟩
  unfold gsT getT numS
  rw [hg]
  simp only [ne_eq, not_true_eq_false, if_false]
  by_cases he : e = 0
  · subst he
    obtain ⟨n, m, rfl, rfl, hm, hm2, hn⟩ := getR_nat hbd hg
    rw [List.length_drop] at hm
    simp only [not_true_eq_false, if_false, Int.toNat_natCast]
    have hu := unfold_bound n
    by_cases hbig : (2199023255552 : Int) < (n : Int)
    · rw [if_pos hbig, if_pos (hu.2 hbig)]
      exact gsF_err _ _ _ _ (by simp)
    · rw [if_neg hbig, if_neg (fun h => hbig (hu.1 h))]
      simp only
      rw [List.drop_drop]
      exact gsF_eq bs off _ (i + m) hby (by omega)
  · simp only [he, not_false_eq_true, if_true]
    exact gsF_err _ _ _ _ he

theorem getS_eq (bs : List Int) (hby : IsBytes bs) : getS bs = getRec bs := by
  obtain ⟨x, k, e, hg⟩ : ∃ x k e, getR bs = (x, k, e) := ⟨_, _, _, rfl⟩
  unfold getS getRec numS
  rw [hg]
  simp only [ne_eq, not_true_eq_false, if_false]
  by_cases he : e = 0
  · subst he
    obtain ⟨n, m, rfl, rfl, hm, hm2, hn⟩ := getR_nat hby hg
    simp only [not_true_eq_false, if_false, Int.toNat_natCast]
    by_cases hbig : (1125899906842624 : Int) < (n : Int)
    · rw [if_pos hbig, if_pos hbig]
      exact gsT_err _ _ _ (by simp)
    · rw [if_neg hbig, if_neg hbig]
      exact gsT_eq bs n m hby hm
  · simp only [he, not_false_eq_true, if_true]
    exact gsT_err _ _ _ he
end Go.Proofs.YtaoflfdpagpgaaaDoor
