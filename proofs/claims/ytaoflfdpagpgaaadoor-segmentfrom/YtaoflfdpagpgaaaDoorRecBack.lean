/- More mathematics of records: a front of one is short; bytes that are read as one are its own. No program is spoken of here. -/
import Derived.Test.YtaoflfdpagpgaaaDoorRecNum
import Derived.Test.YtaoflfdpagpgaaaDoorNumBack
namespace Go.Proofs.YtaoflfdpagpgaaaDoor

theorem take_front {a b : List Int} {n : Nat} (h : n ≤ a.length) : (a ++ b).take n = a.take n := by
  rw [List.take_append, show n - a.length = 0 by omega]
  simp
theorem take_past {a b : List Int} {n : Nat} (h : a.length ≤ n) : (a ++ b).take n = a ++ b.take (n - a.length) := by
  rw [List.take_append, List.take_of_length_le h]

theorem part_short (pre more : List Int) (s : ByteArray) (most : Int) (n : Nat) (h : (s.size : Int) ≤ most) (hm : most ≤ 18446744073709551615) (hn : n < (putL s.size).length + s.size) :
    partR (pre ++ (putL s.size ++ (ints s ++ more)).take n) pre.length most = (⟨#[]⟩, 0, 4) := by
  have hl := ints_length s
  unfold partR
  rw [List.drop_left]
  by_cases h1 : n < (putL s.size).length
  · rw [take_front (by omega), getR_front _ n (by omega) h1]
    simp
  · rw [take_past (by omega), getR_putL _ _ (by omega) (by omega)]
    simp only
    rw [if_neg (by omega), if_neg (by omega), if_pos]
    simp only [List.length_append, List.length_take]
    omega

theorem getRec_short (r : Rec) (n : Nat) (h : r.right) (hn : n < (recL r).length) : getRec ((recL r).take n) = (zeroR, 0, 4) := by
  obtain ⟨off, time, key, val, dead⟩ := r
  have hr := h
  obtain ⟨h1, h2, h3, h4, h5, h6, h7, h8⟩ := h
  simp only at h1 h2 h3 h4 h5 h6 h7 h8
  have hfr := fold_range time (by omega) (by omega)
  have hlen : (recL ⟨off, time, key, val, dead⟩).length = (putL off).length + ((putL (foldI time)).length + (1 + ((putL key.size).length + (key.size + ((putL val.size).length + val.size))))) := by
    simp only [recL, bodyL, List.length_append, List.length_cons, ints_length]
    omega
  rw [hlen] at hn
  rw [show recL ⟨off, time, key, val, dead⟩ = putL off ++ (putL (foldI time) ++ (deadI dead :: bodyL ⟨off, time, key, val, dead⟩)) from rfl]
  unfold getRec
  by_cases c1 : n < (putL off).length
  · rw [take_front (by omega), getR_front _ _ h1 c1]
    simp
  rw [take_past (by omega), getR_putL _ _ h1 (by omega)]
  simp only [Int.toNat_natCast]
  rw [if_neg (by omega), if_neg (by omega)]
  unfold getT
  rw [List.drop_left]
  obtain ⟨n1, hn1⟩ : ∃ n1, n - (putL off).length = n1 := ⟨_, rfl⟩
  rw [hn1]
  by_cases c2 : n1 < (putL (foldI time)).length
  · rw [take_front (by omega), getR_front _ _ hfr.1 c2]
    simp
  rw [take_past (by omega), getR_putL _ _ hfr.1 hfr.2]
  simp only [Int.toNat_natCast]
  rw [unfold_fold, if_neg (by omega), if_neg (by omega)]
  obtain ⟨n2, hn2⟩ : ∃ n2, n1 - (putL (foldI time)).length = n2 := ⟨_, rfl⟩
  rw [hn2]
  unfold getD
  cases n2 with
  | zero => rw [if_pos (by simp)]
  | succ n3 =>
    rw [List.take_succ_cons, if_neg (by simp only [List.length_append, List.length_cons]; omega)]
    have e1 : putL off ++ (putL (foldI time) ++ (deadI dead :: (bodyL ⟨off, time, key, val, dead⟩).take n3)) = (putL off ++ putL (foldI time)) ++ (deadI dead :: (bodyL ⟨off, time, key, val, dead⟩).take n3) := by simp
    have hd : (putL off ++ (putL (foldI time) ++ (deadI dead :: (bodyL ⟨off, time, key, val, dead⟩).take n3))).getD ((putL off).length + (putL (foldI time)).length) 0 = deadI dead := by
      rw [e1, ← List.length_append]
      simp [List.getD]
    rw [hd, if_neg (by unfold deadI; split <;> omega)]
    have e2 : putL off ++ (putL (foldI time) ++ (deadI dead :: (bodyL ⟨off, time, key, val, dead⟩).take n3)) = (putL off ++ (putL (foldI time) ++ [deadI dead])) ++ (bodyL ⟨off, time, key, val, dead⟩).take n3 := by simp
    have l1 : (putL off ++ (putL (foldI time) ++ [deadI dead])).length = (putL off).length + (putL (foldI time)).length + 1 := by
      simp only [List.length_append, List.length_cons, List.length_nil]; omega
    rw [e2, ← l1, show bodyL ⟨off, time, key, val, dead⟩ = putL key.size ++ (ints key ++ (putL val.size ++ ints val)) from rfl]
    unfold getB
    by_cases c3 : n3 < (putL key.size).length + key.size
    · rw [part_short _ _ key 200 n3 (by omega) (by omega) c3]
      simp
    · have e3 : (putL (key.size : Int) ++ (ints key ++ (putL val.size ++ ints val))).take n3 = putL key.size ++ (ints key ++ (putL val.size ++ ints val).take (n3 - ((putL key.size).length + key.size))) := by
        rw [← List.append_assoc, take_past (by simp only [List.length_append, ints_length]; omega)]
        simp only [List.length_append, ints_length, List.append_assoc]
      rw [e3, part_put _ _ key 200 (by omega) (by omega)]
      simp only [Int.toNat_natCast]
      rw [if_neg (by omega)]
      have e4 : putL off ++ (putL (foldI time) ++ [deadI dead]) ++ (putL (key.size : Int) ++ (ints key ++ (putL val.size ++ ints val).take (n3 - ((putL key.size).length + key.size)))) = (putL off ++ (putL (foldI time) ++ (deadI dead :: (putL key.size ++ ints key)))) ++ (putL val.size ++ (ints val ++ [])).take (n3 - ((putL key.size).length + key.size)) := by
        simp
      have l2 : (putL off ++ (putL (foldI time) ++ [deadI dead])).length + (putL (key.size : Int)).length + key.size = (putL off ++ (putL (foldI time) ++ (deadI dead :: (putL key.size ++ ints key)))).length := by
        simp only [List.length_append, List.length_cons, List.length_nil, ints_length]; omega
      rw [e4, l2, part_short _ _ val 2000 _ (by omega) (by omega) (by omega)]
      simp

/-! ### Bytes that are read are those that are written -/
theorem part_back {bs : List Int} {i : Nat} {most : Int} {s : ByteArray} {j : Int} (hb : ∀ c ∈ bs, 0 ≤ c ∧ c ≤ 255) (hi : i ≤ bs.length) (h : partR bs i most = (s, j, 0)) :
    j = ((i + (putL s.size).length + s.size : Nat) : Int) ∧ ∃ rest, bs.drop i = putL s.size ++ (ints s ++ rest) := by
  unfold partR at h
  have hb2 : ∀ c ∈ bs.drop i, 0 ≤ c ∧ c ≤ 255 := fun c hc => hb c (List.mem_of_mem_drop hc)
  obtain ⟨x, k, e, hg⟩ : ∃ x k e, getR (bs.drop i) = (x, k, e) := ⟨_, _, _, rfl⟩
  rw [hg] at h
  simp only at h
  by_cases he : e ≠ 0
  · rw [if_pos he] at h
    simp only [Prod.mk.injEq] at h
    exact absurd h.2.2 he
  rw [if_neg he] at h
  obtain rfl : e = 0 := by omega
  obtain ⟨hx0, hx1, hk, rest, hd⟩ := getR_back hb2 hg
  by_cases h1 : most < x
  · rw [if_pos h1] at h; simp at h
  rw [if_neg h1] at h
  by_cases h2 : (bs.length : Int) - (i + k) < x
  · rw [if_pos h2] at h; simp at h
  rw [if_neg h2] at h
  simp only [Prod.mk.injEq, and_true] at h
  have hkn : k.toNat = (putL x).length := by omega
  have hrest : bs.drop (i + k.toNat) = rest := by
    rw [← List.drop_drop, hd, hkn, List.drop_left]
  have hlen : rest.length = bs.length - i - (putL x).length := by
    have := congrArg List.length hd
    rw [List.length_drop, List.length_append] at this
    omega
  have hbr : ∀ c ∈ rest.take x.toNat, 0 ≤ c ∧ c ≤ 255 := fun c hc => hb2 c (by rw [hd]; exact List.mem_append_right _ (List.mem_of_mem_take hc))
  rw [hrest] at h
  have hs : (s.size : Int) = x := by
    rw [← h.1, textOf_size, List.length_take]
    omega
  refine ⟨by rw [← h.2, hk, hs]; omega, rest.drop x.toNat, ?_⟩
  rw [hd, ← h.1, ints_textOf _ hbr, textOf_size, List.length_take, List.take_append_drop]
  congr 2
  omega
theorem getRec_back {bs : List Int} {r : Rec} {n : Int} (hb : ∀ c ∈ bs, 0 ≤ c ∧ c ≤ 255) (h : getRec bs = (r, n, 0)) :
    r.right ∧ n = (recL r).length ∧ ∃ rest, bs = recL r ++ rest := by
  unfold getRec at h
  obtain ⟨x, k, e, hg⟩ : ∃ x k e, getR bs = (x, k, e) := ⟨_, _, _, rfl⟩
  rw [hg] at h
  simp only at h
  by_cases he : e ≠ 0
  · rw [if_pos he] at h
    simp only [Prod.mk.injEq] at h
    exact absurd h.2.2 he
  rw [if_neg he] at h
  obtain rfl : e = 0 := by omega
  obtain ⟨hx0, hx1, hk, rest, hd⟩ := getR_back hb hg
  by_cases h1 : 1125899906842624 < x
  · rw [if_pos h1] at h; simp at h
  rw [if_neg h1] at h
  have hkn : k.toNat = (putL x).length := by omega
  unfold getT at h
  rw [hkn] at h
  have hdr : bs.drop (putL x).length = rest := by rw [hd, List.drop_left]
  rw [hdr] at h
  have hbr : ∀ c ∈ rest, 0 ≤ c ∧ c ≤ 255 := fun c hc => hb c (by rw [hd]; exact List.mem_append_right _ hc)
  obtain ⟨t, k2, e2, hg2⟩ : ∃ x k e, getR rest = (x, k, e) := ⟨_, _, _, rfl⟩
  rw [hg2] at h
  simp only at h
  by_cases he2 : e2 ≠ 0
  · rw [if_pos he2] at h
    simp only [Prod.mk.injEq] at h
    exact absurd h.2.2 he2
  rw [if_neg he2] at h
  obtain rfl : e2 = 0 := by omega
  obtain ⟨ht0, ht1, hk2, rest2, hd2⟩ := getR_back hbr hg2
  by_cases h2 : unfoldI t < -1099511627776 ∨ 1099511627776 < unfoldI t
  · rw [if_pos h2] at h; simp at h
  rw [if_neg h2] at h
  have hkn2 : k2.toNat = (putL t).length := by omega
  rw [hkn2] at h
  have hbs : bs = putL x ++ (putL t ++ rest2) := by rw [hd, hd2]
  unfold getD at h
  by_cases h3 : bs.length ≤ (putL x).length + (putL t).length
  · rw [if_pos h3] at h; simp at h
  rw [if_neg h3] at h
  have hl2 : 0 < rest2.length := by
    have := congrArg List.length hbs
    rw [List.length_append, List.length_append] at this
    omega
  obtain ⟨d, rest3, rfl⟩ : ∃ d rest3, rest2 = d :: rest3 := by
    cases rest2 with
    | nil => simp at hl2
    | cons a l => exact ⟨a, l, rfl⟩
  have hdv : bs.getD ((putL x).length + (putL t).length) 0 = d := by
    rw [hbs, ← List.append_assoc, ← List.length_append]
    simp [List.getD]
  have hdb := hb d (by rw [hbs]; simp)
  rw [hdv] at h
  by_cases h4 : 1 < d
  · rw [if_pos h4] at h; simp at h
  rw [if_neg h4] at h
  have hdd : deadI (d == 1) = d := by
    obtain rfl | rfl : d = 0 ∨ d = 1 := by omega
    · rfl
    · rfl
  have hdr3 : bs.drop ((putL x).length + (putL t).length + 1) = rest3 := by
    rw [hbs, ← List.append_assoc, ← List.length_append, ← List.drop_drop, List.drop_left]
    rfl
  unfold getB at h
  obtain ⟨key, j, e3, hp⟩ : ∃ a b c, partR bs ((putL x).length + (putL t).length + 1) 200 = (a, b, c) := ⟨_, _, _, rfl⟩
  rw [hp] at h
  simp only at h
  by_cases he3 : e3 ≠ 0
  · rw [if_pos he3] at h
    simp only [Prod.mk.injEq] at h
    exact absurd h.2.2 he3
  rw [if_neg he3] at h
  obtain rfl : e3 = 0 := by omega
  obtain ⟨hj, rest4, hk4⟩ := part_back hb (by omega) hp
  rw [hdr3] at hk4
  have hjn : j.toNat = (putL x).length + (putL t).length + 1 + (putL key.size).length + key.size := by omega
  rw [hjn] at h
  have hbs2 : bs = (putL x ++ (putL t ++ (d :: (putL key.size ++ ints key)))) ++ rest4 := by
    rw [hbs, hk4]; simp
  have hlen2 : (putL x ++ (putL t ++ (d :: (putL key.size ++ ints key)))).length = (putL x).length + (putL t).length + 1 + (putL key.size).length + key.size := by
    simp only [List.length_append, List.length_cons, ints_length]; omega
  have hdr4 : bs.drop ((putL x).length + (putL t).length + 1 + (putL key.size).length + key.size) = rest4 := by
    rw [← hlen2, hbs2, List.drop_left]
  have hle4 : (putL x).length + (putL t).length + 1 + (putL key.size).length + key.size ≤ bs.length := by
    have := congrArg List.length hbs2
    rw [List.length_append, hlen2] at this
    omega
  obtain ⟨val, j2, e4, hp2⟩ : ∃ a b c, partR bs ((putL x).length + (putL t).length + 1 + (putL key.size).length + key.size) 2000 = (a, b, c) := ⟨_, _, _, rfl⟩
  rw [hp2] at h
  simp only at h
  by_cases he4 : e4 ≠ 0
  · rw [if_pos he4] at h
    simp only [Prod.mk.injEq] at h
    exact absurd h.2.2 he4
  rw [if_neg he4] at h
  obtain rfl : e4 = 0 := by omega
  obtain ⟨hj2, rest5, hk5⟩ := part_back hb hle4 hp2
  rw [hdr4] at hk5
  by_cases hR : (⟨x, unfoldI t, key, val, d == 1⟩ : Rec).right
  · rw [if_pos hR] at h
    simp only [Prod.mk.injEq, and_true] at h
    obtain ⟨rfl, rfl⟩ := h
    have hrec : recL ⟨x, unfoldI t, key, val, d == 1⟩ = putL x ++ (putL t ++ (d :: (putL key.size ++ (ints key ++ (putL val.size ++ ints val))))) := by
      simp only [recL, bodyL, hdd, fold_unfold t ht0]
    refine ⟨hR, ?_, rest5, ?_⟩
    · rw [hj2, hrec]
      simp only [List.length_append, List.length_cons, ints_length]
      omega
    · rw [hrec, hbs2, hk5]
      simp
  · rw [if_neg hR] at h
    simp at h
/-- Other bytes, as many, are not read as that record. -/
theorem other_bytes {bs : List Int} {r : Rec} {q : Rec} {n : Int} (hb : ∀ c ∈ bs, 0 ≤ c ∧ c ≤ 255) (hl : bs.length = (recL r).length) (hne : bs ≠ recL r) (h : getRec bs = (q, n, 0)) : q ≠ r := by
  rintro rfl
  obtain ⟨_, _, rest, hbs⟩ := getRec_back hb h
  have hlen := congrArg List.length hbs
  rw [List.length_append, hl] at hlen
  have h0 : rest = [] := List.eq_nil_of_length_eq_zero (by omega)
  rw [h0, List.append_nil] at hbs
  exact hne hbs
theorem recL_range (r : Rec) (h : r.right) : ∀ c ∈ recL r, 0 ≤ c ∧ c ≤ 255 := by
  obtain ⟨h1, h2, h3, h4, h5, h6, h7, h8⟩ := h
  have hfr := fold_range r.time (by omega) (by omega)
  intro c hc
  simp only [recL, bodyL, List.mem_append, List.mem_cons] at hc
  rcases hc with hc | hc | rfl | hc | hc | hc | hc
  · exact putL_range _ h1 (by omega) c hc
  · exact putL_range _ hfr.1 hfr.2 c hc
  · unfold deadI; split <;> omega
  · exact putL_range _ (by omega) (by omega) c hc
  · exact ints_range _ c hc
  · exact putL_range _ (by omega) (by omega) c hc
  · exact ints_range _ c hc
theorem recL_length (r : Rec) (h : r.right) : 1 ≤ (recL r).length ∧ (recL r).length ≤ 2300 := by
  obtain ⟨h1, h2, h3, h4, h5, h6, h7, h8⟩ := h
  have a := putL_length r.off
  have b := putL_length (foldI r.time)
  have c := putL_length (r.key.size : Int)
  have d := putL_length (r.val.size : Int)
  simp only [recL, bodyL, List.length_append, List.length_cons, ints_length]
  omega
end Go.Proofs.YtaoflfdpagpgaaaDoor
