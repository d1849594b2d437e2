/- Plain mathematics of frames: how a piece is framed, how frames are read one by one, that they come back, that a torn or turned one does not. No program is spoken of here. -/
import Derived.Test.YtaoflfdpagpgaaaDoorNumBack
import Derived.Test.YtaoflfdpagpgaaaDoorCrcNum
namespace Go.Proofs.YtaoflfdpagpgaaaDoor

/-- The four bytes of a sum, the great ones first. -/
def sumL (n : Nat) : List Int := [((n / 16777216 % 256 : Nat) : Int), ((n / 65536 % 256 : Nat) : Int), ((n / 256 % 256 : Nat) : Int), ((n % 256 : Nat) : Int)]
/-- The number that bytes are, the great ones first. -/
def sumOf (xs : List Int) : Int := xs.foldl (fun s c => s * 256 + c) 0
theorem sumL_length (n : Nat) : (sumL n).length = 4 := rfl
theorem sumOf_sumL {n : Nat} (h : n < 4294967296) : sumOf (sumL n) = (n : Int) := by
  simp only [sumOf, sumL, List.foldl_cons, List.foldl_nil]
  omega
theorem sumL_range (n : Nat) : ∀ c ∈ sumL n, 0 ≤ c ∧ c ≤ 255 := by
  intro c hc
  simp only [sumL, List.mem_cons, List.not_mem_nil, or_false] at hc
  omega
theorem sumOf_snoc (xs : List Int) (c : Int) : sumOf (xs ++ [c]) = sumOf xs * 256 + c := by simp [sumOf]
/-- Four bytes one of which is another one are another number. -/
theorem sumOf_turned (a b c d y : Int) (j : Nat) (hj : j < 4)
    (hne : y ≠ ([a, b, c, d].getD j 0)) : sumOf ([a, b, c, d].set j y) ≠ sumOf [a, b, c, d] := by
  have : j = 0 ∨ j = 1 ∨ j = 2 ∨ j = 3 := by omega
  rcases this with rfl | rfl | rfl | rfl <;> (simp [sumOf] at hne ⊢; omega)

/-- A piece, framed. -/
def frameL (p : List Int) : List Int := putL p.length ++ (sumL (moreN 0 p) ++ p)
theorem frameL_length (p : List Int) : (frameL p).length = (putL p.length).length + 4 + p.length := by
  unfold frameL
  rw [List.length_append, List.length_append, sumL_length]
  omega
theorem frameL_range (p : List Int) (h : ∀ c ∈ p, 0 ≤ c ∧ c ≤ 255) (hl : p.length ≤ 1099511627776) : ∀ c ∈ frameL p, 0 ≤ c ∧ c ≤ 255 := by
  intro c hc
  unfold frameL at hc
  rcases List.mem_append.1 hc with h1 | h1
  · exact putL_range _ (by omega) (by omega) c h1
  · rcases List.mem_append.1 h1 with h2 | h2
    · exact sumL_range _ c h2
    · exact h c h2

/-- What bytes begin with: the piece, how many bytes its frame has, the error. -/
def getFr (bs : List Int) : List Int × Int × Int :=
  if (getR bs).2.2 ≠ 0 then ([], 0, (getR bs).2.2)
  else if 16777216 < (getR bs).1 then ([], 0, 3)
  else if (bs.length : Int) < (getR bs).2.1 + 4 + (getR bs).1 then ([], 0, 4)
  else if ((moreN 0 ((bs.drop ((getR bs).2.1.toNat + 4)).take (getR bs).1.toNat) : Nat) : Int) ≠ sumOf ((bs.drop (getR bs).2.1.toNat).take 4) then ([], 0, 5)
  else ((bs.drop ((getR bs).2.1.toNat + 4)).take (getR bs).1.toNat, (getR bs).2.1 + 4 + (getR bs).1, 0)

section
variable {bs : List Int}
theorem getFr_err {x k e : Int} (h : getR bs = (x, k, e)) (he : e ≠ 0) : getFr bs = ([], 0, e) := by
  unfold getFr
  rw [h, if_pos he]
theorem getFr_long {x k : Int} (h : getR bs = (x, k, 0)) (hx : 16777216 < x) : getFr bs = ([], 0, 3) := by
  unfold getFr
  rw [h, if_neg (by simp), if_pos hx]
theorem getFr_short {x k : Int} (h : getR bs = (x, k, 0)) (hx : x ≤ 16777216) (hl : (bs.length : Int) < k + 4 + x) : getFr bs = ([], 0, 4) := by
  unfold getFr
  rw [h, if_neg (by simp), if_neg (by omega), if_pos hl]
theorem getFr_sum {len n : Nat} (h : getR bs = ((len : Int), (n : Int), 0)) (hx : len ≤ 16777216) (hl : n + 4 + len ≤ bs.length) (hs : ((moreN 0 ((bs.drop (n + 4)).take len) : Nat) : Int) ≠ sumOf ((bs.drop n).take 4)) : getFr bs = ([], 0, 5) := by
  unfold getFr
  rw [h, if_neg (by simp), if_neg (by simp only; omega), if_neg (by simp only; omega)]
  simp only [Int.toNat_natCast]
  rw [if_pos hs]
theorem getFr_ok {len n : Nat} (h : getR bs = ((len : Int), (n : Int), 0)) (hx : len ≤ 16777216) (hl : n + 4 + len ≤ bs.length) (hs : ((moreN 0 ((bs.drop (n + 4)).take len) : Nat) : Int) = sumOf ((bs.drop n).take 4)) :
    getFr bs = ((bs.drop (n + 4)).take len, ((n + 4 + len : Nat) : Int), 0) := by
  unfold getFr
  rw [h, if_neg (by simp), if_neg (by simp only; omega), if_neg (by simp only; omega)]
  simp only [Int.toNat_natCast]
  rw [if_neg (by simpa using hs)]
  simp
/-- The number that is read, as numbers of places. -/
theorem getR_nats {x k : Int} (hb : ∀ c ∈ bs, 0 ≤ c ∧ c ≤ 255) (h : getR bs = (x, k, 0)) : ∃ len n : Nat, x = (len : Int) ∧ k = (n : Int) ∧ 1 ≤ n ∧ n ≤ 10 ∧ n ≤ bs.length ∧ x ≤ 18446744073709551615 := by
  obtain ⟨h0, h1, hk, rest, hbs⟩ := getR_back hb h
  have := putL_length x
  refine ⟨x.toNat, (putL x).length, by omega, hk, this.1, this.2, ?_, h1⟩
  rw [hbs, List.length_append]
  omega
end

/-- A frame that is read has five bytes at least, and they are there. -/
theorem getFr_nat {bs p : List Int} {m : Int} (hb : ∀ c ∈ bs, 0 ≤ c ∧ c ≤ 255) (h : getFr bs = (p, m, 0)) : ∃ n : Nat, m = (n : Int) ∧ 5 ≤ n ∧ n ≤ bs.length ∧ p.length ≤ 16777216 ∧ ∀ c ∈ p, 0 ≤ c ∧ c ≤ 255 := by
  obtain ⟨x, k, e, hx⟩ : ∃ x k e, getR bs = (x, k, e) := ⟨_, _, _, rfl⟩
  by_cases he : e = 0
  · subst he
    obtain ⟨len, n, rfl, rfl, h1, _, _, _⟩ := getR_nats hb hx
    by_cases hl : 16777216 < (len : Int)
    · rw [getFr_long hx hl] at h; simp at h
    by_cases hs : (bs.length : Int) < (n : Int) + 4 + (len : Int)
    · rw [getFr_short hx (by omega) hs] at h; simp at h
    by_cases hq : ((moreN 0 ((bs.drop (n + 4)).take len) : Nat) : Int) = sumOf ((bs.drop n).take 4)
    · rw [getFr_ok hx (by omega) (by omega) hq] at h
      simp only [Prod.mk.injEq, and_true] at h
      refine ⟨n + 4 + len, h.2.symm, by omega, by omega, ?_, ?_⟩
      · rw [← h.1, List.length_take]; omega
      · intro c hc
        rw [← h.1] at hc
        exact hb c (List.mem_of_mem_drop (List.mem_of_mem_take hc))
    · rw [getFr_sum hx (by omega) (by omega) hq] at h; simp at h
  · rw [getFr_err hx he] at h
    simp only [Prod.mk.injEq] at h
    exact absurd h.2.2 he

/-- Bytes that stand as a frame's do. -/
theorem getFr_parts (S p more : List Int) (hS : S.length = 4) (hl : p.length ≤ 16777216) :
    getFr (putL p.length ++ (S ++ (p ++ more))) = if ((moreN 0 p : Nat) : Int) ≠ sumOf S then ([], 0, 5) else (p, (((putL p.length).length + 4 + p.length : Nat) : Int), 0) := by
  have hg := getR_putL (p.length : Int) (S ++ (p ++ more)) (by omega) (by omega)
  generalize putL (p.length : Int) = H at hg ⊢
  have d1 : (H ++ (S ++ (p ++ more))).drop H.length = S ++ (p ++ more) := List.drop_left
  have d2 : ((H ++ (S ++ (p ++ more))).drop H.length).take 4 = S := by rw [d1, ← hS, List.take_left]
  have d3 : ((H ++ (S ++ (p ++ more))).drop (H.length + 4)).take p.length = p := by
    rw [← List.drop_drop, d1, ← hS, List.drop_left, List.take_left]
  have hlen : H.length + 4 + p.length ≤ (H ++ (S ++ (p ++ more))).length := by simp only [List.length_append]; omega
  by_cases hs : ((moreN 0 p : Nat) : Int) = sumOf S
  · rw [getFr_ok hg hl hlen (by rw [d3, d2]; exact hs), if_neg (by simpa using hs), d3]
  · rw [getFr_sum hg hl hlen (by rw [d3, d2]; exact hs), if_pos hs]
theorem getFr_frame (p more : List Int) (hl : p.length ≤ 16777216) : getFr (frameL p ++ more) = (p, ((frameL p).length : Int), 0) := by
  have := getFr_parts (sumL (moreN 0 p)) p more (sumL_length _) hl
  rw [if_neg (by rw [sumOf_sumL (moreN_lt 0 p)]; simp)] at this
  rw [frameL_length, ← this]
  unfold frameL
  simp
/-- A front of a frame is short. -/
theorem getFr_front (p : List Int) (m : Nat) (hl : p.length ≤ 16777216) (hm : m < (frameL p).length) : getFr ((frameL p).take m) = ([], 0, 4) := by
  by_cases h1 : m < (putL (p.length : Int)).length
  · have e : (frameL p).take m = (putL (p.length : Int)).take m := by
      unfold frameL
      rw [List.take_append, show m - (putL (p.length : Int)).length = 0 by omega]
      simp
    rw [e]
    exact getFr_err (getR_front _ m (by omega) h1) (by decide)
  · have e : (frameL p).take m = putL (p.length : Int) ++ (sumL (moreN 0 p) ++ p).take (m - (putL (p.length : Int)).length) := by
      unfold frameL
      rw [List.take_append, List.take_of_length_le (by omega)]
    have hg := getR_putL (p.length : Int) ((sumL (moreN 0 p) ++ p).take (m - (putL (p.length : Int)).length)) (by omega) (by omega)
    rw [← e] at hg
    refine getFr_short hg (by omega) ?_
    have := frameL_length p
    rw [List.length_take]
    omega
/-- A frame one of whose bytes, behind the length, is another one. -/
theorem getFr_turned (p : List Int) (hp : ∀ c ∈ p, 0 ≤ c ∧ c ≤ 255) (hl : p.length ≤ 16777216) (k : Nat) (y : Int) (hy : 0 ≤ y ∧ y ≤ 255) (hk0 : (putL (p.length : Int)).length ≤ k) (hk : k < (frameL p).length) (hne : y ≠ (frameL p)[k]) :
    getFr ((frameL p).set k y) = ([], 0, 5) := by
  have hlen := frameL_length p
  obtain ⟨j, rfl⟩ : ∃ j, k = (putL (p.length : Int)).length + j := ⟨k - (putL (p.length : Int)).length, by omega⟩
  have hj8 : j < (sumL (moreN 0 p) ++ p).length := by rw [List.length_append, sumL_length]; omega
  have hne2 : y ≠ (sumL (moreN 0 p) ++ p)[j] := by
    intro h
    apply hne
    rw [h]
    have := List.getElem_append_right (as := putL (p.length : Int)) (bs := sumL (moreN 0 p) ++ p) (i := (putL (p.length : Int)).length + j) hk0 (h₂ := hk)
    simp only [Nat.add_sub_cancel_left] at this
    exact this.symm
  have e : (frameL p).set ((putL (p.length : Int)).length + j) y = putL (p.length : Int) ++ (sumL (moreN 0 p) ++ p).set j y := by
    unfold frameL
    rw [List.set_append_right _ _ hk0, Nat.add_sub_cancel_left]
  rw [e]
  by_cases h4 : j < 4
  · rw [List.set_append_left _ _ (by rw [sumL_length]; exact h4)]
    have := getFr_parts ((sumL (moreN 0 p)).set j y) p [] (by rw [List.length_set, sumL_length]) hl
    rw [List.append_nil, if_pos] at this
    · exact this
    · rw [← sumOf_sumL (moreN_lt 0 p)]
      intro h
      refine sumOf_turned _ _ _ _ y j h4 ?_ h.symm
      intro hh
      apply hne2
      rw [List.getElem_append_left (by rw [sumL_length]; exact h4), hh]
      show (sumL (moreN 0 p)).getD j 0 = _
      rw [List.getD_eq_getElem?_getD, List.getElem?_eq_getElem (by rw [sumL_length]; exact h4)]
      rfl
  · rw [List.set_append_right _ _ (by rw [sumL_length]; omega), sumL_length]
    have hjp : j - 4 < p.length := by omega
    have := getFr_parts (sumL (moreN 0 p)) (p.set (j - 4) y) [] (sumL_length _) (by rw [List.length_set]; exact hl)
    rw [List.length_set, List.append_nil, if_pos] at this
    · exact this
    · rw [sumOf_sumL (moreN_lt 0 p)]
      have ht := turned 0 p hp (j - 4) hjp y hy (by
        intro hh
        apply hne2
        rw [List.getElem_append_right (by rw [sumL_length]; omega)]
        exact hh)
      intro hh
      exact ht (by omega)

/-- Which pieces bytes begin with, up to the first error or the end, and how many bytes their frames have. -/
inductive AllIs : List Int → List (List Int) → Nat → Prop
  | stop {bs : List Int} (h : bs = [] ∨ (getFr bs).2.2 ≠ 0) : AllIs bs [] 0
  | step {bs p : List Int} {n : Nat} {ps : List (List Int)} {k : Nat} (h0 : bs ≠ []) (hg : getFr bs = (p, (n : Int), 0)) (h : AllIs (bs.drop n) ps k) : AllIs bs (p :: ps) (n + k)
theorem AllIs.one {bs : List Int} {ps qs : List (List Int)} {k m : Nat} (h : AllIs bs ps k) (h' : AllIs bs qs m) : ps = qs ∧ k = m := by
  induction h generalizing qs m with
  | stop h =>
    cases h' with
    | stop _ => exact ⟨rfl, rfl⟩
    | step h0 hg _ =>
      rcases h with h | h
      · exact absurd h h0
      · rw [hg] at h; exact absurd rfl h
  | step h0 hg _ ih =>
    cases h' with
    | stop h =>
      rcases h with h | h
      · exact absurd h h0
      · rw [hg] at h; exact absurd rfl h
    | step _ hg' h2 =>
      rw [hg] at hg'
      simp only [Prod.mk.injEq, and_true] at hg'
      obtain ⟨rfl, hn⟩ := hg'
      obtain rfl := Int.ofNat.inj hn
      obtain ⟨rfl, rfl⟩ := ih h2
      exact ⟨rfl, rfl⟩
/-- How far the reading has come: pre is read, the first k bytes are its frames. -/
def AllAt (bs : List Int) (pre : List (List Int)) (k : Nat) : Prop := ∀ ps m, AllIs (bs.drop k) ps m → AllIs bs (pre ++ ps) (k + m)
theorem AllAt.start (bs : List Int) : AllAt bs [] 0 := fun ps m h => by simpa using h
theorem AllAt.next {bs p : List Int} {pre : List (List Int)} {k n : Nat} (h : AllAt bs pre k) (hk : k < bs.length) (hg : getFr (bs.drop k) = (p, (n : Int), 0)) : AllAt bs (pre ++ [p]) (k + n) := fun ps m hm => by
  have := h (p :: ps) (n + m) (AllIs.step (by intro h0; have := congrArg List.length h0; simp at this; omega) hg (by rw [List.drop_drop]; exact hm))
  rw [List.append_assoc, Nat.add_assoc]
  exact this
theorem AllAt.over {bs : List Int} {pre : List (List Int)} {k : Nat} (h : AllAt bs pre k) (hk : bs.length ≤ k) : AllIs bs pre k := by
  simpa using h [] 0 (.stop (.inl (List.drop_eq_nil_of_le hk)))
theorem AllAt.stop {bs : List Int} {pre : List (List Int)} {k : Nat} (h : AllAt bs pre k) (he : (getFr (bs.drop k)).2.2 ≠ 0) : AllIs bs pre k := by
  simpa using h [] 0 (.stop (.inr he))

/-- Frames one behind the other. -/
def rowF (l : List (List Int)) : List Int := l.flatMap frameL
theorem rowF_snoc (l : List (List Int)) (i : Nat) (h : i < l.length) : rowF (l.take (i + 1)) = rowF (l.take i) ++ frameL l[i] := by
  unfold rowF
  rw [List.take_succ_eq_append_getElem h, List.flatMap_append]
  simp
theorem rowF_range (l : List (List Int)) (h : ∀ p ∈ l, (∀ c ∈ p, 0 ≤ c ∧ c ≤ 255) ∧ p.length ≤ 16777216) : ∀ c ∈ rowF l, 0 ≤ c ∧ c ≤ 255 := by
  intro c hc
  unfold rowF at hc
  obtain ⟨p, hp, hc⟩ := List.mem_flatMap.1 hc
  exact frameL_range p (h p hp).1 (by have := (h p hp).2; omega) c hc
theorem rowF_length (l : List (List Int)) (h : ∀ p ∈ l, p.length ≤ 100) : (rowF l).length ≤ 200 * l.length := by
  induction l with
  | nil => simp [rowF]
  | cons p l ih =>
    have h1 := frameL_length p
    have h2 := putL_length (p.length : Int)
    have h3 := h p (List.mem_cons_self ..)
    have h4 := ih fun q hq => h q (List.mem_cons_of_mem _ hq)
    unfold rowF at h4 ⊢
    rw [List.flatMap_cons, List.length_append, List.length_cons]
    omega
theorem all_row (l : List (List Int)) (t : List Int) (h : ∀ p ∈ l, p.length ≤ 16777216) (ht : t = [] ∨ (getFr t).2.2 ≠ 0) : AllIs (rowF l ++ t) l (rowF l).length := by
  induction l with
  | nil => simpa [rowF] using AllIs.stop ht
  | cons p l ih =>
    have e : rowF (p :: l) ++ t = frameL p ++ (rowF l ++ t) := by unfold rowF; simp
    have e2 : (rowF (p :: l)).length = (frameL p).length + (rowF l).length := by unfold rowF; simp
    rw [e, e2]
    refine .step ?_ (getFr_frame p _ (h p (List.mem_cons_self ..))) ?_
    · intro h0
      have := congrArg List.length h0
      have h1 := frameL_length p
      rw [List.length_append, List.length_nil] at this
      omega
    · rw [List.drop_left]
      exact ih fun q hq => h q (List.mem_cons_of_mem _ hq)
theorem all_whole (l : List (List Int)) (h : ∀ p ∈ l, p.length ≤ 16777216) : AllIs (rowF l) l (rowF l).length := by simpa using all_row l [] h (.inl rfl)
/-- Of frames whose last one wants bytes at its end all others are read. -/
theorem all_torn (l : List (List Int)) (n m : Nat) (h : ∀ p ∈ l, p.length ≤ 16777216) (hn : l.length = n + 1) (h0 : (rowF (l.take n)).length ≤ m) (h1 : m < (rowF l).length) : AllIs ((rowF l).take m) (l.take n) (rowF (l.take n)).length := by
  have hln : n < l.length := by omega
  have e : rowF l = rowF (l.take n) ++ frameL l[n] := by
    rw [← rowF_snoc l n hln, ← hn, List.take_length]
  have hf : m - (rowF (l.take n)).length < (frameL l[n]).length := by
    have := congrArg List.length e
    rw [List.length_append] at this
    omega
  have e2 : (rowF l).take m = rowF (l.take n) ++ (frameL l[n]).take (m - (rowF (l.take n)).length) := by
    conv => lhs; rw [e]
    rw [List.take_append, List.take_of_length_le h0]
  rw [e2]
  refine all_row _ _ (fun p hp => h p (List.mem_of_mem_take hp)) (.inr ?_)
  rw [getFr_front _ _ (h _ (List.getElem_mem hln)) hf]
  decide
end Go.Proofs.YtaoflfdpagpgaaaDoor
