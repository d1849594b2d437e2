/- Plain mathematics of segments: the bytes of records, which records bytes begin with, that what was written is read, torn or whole; which records stand from an offset on. No program is spoken of here. -/
import Derived.Test.YtaoflfdpagpgaaaDoorFrameNum
import Derived.Test.YtaoflfdpagpgaaaDoorRecBack
namespace Go.Proofs.YtaoflfdpagpgaaaDoor

/-- The right ones of records. -/
def goods (l : List Rec) : List Rec := l.filter fun r => decide r.right
theorem goods_right {l : List Rec} {r : Rec} (h : r ∈ goods l) : r.right := by
  unfold goods at h
  simpa using (List.mem_filter.1 h).2
theorem goods_snoc (l : List Rec) (i : Nat) (h : i < l.length) (hr : l[i].right) : goods (l.take (i + 1)) = goods (l.take i) ++ [l[i]] := by
  unfold goods
  rw [List.take_succ_eq_append_getElem h, List.filter_append]
  simp [hr]
theorem goods_skip (l : List Rec) (i : Nat) (h : i < l.length) (hr : ¬ l[i].right) : goods (l.take (i + 1)) = goods (l.take i) := by
  unfold goods
  rw [List.take_succ_eq_append_getElem h, List.filter_append]
  simp [hr]
/-- The frames of records. -/
def segF (l : List Rec) : List Int := l.flatMap fun r => frameL (recL r)
/-- A segment's bytes. -/
def segL (l : List Rec) : List Int := segF (goods l)
theorem segF_cons (r : Rec) (l : List Rec) : segF (r :: l) = frameL (recL r) ++ segF l := by unfold segF; rw [List.flatMap_cons]
theorem segF_append (a b : List Rec) : segF (a ++ b) = segF a ++ segF b := by unfold segF; rw [List.flatMap_append]
theorem segF_snoc (l : List Rec) (i : Nat) (h : i < l.length) : segF (l.take (i + 1)) = segF (l.take i) ++ frameL (recL l[i]) := by
  rw [List.take_succ_eq_append_getElem h, segF_append]
  simp [segF]
theorem segL_snoc (l : List Rec) (i : Nat) (h : i < l.length) (hr : l[i].right) : segL (l.take (i + 1)) = segL (l.take i) ++ frameL (recL l[i]) := by
  unfold segL
  rw [goods_snoc l i h hr, segF_append]
  simp [segF]
theorem segL_skip (l : List Rec) (i : Nat) (h : i < l.length) (hr : ¬ l[i].right) : segL (l.take (i + 1)) = segL (l.take i) := by
  unfold segL
  rw [goods_skip l i h hr]
theorem goods_all {l : List Rec} (h : ∀ r ∈ l, r.right) : goods l = l := by
  unfold goods
  exact List.filter_eq_self.2 fun r hr => by simpa using h r hr
theorem frame_rec_length (r : Rec) (h : r.right) : 1 ≤ (frameL (recL r)).length ∧ (frameL (recL r)).length ≤ 2400 := by
  have h1 := recL_length r h
  have h2 := frameL_length (recL r)
  have h3 := putL_length ((recL r).length : Int)
  omega
theorem segF_length (l : List Rec) (h : ∀ r ∈ l, r.right) : (segF l).length ≤ 2400 * l.length := by
  induction l with
  | nil => simp [segF]
  | cons r l ih =>
    have h1 := frame_rec_length r (h r (List.mem_cons_self ..))
    have h2 := ih fun q hq => h q (List.mem_cons_of_mem _ hq)
    rw [segF_cons, List.length_append, List.length_cons]
    omega
theorem goods_length (l : List Rec) : (goods l).length ≤ l.length := List.length_filter_le _ _
theorem segL_length (l : List Rec) : (segL l).length ≤ 2400 * l.length := by
  have h1 := segF_length (goods l) fun r hr => goods_right hr
  have h2 := goods_length l
  unfold segL
  omega
theorem segF_range (l : List Rec) (h : ∀ r ∈ l, r.right) : ∀ c ∈ segF l, 0 ≤ c ∧ c ≤ 255 := by
  intro c hc
  unfold segF at hc
  obtain ⟨r, hr, hc⟩ := List.mem_flatMap.1 hc
  exact frameL_range _ (recL_range r (h r hr)) (by have := recL_length r (h r hr); omega) c hc

/-- The offset of the last one. -/
def lastO (l : List Rec) : Option Int := l.getLast?.map Rec.off
theorem lastO_snoc (l : List Rec) (r : Rec) : lastO (l ++ [r]) = some r.off := by simp [lastO]
/-- Does this offset not rise? -/
def falls (last : Option Int) (o : Int) : Bool := match last with
  | some x => decide (o ≤ x)
  | none => false
/-- The record that bytes begin with, behind one of that offset, and how many bytes its frame has. -/
def stepM (last : Option Int) (bs : List Int) : Option (Rec × Nat) :=
  if bs = [] then none
  else if (getFr bs).2.2 ≠ 0 then none
  else if (getRec (getFr bs).1).2.2 ≠ 0 then none
  else if (getRec (getFr bs).1).2.1 ≠ ((getFr bs).1.length : Int) then none
  else if falls last (getRec (getFr bs).1).1.off = true then none
  else some ((getRec (getFr bs).1).1, (getFr bs).2.1.toNat)
/-- Which records bytes begin with, and how many bytes these have. -/
inductive SegIs : Option Int → List Int → List Rec → Nat → Prop
  | stop {last : Option Int} {bs : List Int} (h : stepM last bs = none) : SegIs last bs [] 0
  | next {last : Option Int} {bs : List Int} {r : Rec} {n : Nat} {rs : List Rec} {k : Nat} (h : stepM last bs = some (r, n)) (hr : SegIs (some r.off) (bs.drop n) rs k) : SegIs last bs (r :: rs) (n + k)
theorem SegIs.one {last : Option Int} {bs : List Int} {rs qs : List Rec} {k m : Nat} (h : SegIs last bs rs k) (h' : SegIs last bs qs m) : rs = qs ∧ k = m := by
  induction h generalizing qs m with
  | stop h =>
    cases h' with
    | stop _ => exact ⟨rfl, rfl⟩
    | next h2 _ => rw [h] at h2; cases h2
  | next h _ ih =>
    cases h' with
    | stop h2 => rw [h] at h2; cases h2
    | next h2 h3 =>
      rw [h] at h2
      simp only [Option.some.injEq, Prod.mk.injEq] at h2
      obtain ⟨rfl, rfl⟩ := h2
      obtain ⟨rfl, rfl⟩ := ih h3
      exact ⟨rfl, rfl⟩
/-- How far the reading has come. -/
def SegAt (bs : List Int) (pre : List Rec) (k : Nat) : Prop := ∀ rs m, SegIs (lastO pre) (bs.drop k) rs m → SegIs none bs (pre ++ rs) (k + m)
theorem lastO_nil : lastO [] = none := rfl
theorem SegAt.start (bs : List Int) : SegAt bs [] 0 := fun rs m h => by rw [lastO_nil] at h; simpa using h
theorem SegAt.next {bs : List Int} {pre : List Rec} {k n : Nat} {r : Rec} (h : SegAt bs pre k) (hs : stepM (lastO pre) (bs.drop k) = some (r, n)) : SegAt bs (pre ++ [r]) (k + n) := fun rs m hm => by
  rw [lastO_snoc] at hm
  have := h (r :: rs) (n + m) (.next hs (by rw [List.drop_drop]; exact hm))
  rw [List.append_assoc, Nat.add_assoc]
  exact this
theorem SegAt.stop {bs : List Int} {pre : List Rec} {k : Nat} (h : SegAt bs pre k) (hs : stepM (lastO pre) (bs.drop k) = none) : SegIs none bs pre k := by
  simpa using h [] 0 (.stop hs)
theorem stepM_nil (last : Option Int) : stepM last [] = none := by unfold stepM; rw [if_pos rfl]
theorem SegAt.over {bs : List Int} {pre : List Rec} {k : Nat} (h : SegAt bs pre k) (hk : bs.length ≤ k) : SegIs none bs pre k :=
  h.stop (by rw [List.drop_eq_nil_of_le hk]; exact stepM_nil _)
theorem stepM_fr {last : Option Int} {bs : List Int} (h : (getFr bs).2.2 ≠ 0) : stepM last bs = none := by
  unfold stepM
  rw [if_pos h]
  split <;> rfl
/-- A frame, and what is in it. -/
theorem stepM_of {last : Option Int} {bs p : List Int} {n : Nat} (h0 : bs ≠ []) (hg : getFr bs = (p, (n : Int), 0)) :
    stepM last bs = if (getRec p).2.2 ≠ 0 then none else if (getRec p).2.1 ≠ (p.length : Int) then none else if falls last (getRec p).1.off = true then none else some ((getRec p).1, n) := by
  unfold stepM
  rw [if_neg h0, hg]
  simp

/-! What was written is read. -/
/-- The offsets rise. -/
def Up : Option Int → List Rec → Prop
  | _, [] => True
  | last, r :: l => falls last r.off = false ∧ Up (some r.off) l
theorem step_put {last : Option Int} {r : Rec} (hr : r.right) (hf : falls last r.off = false) (more : List Int) : stepM last (frameL (recL r) ++ more) = some (r, (frameL (recL r)).length) := by
  have h1 := recL_length r hr
  have hg := getFr_frame (recL r) more (by omega)
  have hp := getRec_put r [] hr
  rw [List.append_nil] at hp
  have h2 := (frame_rec_length r hr).1
  rw [stepM_of (by intro h0; have := congrArg List.length h0; rw [List.length_append, List.length_nil] at this; omega) hg, hp]
  simp [hf]
theorem seg_row (l : List Rec) (t : List Int) (last : Option Int) (h : ∀ r ∈ l, r.right) (hu : Up last l) (ht : ∀ x, stepM x t = none) : SegIs last (segF l ++ t) l (segF l).length := by
  induction l generalizing last with
  | nil => simpa [segF] using SegIs.stop (ht last)
  | cons r l ih =>
    rw [segF_cons, List.append_assoc, List.length_append]
    refine .next (step_put (h r (List.mem_cons_self ..)) hu.1 _) ?_
    rw [List.drop_left]
    exact ih _ (fun q hq => h q (List.mem_cons_of_mem _ hq)) hu.2
theorem seg_whole (l : List Rec) (h : ∀ r ∈ l, r.right) (hu : Up none l) : SegIs none (segF l) l (segF l).length := by simpa using seg_row l [] none h hu stepM_nil
theorem Up.take {last : Option Int} {l : List Rec} (h : Up last l) (n : Nat) : Up last (l.take n) := by
  induction l generalizing last n with
  | nil => rw [List.take_nil]; trivial
  | cons r l ih =>
    cases n with
    | zero => trivial
    | succ n => exact ⟨h.1, ih h.2 n⟩
/-- How many whole ones the first n bytes have. -/
theorem whole_of (l : List Rec) (n : Nat) (hn : n ≤ (segF l).length) : ∃ j, j ≤ l.length ∧ (segF (l.take j)).length ≤ n ∧ (j = l.length ∨ n < (segF (l.take (j + 1))).length) := by
  induction l generalizing n with
  | nil => exact ⟨0, Nat.le_refl _, by simp [segF], .inl rfl⟩
  | cons r l ih =>
    by_cases hlt : n < (frameL (recL r)).length
    · refine ⟨0, Nat.zero_le _, by simp [segF], .inr ?_⟩
      rw [List.take_succ_cons, List.take_zero, segF_cons]
      rw [List.length_append]
      omega
    · rw [segF_cons, List.length_append] at hn
      obtain ⟨j, h1, h2, h3⟩ := ih (n - (frameL (recL r)).length) (by omega)
      refine ⟨j + 1, by rw [List.length_cons]; omega, ?_, ?_⟩
      · rw [List.take_succ_cons, segF_cons, List.length_append]
        omega
      · rcases h3 with h3 | h3
        · exact .inl (by rw [List.length_cons, h3])
        · refine .inr ?_
          rw [List.take_succ_cons, segF_cons, List.length_append]
          omega
theorem seg_torn (l : List Rec) (n j : Nat) (h : ∀ r ∈ l, r.right) (hu : Up none l) (hj : j ≤ l.length) (h0 : (segF (l.take j)).length ≤ n) (hn : n ≤ (segF l).length) (h1 : j = l.length ∨ n < (segF (l.take (j + 1))).length) :
    SegIs none ((segF l).take n) (l.take j) (segF (l.take j)).length := by
  rcases h1 with h1 | h1
  · subst h1
    rw [List.take_length] at h0 ⊢
    have : n = (segF l).length := by omega
    rw [this, List.take_length]
    exact seg_whole l h hu
  · by_cases hlt : j < l.length
    · have e : segF l = segF (l.take j) ++ (frameL (recL l[j]) ++ segF (l.drop (j + 1))) := by
        conv => lhs; rw [← List.take_append_drop j l, List.drop_eq_getElem_cons hlt, segF_append, segF_cons]
      have hf : n - (segF (l.take j)).length < (frameL (recL l[j])).length := by
        rw [segF_snoc l j hlt, List.length_append] at h1
        omega
      have e2 : (segF l).take n = segF (l.take j) ++ (frameL (recL l[j])).take (n - (segF (l.take j)).length) := by
        conv => lhs; rw [e]
        rw [take_past h0, take_front (by omega)]
      rw [e2]
      have hr := h _ (List.getElem_mem hlt)
      have h2 := recL_length l[j] hr
      exact seg_row _ _ none (fun r hr => h r (List.mem_of_mem_take hr)) (hu.take j) fun x => stepM_fr (by rw [getFr_front _ _ (by omega) hf]; decide)
    · obtain rfl : j = l.length := by omega
      rw [List.take_length] at h0 ⊢
      have : n = (segF l).length := by omega
      rw [this, List.take_length]
      exact seg_whole l h hu

/-! Which records stand from an offset on. -/
def fromM (l : List Rec) (offset max : Int) : List Rec := (l.filter fun r => decide (offset ≤ r.off)).take max.toNat
section
variable {l : List Rec} {offset max : Int} {i : Nat}
theorem take_front' {a b : List Rec} {n : Nat} (h : n ≤ a.length) : (a ++ b).take n = a.take n := by rw [List.take_append, show n - a.length = 0 by omega, List.take_zero, List.append_nil]
theorem from_nil : fromM [] offset max = [] := by simp [fromM]
theorem from_length (l : List Rec) (offset max : Int) : (fromM l offset max).length ≤ l.length ∧ (0 ≤ max → ((fromM l offset max).length : Int) ≤ max) := by
  unfold fromM
  rw [List.length_take]
  have := List.length_filter_le (fun r : Rec => decide (offset ≤ r.off)) l
  omega
theorem from_skip (h : i < l.length) (ho : ¬ offset ≤ l[i].off) : fromM (l.take (i + 1)) offset max = fromM (l.take i) offset max := by
  unfold fromM
  rw [List.take_succ_eq_append_getElem h, List.filter_append]
  simp [ho]
theorem from_snoc (h : i < l.length) (ho : offset ≤ l[i].off) (hm : ((fromM (l.take i) offset max).length : Int) < max) : fromM (l.take (i + 1)) offset max = fromM (l.take i) offset max ++ [l[i]] := by
  unfold fromM at hm ⊢
  rw [List.length_take] at hm
  rw [List.take_succ_eq_append_getElem h, List.filter_append]
  have e : [l[i]].filter (fun r : Rec => decide (offset ≤ r.off)) = [l[i]] := by simp [ho]
  rw [e]
  generalize (l.take i).filter (fun r : Rec => decide (offset ≤ r.off)) = F at *
  have hx : F.length < max.toNat := by
    rcases Nat.le_total max.toNat F.length with hx | hx
    · rw [Nat.min_eq_left hx] at hm; omega
    · rw [Nat.min_eq_right hx] at hm; omega
  rw [List.take_of_length_le (by rw [List.length_append, List.length_singleton]; omega), List.take_of_length_le (by omega)]
theorem from_full (i : Nat) (hm : max ≤ ((fromM (l.take i) offset max).length : Int)) : fromM l offset max = fromM (l.take i) offset max := by
  unfold fromM at hm ⊢
  rw [List.length_take] at hm
  conv => lhs; rw [← List.take_append_drop i l, List.filter_append]
  rw [take_front' (by omega)]
theorem from_all (h : l.length ≤ i) : fromM (l.take i) offset max = fromM l offset max := by rw [List.take_of_length_le h]
end
/-- Offsets that rise, each above all ahead of it. -/
def Rises (l : List Rec) : Prop := l.Pairwise fun a b => a.off < b.off
theorem rises_from {W : List Rec} (h : Rises W) (k : Nat) (hk : k < W.length) : W.filter (fun r => decide (W[k].off + 1 ≤ r.off)) = W.drop (k + 1) := by
  induction W generalizing k with
  | nil => simp at hk
  | cons a t ih =>
    obtain ⟨h1, h2⟩ := List.pairwise_cons.1 h
    cases k with
    | zero =>
      rw [List.filter_cons, if_neg (by simp only [List.getElem_cons_zero, decide_eq_true_eq]; omega), List.drop_succ_cons, List.drop_zero]
      refine List.filter_eq_self.2 fun r hr => ?_
      have := h1 r hr
      simp only [List.getElem_cons_zero, decide_eq_true_eq]
      omega
    | succ k =>
      have hk' : k < t.length := by simpa using hk
      have h3 := h1 _ (List.getElem_mem hk')
      rw [List.filter_cons, if_neg (by simp only [List.getElem_cons_succ, decide_eq_true_eq]; omega), List.drop_succ_cons]
      simp only [List.getElem_cons_succ]
      exact ih h2 k hk'
/-- How far one has come who reads on from where he is told to. -/
structure Reading (all W : List Rec) (at_ : Int) (c : Nat) : Prop where
  le : c ≤ W.length
  rest : all.filter (fun r => decide (at_ ≤ r.off)) = W.drop c
theorem Reading.start (all : List Rec) (offset : Int) : Reading all (all.filter fun r => decide (offset ≤ r.off)) offset 0 := ⟨Nat.zero_le _, by simp⟩
theorem Reading.told {all W : List Rec} {at_ : Int} {c : Nat} (h : Reading all W at_ c) (max : Int) : fromM all at_ max = (W.drop c).take max.toNat := by unfold fromM; rw [h.rest]
theorem Reading.next {all : List Rec} {offset at_ max : Int} {c : Nat} (hr : Rises all) (h : Reading all (all.filter fun r => decide (offset ≤ r.off)) at_ c) {m : List Rec} (hm : fromM all at_ max = m) (h0 : m ≠ []) :
    Reading all (all.filter fun r => decide (offset ≤ r.off)) ((m.getLast h0).off + 1) (c + m.length) ∧ (all.filter fun r => decide (offset ≤ r.off)).take c ++ m = (all.filter fun r => decide (offset ≤ r.off)).take (c + m.length) := by
  have ht := h.told max
  rw [hm] at ht
  have hl := h.le
  have hin : ∀ r ∈ all.filter (fun r => decide (offset ≤ r.off)), offset ≤ r.off := fun r hr => by simpa using (List.mem_filter.1 hr).2
  have hWr : Rises (all.filter fun r => decide (offset ≤ r.off)) := List.Pairwise.sublist List.filter_sublist hr
  have hff : ∀ b, offset ≤ b → all.filter (fun r => decide (b ≤ r.off)) = (all.filter fun r => decide (offset ≤ r.off)).filter (fun r => decide (b ≤ r.off)) := fun b hb => by
    rw [List.filter_filter]
    refine List.filter_congr fun r _ => ?_
    by_cases h1 : b ≤ r.off
    · rw [decide_eq_true h1, decide_eq_true (show offset ≤ r.off by omega)]; rfl
    · rw [decide_eq_false h1]; rfl
  generalize (all.filter fun r => decide (offset ≤ r.off)) = W at *
  have hml : m.length ≤ W.length - c := by rw [ht, List.length_take, List.length_drop]; omega
  have hm1 : 0 < m.length := List.length_pos_iff.2 h0
  have hmt : m = (W.drop c).take m.length := by
    conv => lhs; rw [ht]
    rw [ht, List.length_take]
    by_cases hx : max.toNat ≤ (W.drop c).length
    · rw [Nat.min_eq_left hx]
    · rw [Nat.min_eq_right (by omega), List.take_of_length_le (by omega), List.take_length]
  have hk : c + m.length - 1 < W.length := by omega
  have hlast : m.getLast h0 = W[c + m.length - 1] := by
    have e1 : m.getLast h0 = m[m.length - 1] := List.getLast_eq_getElem h0
    have e2 : ∀ j (hj : j < m.length), m[j] = W[c + j]'(by omega) := fun j hj => by
      have : m[j]? = some (W[c + j]'(by omega)) := by
        have hq : m[j]? = ((W.drop c).take m.length)[j]? := congrArg (·[j]?) hmt
        rw [hq, List.getElem?_take_of_lt hj, List.getElem?_drop, List.getElem?_eq_getElem]
      rw [List.getElem?_eq_getElem hj] at this
      exact Option.some.inj this
    rw [e1, e2 _ (by omega)]
    congr 1
    omega
  refine ⟨⟨by omega, ?_⟩, ?_⟩
  · rw [hlast]
    have h1 := hin _ (List.getElem_mem hk)
    rw [hff _ (by omega), rises_from hWr _ hk]
    congr 1
    omega
  · rw [List.take_add, ← hmt]
/-! Records numbered anew. -/
def numbered (r : Rec) (o : Int) : Rec := ⟨o, r.time, r.key, r.val, r.dead⟩
/-- The n-th one at k n. -/
def renum (k : Int) : Nat → List Rec → List Rec
  | _, [] => []
  | n, r :: l => numbered r (k * n) :: renum k (n + 1) l
theorem renum_length (k : Int) (n : Nat) (l : List Rec) : (renum k n l).length = l.length := by
  induction l generalizing n with
  | nil => rfl
  | cons r l ih => simp [renum, ih]
theorem renum_snoc (k : Int) (n : Nat) (l : List Rec) (r : Rec) : renum k n (l ++ [r]) = renum k n l ++ [numbered r (k * (n + l.length : Nat))] := by
  induction l generalizing n with
  | nil => simp [renum]
  | cons a l ih =>
    rw [List.cons_append, renum, renum, ih, List.cons_append]
    rw [show n + 1 + l.length = n + (a :: l).length by rw [List.length_cons]; omega]
theorem renum_take (k : Int) (l : List Rec) (i : Nat) (h : i < l.length) : renum k 0 (l.take (i + 1)) = renum k 0 (l.take i) ++ [numbered l[i] (k * (i : Nat))] := by
  rw [List.take_succ_eq_append_getElem h, renum_snoc, List.length_take, Nat.min_eq_left (by omega), Nat.zero_add]
theorem renum_above {k : Int} (hk : 0 < k) (n : Nat) (l : List Rec) : ∀ r ∈ renum k n l, k * n ≤ r.off := by
  induction l generalizing n with
  | nil => intro r hr; cases hr
  | cons a l ih =>
    intro r hr
    rw [renum] at hr
    rcases List.mem_cons.1 hr with e | hr
    · rw [e]; exact Int.le_refl _
    · have h1 := ih (n + 1) r hr
      have h2 : k * ((n + 1 : Nat) : Int) = k * n + k := by rw [Int.natCast_add, Int.mul_add]; simp
      omega
theorem renum_rises {k : Int} (hk : 0 < k) (n : Nat) (l : List Rec) : Rises (renum k n l) := by
  induction l generalizing n with
  | nil => exact List.Pairwise.nil
  | cons a l ih =>
    rw [renum]
    refine List.pairwise_cons.2 ⟨fun r hr => ?_, ih (n + 1)⟩
    have h1 := renum_above hk (n + 1) l r hr
    have h2 : k * ((n + 1 : Nat) : Int) = k * n + k := by rw [Int.natCast_add, Int.mul_add]; simp
    show k * n < r.off
    omega
theorem Rises.goods {l : List Rec} (h : Rises l) : Rises (goods l) := List.Pairwise.sublist List.filter_sublist h
theorem up_of {l : List Rec} (h : Rises l) : ∀ last, (∀ x, last = some x → ∀ r ∈ l, x < r.off) → Up last l := by
  induction l with
  | nil => intro _ _; trivial
  | cons a t ih =>
    intro last hl
    obtain ⟨h1, h2⟩ := List.pairwise_cons.1 h
    refine ⟨?_, ih h2 _ fun x hx r hr => ?_⟩
    · cases last with
      | none => rfl
      | some x =>
        have := hl x rfl a (List.mem_cons_self ..)
        simp [falls]
        omega
    · injection hx with hx
      subst hx
      exact h1 r hr
theorem Rises.up {l : List Rec} (h : Rises l) : Up none l := up_of h none fun _ h => by cases h
end Go.Proofs.YtaoflfdpagpgaaaDoor
