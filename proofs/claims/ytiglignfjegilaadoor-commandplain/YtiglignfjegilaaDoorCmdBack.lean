/- That a command comes back from its bytes, as plain mathematics. No program is spoken of here. -/
import Derived.Test.YtiglignfjegilaaDoorCmdFld
import Derived.Test.YtiglignfjegilaaDoorCmdWords
namespace Go.Proofs.YtiglignfjegilaaDoor

theorem wf_fit {c : Cmd} (h : c.wf) (hr : c.right) : ∀ f ∈ fieldsK c.kind, f.fit c := by
  have h1 := hr.2
  unfold Cmd.fits at h1
  have hb : c.kind = 1 → batch c.recs := fun hk => by
    rcases h1 with h | h | h | h | h | h | h | h | h
    all_goals first | exact h.2.2.2.2 | omega
  have hv : c.kind = 3 ∨ c.kind = 4 → validS c.group = true := fun hk => by
    rcases h1 with h | h | h | h | h | h | h | h | h
    all_goals first | exact h.2.2 | exact h.2 | omega
  have hn : ∀ k lo hi, Fld.fit c (.num k lo hi) := by
    intro k lo hi
    show _ ≤ c.num k ∧ c.num k ≤ _
    unfold Cmd.num
    have := h.kind; have := h.pid; have := h.seq; have := h.off; have := h.max; have := h.now; have := h.seg; have := h.keep; have := h.age; have := h.grace
    split <;> omega
  have hs : Fld.fit c .sum := h.sum
  have hB : c.kind = 1 → Fld.fit c .recs := fun hk => ⟨(hb hk).2.1, fun r hr => ((hb hk).2.2 r hr).2⟩
  have hV : c.kind = 3 ∨ c.kind = 4 → Fld.fit c .group := fun hk => name_size (hv hk)
  intro f hf
  cases f with
  | num k lo hi => exact hn k lo hi
  | sum => exact hs
  | recs =>
    refine hB ?_
    rcases fieldsK_cases c.kind with h | h | h | h | h | h | h | h | h | h | h | h | ⟨_, h⟩
    all_goals first | exact h | (rw [h] at hf; simp [fieldsK] at hf)
  | group =>
    refine hV ?_
    rcases fieldsK_cases c.kind with h | h | h | h | h | h | h | h | h | h | h | h | ⟨_, h⟩
    all_goals first | exact .inl h | exact .inr h | (rw [h] at hf; simp [fieldsK] at hf)
theorem fieldsB_bytes {c : Cmd} : ∀ {fs : List Fld}, (∀ f ∈ fs, f.fit c) → ∀ x ∈ fs.flatMap (Fld.bytes c), 0 ≤ x ∧ x ≤ 255 := by
  intro fs h x hx
  obtain ⟨f, hf, hx⟩ := List.mem_flatMap.1 hx
  exact Fld.bytes_range (h f hf) x hx
theorem fieldsB_length {c : Cmd} : ∀ {fs : List Fld}, (∀ f ∈ fs, f.fit c) → (fs.flatMap (Fld.bytes c)).length ≤ 120000 * fs.length
  | [], _ => by simp
  | f :: fs, h => by
    have h1 := Fld.bytes_length (h f (List.mem_cons_self ..))
    have h2 := fieldsB_length (c := c) (fs := fs) fun g hg => h g (List.mem_cons_of_mem _ hg)
    rw [List.flatMap_cons, List.length_append, List.length_cons]
    omega
theorem cmdB_bytes {c : Cmd} (h : c.wf) : ∀ x ∈ cmdB c, 0 ≤ x ∧ x ≤ 255 := by
  by_cases hr : c.right
  · rw [cmdB_right hr]
    intro x hx
    rcases List.mem_append.1 hx with hx | hx
    · have := fold_range _ h.kind.1 h.kind.2
      exact putL_range _ this.1 this.2 x hx
    · exact fieldsB_bytes (wf_fit h hr) x hx
  · rw [cmdB_wrong hr]
    exact fun _ h => by cases h
theorem cmdB_length {c : Cmd} (h : c.wf) : (cmdB c).length ≤ 500000 := by
  by_cases hr : c.right
  · rw [cmdB_right hr, List.length_append]
    have h1 := putL_length (foldI c.kind)
    have h2 := fieldsB_length (wf_fit h hr)
    have h3 := fieldsK_length c.kind
    omega
  · rw [cmdB_wrong hr]
    simp
/-- A field of c, put into d. -/
def Fld.copy (c d : Cmd) : Fld → Cmd
  | .num k _ _ => d.setNum k (c.num k)
  | .sum => { d with sum := c.sum }
  | .group => { d with group := c.group }
  | .recs => { d with recs := d.recs ++ c.recs }
theorem getRecs_put (more : List Int) : ∀ rs : List Rec, (∀ r ∈ rs, r.right) → getRecs rs.length (rs.flatMap putR ++ more) = some (rs, more)
  | [], _ => rfl
  | r :: rs, h => by
    have hr := h r (List.mem_cons_self ..)
    have e : (r :: rs).flatMap putR ++ more = recL r ++ (rs.flatMap putR ++ more) := by
      rw [List.flatMap_cons, putR_right hr, List.append_assoc]
    have hg := getRec_put r (rs.flatMap putR ++ more) hr
    rw [e, List.length_cons]
    show (if (getRec (recL r ++ (rs.flatMap putR ++ more))).2.2 = 0 then _ else _) = _
    rw [hg, if_pos rfl]
    show (getRecs rs.length ((recL r ++ (rs.flatMap putR ++ more)).drop ((recL r).length : Int).toNat)).map _ = _
    rw [Int.toNat_natCast, List.drop_left, getRecs_put more rs fun q hq => h q (List.mem_cons_of_mem _ hq)]
    rfl
theorem take_put {c d : Cmd} {f : Fld} (h : f.fit c) (more : List Int) : takeF d (f.bytes c ++ more) f = some (f.copy c d, more) := by
  cases f with
  | num k lo hi =>
    have hf := fold_range _ h.1 h.2
    show (if (getR (putL (foldI (c.num k)) ++ more)).2.2 ≠ 0 then none else some (d.setNum k (unfoldI (getR (putL (foldI (c.num k)) ++ more)).1), (putL (foldI (c.num k)) ++ more).drop (getR (putL (foldI (c.num k)) ++ more)).2.1.toNat)) = _
    rw [getR_putL _ _ hf.1 hf.2, if_neg (by simp), Int.toNat_natCast, List.drop_left, unfold_fold]
    rfl
  | sum =>
    have hb : c.sum ≤ 4294967295 := h.2
    show (if (getR (putL c.sum ++ more)).2.2 ≠ 0 then none else if (getR (putL c.sum ++ more)).1 ≤ 4294967295 then some ({ d with sum := (getR (putL c.sum ++ more)).1 }, (putL c.sum ++ more).drop (getR (putL c.sum ++ more)).2.1.toNat) else none) = _
    rw [getR_putL _ _ h.1 (by omega), if_neg (by simp), if_pos hb, Int.toNat_natCast, List.drop_left]
    rfl
  | group =>
    have hb : c.group.size ≤ 160 := h
    obtain ⟨G, hG⟩ : ∃ G, ints c.group = G := ⟨_, rfl⟩
    have hl : G.length = c.group.size := by rw [← hG, ints_length]
    have ht : textOf G = c.group := by rw [← hG]; exact textOf_ints _
    show takeF d ((putL c.group.size ++ ints c.group) ++ more) .group = _
    rw [hG, List.append_assoc]
    unfold takeF
    rw [getR_putL _ _ (by omega) (by omega), if_neg (by simp)]
    dsimp only
    rw [Int.toNat_natCast, List.drop_left, Int.toNat_natCast, ← hl, List.take_left, List.drop_left, ht, if_pos (by rw [List.length_append]; omega)]
    rfl
  | recs =>
    have hb := h.1
    show takeF d ((putL c.recs.length ++ c.recs.flatMap putR) ++ more) .recs = _
    rw [List.append_assoc]
    unfold takeF
    rw [getR_putL _ _ (by omega) (by omega), if_neg (by simp)]
    dsimp only
    simp only [Int.toNat_natCast]
    rw [List.drop_left, if_neg (by omega), getRecs_put _ _ h.2]
    rfl
theorem readFs_put {c : Cmd} : ∀ (fs : List Fld) (d : Cmd), (∀ f ∈ fs, f.fit c) → readFs fs d (fs.flatMap (Fld.bytes c)) = some (fs.foldl (fun d f => f.copy c d) d, [])
  | [], _, _ => rfl
  | f :: fs, d, h => by
    show (takeF d ((f :: fs).flatMap (Fld.bytes c)) f).bind _ = _
    rw [List.flatMap_cons, take_put (h f (List.mem_cons_self ..))]
    exact readFs_put fs _ fun g hg => h g (List.mem_cons_of_mem _ hg)
theorem copied {c : Cmd} (h : c.right) : (fieldsK c.kind).foldl (fun d f => f.copy c d) { zeroCmd with kind := c.kind } = c := by
  have hp := h.1
  have hk : known c.kind := ((right_rest c).1 h).1
  obtain ⟨k, p, q, rs, gr, o, m, n, s, a1, a2, a3, a4⟩ := c
  have hg := size_nil gr
  have hr := List.length_eq_zero_iff (l := rs)
  unfold Cmd.plain at hp
  dsimp only at hp hk ⊢
  rcases fieldsK_cases k with h | h | h | h | h | h | h | h | h | h | h | h | ⟨hn, _⟩
  all_goals first
    | exact absurd hk hn
    | (subst h
       simp [fieldsK, Fld.copy, Cmd.setNum, Cmd.num, zeroCmd]
       grind)
theorem cmdR_back {c : Cmd} (hw : c.wf) (h : c.right) : cmdR (cmdB c) = some c := by
  have hf := wf_fit hw h
  have hk : Fld.fit c (.num 0 0 0) := hw.kind
  rw [cmdB_right h]
  unfold cmdR
  have h1 := take_put (d := zeroCmd) hk ((fieldsK c.kind).flatMap (Fld.bytes c))
  have e : Fld.bytes c (.num 0 0 0) = putL (foldI c.kind) := rfl
  rw [e] at h1
  rw [h1]
  show (readFs (fieldsK c.kind) { zeroCmd with kind := c.kind } _).bind whole = _
  rw [readFs_put _ _ hf, copied h]
  show (if ([] : List Int) = [] ∧ c.right then some c else none) = _
  rw [if_pos ⟨rfl, h⟩]
end Go.Proofs.YtiglignfjegilaaDoor
