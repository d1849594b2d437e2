/- What is read as a command is within its types: plain mathematics. No program is spoken of here. -/
import Derived.Test.YtiglignfjegilaaDoorCmdBack
import Derived.Test.YtiglignfjegilaaDoorRecBase
namespace Go.Proofs.YtiglignfjegilaaDoor

theorem getRecs_wf : ∀ (n : Nat) (xs ys : List Int) (rs : List Rec), IsBytes xs → getRecs n xs = some (rs, ys) → (∀ r ∈ rs, r.right) ∧ IsBytes ys ∧ ys.length ≤ xs.length ∧ rs.length = n
  | 0, xs, ys, rs, hb, h => by
    cases h
    exact ⟨fun _ h => (by cases h), hb, Nat.le_refl _, rfl⟩
  | n + 1, xs, ys, rs, hb, h => by
    obtain ⟨r, k, e, hr⟩ : ∃ r k e, getRec xs = (r, k, e) := ⟨_, _, _, rfl⟩
    change (if (getRec xs).2.2 = 0 then (getRecs n (xs.drop (getRec xs).2.1.toNat)).map fun p => ((getRec xs).1 :: p.1, p.2) else none) = _ at h
    rw [hr] at h
    by_cases he : e = 0
    · subst he
      rw [if_pos rfl] at h
      obtain ⟨p, hp, e⟩ := Option.map_eq_some_iff.1 h
      obtain ⟨q, z⟩ := p
      cases e
      have hb2 : IsBytes (xs.drop k.toNat) := fun c hc => hb c (List.mem_of_mem_drop hc)
      obtain ⟨h1, h2, h3, h4⟩ := getRecs_wf n _ _ _ hb2 hp
      refine ⟨fun x hx => ?_, h2, Nat.le_trans h3 (by rw [List.length_drop]; omega), by rw [List.length_cons, h4]⟩
      rcases List.mem_cons.1 hx with rfl | hx
      · exact (getRec_back hb hr).1
      · exact h1 x hx
    · rw [if_neg he] at h
      cases h
theorem takeF_wf {c c' : Cmd} {xs ys : List Int} {f : Fld} (hw : c.wf) (hb : IsBytes xs) (hl : xs.length ≤ 549755813888) (h : takeF c xs f = some (c', ys)) :
    c'.wf ∧ IsBytes ys ∧ ys.length ≤ xs.length ∧ c'.recs.length ≤ c.recs.length + 50 := by
  obtain ⟨x, k, e, hr⟩ : ∃ x k e, getR xs = (x, k, e) := ⟨_, _, _, rfl⟩
  unfold takeF at h
  rw [hr] at h
  by_cases he : e = 0
  · subst he
    obtain ⟨n, m, rfl, rfl, hm, hm1, hn⟩ := getR_nat hb hr
    rw [if_neg (by simp)] at h
    simp only [Int.toNat_natCast] at h
    have hb2 : IsBytes (xs.drop m) := fun c hc => hb c (List.mem_of_mem_drop hc)
    have hl2 : (xs.drop m).length ≤ xs.length := by rw [List.length_drop]; omega
    cases f with
    | num k lo hi =>
      cases h
      have hu := unfold_range (n : Int) (by omega) hn
      refine ⟨?_, hb2, hl2, ?_⟩
      · obtain ⟨a1, a2, a3, a4, a5, a6, a7, a8, a9, a10, a11, a12, a13⟩ := hw
        unfold Cmd.setNum
        split <;> constructor <;> first | exact hu | assumption
      · have : (c.setNum k (unfoldI n)).recs = c.recs := by unfold Cmd.setNum; split <;> rfl
        rw [this]
        omega
    | sum =>
      dsimp only at h
      by_cases hs : (n : Int) ≤ 4294967295
      · rw [if_pos hs] at h
        cases h
        obtain ⟨a1, a2, a3, a4, a5, a6, a7, a8, a9, a10, a11, a12, a13⟩ := hw
        exact ⟨⟨a1, a2, a3, a4, a5, a6, a7, a8, ⟨by show (0 : Int) ≤ n; omega, hs⟩, a10, a11, a12, a13⟩, hb2, hl2, Nat.le_add_right ..⟩
      · rw [if_neg hs] at h
        cases h
    | group =>
      dsimp only at h
      by_cases hs : (n : Int) ≤ ((xs.drop m).length : Int)
      · rw [if_pos hs] at h
        cases h
        obtain ⟨a1, a2, a3, a4, a5, a6, a7, a8, a9, a10, a11, a12, a13⟩ := hw
        refine ⟨⟨a1, a2, a3, a4, ?_, a6, a7, a8, a9, a10, a11, a12, a13⟩, fun c hc => hb2 c (List.mem_of_mem_drop hc), ?_, Nat.le_add_right ..⟩
        · show (textOf _).size ≤ _
          rw [textOf_size, List.length_take]
          omega
        · rw [List.length_drop]
          omega
      · rw [if_neg hs] at h
        cases h
    | recs =>
      dsimp only at h
      by_cases hs : 50 < (n : Int)
      · rw [if_pos hs] at h
        cases h
      · rw [if_neg hs] at h
        obtain ⟨p, hp, e⟩ := Option.map_eq_some_iff.1 h
        obtain ⟨q, z⟩ := p
        cases e
        obtain ⟨h1, h2, h3, h4⟩ := getRecs_wf n _ _ _ hb2 hp
        obtain ⟨a1, a2, a3, a4, a5, a6, a7, a8, a9, a10, a11, a12, a13⟩ := hw
        refine ⟨⟨a1, a2, a3, fun r hr => ?_, a5, a6, a7, a8, a9, a10, a11, a12, a13⟩, h2, Nat.le_trans h3 hl2, ?_⟩
        · rcases List.mem_append.1 hr with hr | hr
          · exact a4 r hr
          · exact (h1 r hr).wf
        · show (c.recs ++ q).length ≤ _
          rw [List.length_append]
          omega
  · rw [if_pos he] at h
    cases h
theorem takeF_kind {xs ys : List Int} {c' : Cmd} (h : takeF zeroCmd xs (.num 0 0 0) = some (c', ys)) : c'.recs = [] := by
  unfold takeF at h
  split at h
  · cases h
  · cases h; rfl
/-- What is left of a reading: the fields still to come. -/
def readOn (fs : List Fld) (c : Cmd) (xs : List Int) : Option Cmd := (readFs fs c xs).bind whole
theorem readOn_cons (f : Fld) (fs : List Fld) (c : Cmd) (xs : List Int) : readOn (f :: fs) c xs = (takeF c xs f).bind fun p => readOn fs p.1 p.2 := by
  show ((takeF c xs f).bind fun p => readFs fs p.1 p.2).bind whole = _
  cases takeF c xs f <;> rfl
theorem cmdR_on (xs : List Int) : cmdR xs = (takeF zeroCmd xs (.num 0 0 0)).bind fun p => readOn (fieldsK p.1.kind) p.1 p.2 := rfl
theorem readOn_nil (c : Cmd) (xs : List Int) : readOn [] c xs = if xs = [] ∧ c.right then some c else none := rfl
end Go.Proofs.YtiglignfjegilaaDoor
