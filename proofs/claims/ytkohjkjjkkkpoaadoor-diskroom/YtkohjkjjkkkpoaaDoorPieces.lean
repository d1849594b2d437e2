/- Words for lists of slices of bytes: one that lies somewhere, one that the call itself made, append of one more. No statement of the program is proved here. -/
import Derived.Test.YtkohjkjjkkkpoaaDoorBytes
import Derived.Test.YtkohjkjjkkkpoaaDoorCame
namespace Go.Proofs.YtkohjkjjkkkpoaaDoor
open Go.RowKit

/-- Pieces lie one behind the other from A on, each a slice of bytes. -/
def PiecesLie (w : World) (A : Option Addr) (ps : List (List Int)) : Prop :=
  ps ≠ [] → ∃ b off, A = some ⟨b, off, none⟩ ∧ b < w.heap.size ∧ ∀ i (h : i < ps.length), ∃ Ai ci, w.cell? ⟨b, off + i, none⟩ = some (.slice Ai ps[i].length ci) ∧ Lies .u8 w w.heap.size Ai ps[i] ∧ ps[i].length ≤ ci ∧ ci ≤ maxLen ∧ (Ai = none → ci = 0)
theorem PiecesLie.below {w w' : World} {A : Option Addr} {ps : List (List Int)} (h : PiecesLie w A ps) (hb : Below w.heap.size w w') : PiecesLie w' A ps := fun hn => by
  obtain ⟨b, off, he, hlt, hc⟩ := h hn
  refine ⟨b, off, he, Nat.lt_of_lt_of_le hlt hb.size, fun i hi => ?_⟩
  obtain ⟨Ai, ci, h1, h2, h3⟩ := hc i hi
  exact ⟨Ai, ci, (hb.cell hlt).trans h1, (h2.below hb).more hb.size, h3⟩
theorem PiecesLie.take {w : World} {A : Option Addr} {ps : List (List Int)} (h : PiecesLie w A ps) (n : Nat) : PiecesLie w A (ps.take n) := fun hn => by
  obtain ⟨b, off, he, hlt, hc⟩ := h (by rintro rfl; simp at hn)
  refine ⟨b, off, he, hlt, fun i hi => ?_⟩
  have hi' : i < ps.length := by simp at hi; omega
  have e : (ps.take n)[i] = ps[i] := by simp
  rw [e]
  exact hc i hi'

/-- The values vs are slices of bytes that hold the pieces ps, each in a row of the call's own. -/
def Held (w : World) (base : Nat) (vs : List Value) (ps : List (List Int)) : Prop := vs.length = ps.length ∧ ∀ i (h : i < vs.length) (h' : i < ps.length), Own .u8 5 w base vs[i] ps[i]
/-- The slice value v holds pieces in a row of the call's own. -/
def OwnP (w : World) (base : Nat) (v : Value) (ps : List (List Int)) : Prop := ∃ vs, w.ownsRow base 31 1 v ps.length vs ∧ Held w base vs ps

theorem Held.map {w w' : World} {base base' : Nat} {vs : List Value} {ps : List (List Int)} (h : Held w base vs ps) (hk : ∀ v p, Own .u8 5 w base v p → Own .u8 5 w' base' v p) : Held w' base' vs ps := ⟨h.1, fun i h1 h2 => hk _ _ (h.2 i h1 h2)⟩
theorem Held.snoc {w : World} {base : Nat} {vs : List Value} {ps : List (List Int)} {v : Value} {p : List Int} (h : Held w base vs ps) (hv : Own .u8 5 w base v p) : Held w base (vs ++ [v]) (ps ++ [p]) := by
  refine ⟨by simp [h.1], fun i h1 h2 => ?_⟩
  by_cases hi : i < vs.length
  · rw [List.getElem_append_left hi, List.getElem_append_left (by rw [← h.1]; exact hi)]
    exact h.2 i hi _
  · obtain rfl : i = vs.length := by simp at h1; omega
    rw [List.getElem_append_right (by omega), List.getElem_append_right (by rw [h.1]; exact Nat.le_refl _)]
    simpa using hv
theorem OwnP.nil {w : World} {base : Nat} : OwnP w base (.slice none 0 0) [] := ⟨[], World.ownsRow_nil w base _ 1, rfl, fun i h => by simp at h⟩
theorem OwnP.below {w w' : World} {base : Nat} {v : Value} {ps : List (List Int)} (h : OwnP w base v ps) (hb : Below w.heap.size w w') : OwnP w' base v ps := by
  obtain ⟨vs, h1, h2⟩ := h
  refine ⟨vs, World.ownsRow.kept (row := none) h1 ⟨hb.os, hb.tape, hb.output, hb.size, fun i hi _ => hb.block i hi⟩ (by cases v.ownBlock <;> simp), h2.map fun _ _ h => h.below hb⟩
/-- The slice as a value, and what it holds. -/
theorem OwnP.parts {w : World} {base : Nat} {v : Value} {ps : List (List Int)} (h : OwnP w base v ps) : ∃ A c, v = .slice A ps.length c ∧ ps.length ≤ c ∧ c ≤ maxLen ∧ PiecesLie w A ps := by
  obtain ⟨vs, h1, h2⟩ := h
  have h1' := h1
  rcases h1.2 with ⟨rfl, h0⟩ | ⟨g, cap, cur, rfl, hbg, hg, hc, hm, _⟩
  · have : ps = [] := List.eq_nil_of_length_eq_zero h0
    subst this
    exact ⟨none, 0, rfl, by simp, by simp [maxLen], fun h => absurd rfl h⟩
  · refine ⟨_, _, rfl, hc, hm, fun _ => ⟨g, 0, rfl, (Array.getElem?_eq_some_iff.1 hg).1, fun i hi => ?_⟩⟩
    have hi' : i < vs.length := by rw [h2.1]; exact hi
    have hcell := World.ownsRow.cells (g := g) h1' rfl i vs[i] (by simp [hi'])
    rw [add_lit] at hcell
    have hpv := h2.2 i hi' hi
    obtain ⟨Ai, ci, hv, hc1, hm1, hl⟩ := hpv.parts
    refine ⟨Ai, ci, by rw [hcell, hv], hl, hc1, hm1, fun h0 => ?_⟩
    subst h0
    rw [hv] at hpv
    rcases hpv.2 with ⟨h3, _⟩ | ⟨g', cap', cur', h3, _⟩
    · injection h3
    · cases h3
/-- Bytes of the call's own and a row of slices are two blocks. -/
theorem Own.apart {w : World} {b1 b2 n : Nat} {u v : Value} {xs : List Int} {vs : List Value} (h : Own .u8 5 w b1 u xs) (hv : w.ownsRow b2 31 1 v n vs) : u.ownBlock = none ∨ u.ownBlock ≠ v.ownBlock := by
  rcases h.2 with ⟨rfl, _⟩ | ⟨g, cap, cur, rfl, _, hg, _⟩
  · exact .inl rfl
  · refine .inr fun he => ?_
    rcases hv.2 with ⟨rfl, _⟩ | ⟨g', cap', cur', rfl, _, hg', _⟩
    · simp [Value.ownBlock] at he
    · simp [Value.ownBlock] at he
      subst he
      rw [hg] at hg'
      simp at hg'

theorem slice_info : (Tryd.prog.info? 31).map (fun i => (i.zero, i.size)) = some (some (.slice none 0 0), 1) := by kernel_rfl
theorem slice_bytes : (Tryd.prog.info? 31).map (fun i => decide (i.bytes ≤ 64)) = some true := by kernel_rfl

section
variable {w : World} {ops : Array Oper} {rest : List Oper} {o : Oper} {a : Act} {Q : Exit → Act → World → Prop}
/-- append of one piece, whose slice the walk has laid in the newest block. -/
theorem wpList_append_piece (hgd : o.guard = none) (s x : Operand) (ho : o.op = .call { callee := .builtin .append, args := #[s, x], argTypes := #[45, 45] })
    (base : Nat) (v : Value) (ps : List (List Int)) (hs : a.eval s = v) (W : World) (pv : Value) (p : List Int) (hw : w = W.alloc (.cells #[pv] 31)) (hown : OwnP W base v ps) (hp : Own .u8 5 W base pv p) (hx : a.eval x = .slice (some ⟨W.heap.size, 0, none⟩) 1 1)
    (hb : ps.length + 1 ≤ 1099511627776) (hbase : base ≤ W.heap.size)
    (h : ∀ v' w', OwnP w' base v' (ps ++ [p]) → Below base W w' → wpList Tryd.prog ops Q rest (a.put o.dst v') w') : wpList Tryd.prog ops Q (o :: rest) a w := by
  subst hw
  obtain ⟨i, hi, hi2⟩ := Option.map_eq_some_iff.1 slice_info
  obtain ⟨i', hi', hi3⟩ := Option.map_eq_some_iff.1 slice_bytes
  obtain rfl := Option.some.inj (hi.symm.trans hi')
  simp only [Prod.mk.injEq] at hi2
  have hby := of_decide_eq_true hi3
  obtain ⟨vs, h1, h2⟩ := hown
  have h1' : (W.alloc (.cells #[pv] 31)).ownsRow base 31 1 v ps.length vs := World.ownsRow.alloc h1 _
  have hone : pv.oneCell' = true := by obtain ⟨A, c, rfl, _⟩ := hp.form; rfl
  obtain ⟨v', w', hrun, h3, h4, _, _⟩ := run_append_own_at (P := Tryd.prog) (W.alloc (.cells #[pv] 31)) base 45 o.type 31 i _ 1 i.bytes Tryd.underlying45 hi hi2.1 hi2.2 rfl rfl (by omega) v ps.length vs h1' ⟨W.heap.size, 0, none⟩ 1 1 [pv] rfl
    (fun j u hu => by
      rw [add_lit, Nat.zero_add]
      have hj : j = 0 := by
        rcases Nat.lt_or_ge j 1 with h | h
        · omega
        · rw [List.getElem?_eq_none (by simpa using h)] at hu; cases hu
      subst hj
      simp only [List.getElem?_cons_zero, Option.some.injEq] at hu
      subst hu
      simp)
    (fun u hu => by simp only [List.mem_singleton] at hu; subst hu; exact hone)
    (by simp only [maxLen]; omega) (by have := Nat.mul_le_mul_left (ps.length + 1) hby; omega) (by simp; omega)
  have hkeep : ∀ u q, Own .u8 5 W base u q → Own .u8 5 w' base u q := fun u q hq => (hq.alloc _).kept h4 ((hq.alloc (.cells #[pv] 31)).apart h1')
  have hfin : OwnP w' base v' (ps ++ [p]) := ⟨vs ++ [pv], by rw [List.length_append]; exact h3, (h2.map hkeep).snoc (hkeep _ _ hp)⟩
  have hbel : Below base (W.alloc (.cells #[pv] 31)) w' := (Below.refl _ _).grown h4 (by simp; omega) fun g hg' => (World.ownsRow.lt h1' g hg').1
  refine wpList_plain hgd fun K hK => ?_
  unfold Oper.wp execOp
  simp only [ho, resolve, invoke, builtin, Sem.run_bind, Sem.run_pure, Result.andThen_ok, List.map_toArray, List.map_cons, List.map_nil, hs, hx, hrun]
  exact hK _ _ (h v' w' hfin (((Below.refl _ _).alloc hbase _).trans hbel))
end
end Go.Proofs.YtkohjkjjkkkpoaaDoor
