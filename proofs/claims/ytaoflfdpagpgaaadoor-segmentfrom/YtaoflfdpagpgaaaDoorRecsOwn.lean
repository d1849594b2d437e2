/- A list of records that the call itself made: what it holds, and append of one more. No statement of the program is proved here. -/
import Derived.Test.YtaoflfdpagpgaaaDoorRecsCame
namespace Go.Proofs.YtaoflfdpagpgaaaDoor
open Go.RowKit

def recCells (r : Rec) : List Value := [.int .i64 r.off, .int .i64 r.time, .string r.key, .string r.val, .bool r.dead]
def recsCells (rs : List Rec) : List Value := rs.flatMap recCells
theorem recsCells_length (rs : List Rec) : (recsCells rs).length = rs.length * 5 := by
  induction rs with
  | nil => rfl
  | cons a t ih =>
    unfold recsCells at ih ⊢
    rw [List.flatMap_cons, List.length_append, ih, List.length_cons]
    show 5 + t.length * 5 = (t.length + 1) * 5
    omega
theorem recsCells_at : ∀ (rs : List Rec) (i j : Nat) (hi : i < rs.length), j < 5 → (recsCells rs)[i * 5 + j]? = (recCells rs[i])[j]?
  | a :: t, 0, j, _, hj => by
    unfold recsCells
    rw [List.flatMap_cons, Nat.zero_mul, Nat.zero_add, List.getElem?_append_left (by exact hj)]
    rfl
  | a :: t, i + 1, j, hi, hj => by
    have ih := recsCells_at t i j (by simpa using hi) hj
    unfold recsCells at ih ⊢
    rw [List.flatMap_cons, List.getElem?_append_right (by show 5 ≤ _; omega)]
    rw [show (i + 1) * 5 + j - (recCells a).length = i * 5 + j by show (i + 1) * 5 + j - 5 = _; omega, ih]
    rfl
theorem recCells_one (r : Rec) : ∀ u ∈ recCells r, u.oneCell' = true := by
  intro u hu
  simp only [recCells, List.mem_cons, List.not_mem_nil, or_false] at hu
  rcases hu with rfl | rfl | rfl | rfl | rfl <;> rfl

/-- The slice value v holds the records rs in a row of the call's own. -/
def OwnR (w : World) (base : Nat) (v : Value) (rs : List Rec) : Prop := w.ownsRow base 38 5 v rs.length (recsCells rs)
theorem OwnR.nil {w : World} {base : Nat} : OwnR w base (.slice none 0 0) [] := World.ownsRow_nil w base _ 5
theorem OwnR.kept {w w' : World} {base : Nat} {v : Value} {rs : List Rec} {row : Option Nat} (h : OwnR w base v rs) (hg : w.grownBy w' row) (hne : v.ownBlock = none ∨ v.ownBlock ≠ row) : OwnR w' base v rs := World.ownsRow.kept h hg hne
theorem OwnR.below {w w' : World} {base : Nat} {v : Value} {rs : List Rec} (h : OwnR w base v rs) (hb : Below w.heap.size w w') : OwnR w' base v rs :=
  h.kept (row := none) ⟨hb.os, hb.tape, hb.output, hb.size, fun i hi _ => hb.block i hi⟩ (by cases v.ownBlock <;> simp)
theorem OwnR.alloc {w : World} {base : Nat} {v : Value} {rs : List Rec} (h : OwnR w base v rs) (o : Obj) : OwnR (w.alloc o) base v rs := World.ownsRow.alloc h o
theorem OwnR.lt {w : World} {base : Nat} {v : Value} {rs : List Rec} (h : OwnR w base v rs) : ∀ g, v.ownBlock = some g → base ≤ g ∧ g < w.heap.size := World.ownsRow.lt h
theorem OwnR.grown_below {w w' : World} {base : Nat} {v : Value} {rs : List Rec} (h : OwnR w base v rs) (hg : w.grownBy w' v.ownBlock) (hb : base ≤ w.heap.size) : Below base w w' :=
  (Below.refl _ _).grown hg hb fun g hg' => (h.lt g hg').1
/-- The slice as a value, and what it holds. -/
theorem OwnR.parts {w : World} {base : Nat} {v : Value} {rs : List Rec} (h : OwnR w base v rs) (hw : ∀ r ∈ rs, r.wf) :
    ∃ A c, v = .slice A rs.length c ∧ RecsLie w A rs c ∧ (A = none → c = 0) := by
  have h' := h
  rcases h.2 with ⟨rfl, h0⟩ | ⟨g, cap, cur, rfl, hbg, hg, hc, hm, _⟩
  · have : rs = [] := List.eq_nil_of_length_eq_zero h0
    subst this
    exact ⟨none, 0, rfl, ⟨fun h => absurd rfl h, by simp, by simp [maxLen], fun _ h => by cases h⟩, fun _ => rfl⟩
  · refine ⟨_, _, rfl, ⟨fun _ => ⟨g, 0, rfl, (Array.getElem?_eq_some_iff.1 hg).1, fun i hi => ?_⟩, hc, hm, hw⟩, by simp⟩
    have f : ∀ j u, j < 5 → (recCells rs[i])[j]? = some u → w.cell? ⟨g, 0 + i * 5 + j, none⟩ = some u := fun j u hj hu => by
      have := World.ownsRow.cells (g := g) h' rfl (i * 5 + j) u (by rw [recsCells_at rs i j hi hj, hu])
      rw [add_lit] at this
      rw [Nat.add_assoc]
      exact this
    exact ⟨f 0 _ (by omega) rfl, f 1 _ (by omega) rfl, f 2 _ (by omega) rfl, f 3 _ (by omega) rfl, f 4 _ (by omega) rfl⟩

/-- Bytes that lie in another block than the one that was written lie there still. -/
theorem Lies.grown {k : IntKind} {w w' : World} {B : Nat} {A : Option Addr} {xs : List Int} {row : Option Nat} (h : Lies k w B A xs) (hg : w.grownBy w' row) (hB : B ≤ w.heap.size) (hne : ∀ x, A = some x → row ≠ some x.block) : Lies k w' B A xs := fun hn => by
  obtain ⟨b, off, rfl, hb, hc⟩ := h hn
  have hblk := hg.block b (by omega) (fun e => hne _ rfl e.symm)
  refine ⟨b, off, rfl, hb, fun j hj => ?_⟩
  rw [← hc j hj]
  simp only [World.cell?, hblk]

theorem rec_info : (Tryd.prog.info? 38).map (fun i => (i.zero, i.size)) = some (some (.agg #[.int .i64 0, .int .i64 0, .string ⟨#[]⟩, .string ⟨#[]⟩, .bool false]), 5) := by kernel_rfl
theorem rec_bytes : (Tryd.prog.info? 38).map (fun i => decide (i.bytes ≤ 64)) = some true := by kernel_rfl

section
variable {w : World} {ops : Array Oper} {rest : List Oper} {o : Oper} {a : Act} {Q : Exit → Act → World → Prop}
/-- append of one record, which the walk has laid in the newest block. -/
theorem wpList_append_rec (hgd : o.guard = none) (s x : Operand) (ho : o.op = .call { callee := .builtin .append, args := #[s, x], argTypes := #[22, 22] })
    (base : Nat) (v : Value) (rs : List Rec) (hs : a.eval s = v) (W : World) (r : Rec) (hw : w = W.alloc (.cells #[.int .i64 r.off, .int .i64 r.time, .string r.key, .string r.val, .bool r.dead] 38)) (hown : OwnR W base v rs) (hx : a.eval x = .slice (some ⟨W.heap.size, 0, none⟩) 1 1)
    (hb : rs.length + 1 ≤ 1099511627776) (hbase : base ≤ W.heap.size)
    (h : ∀ v' w', OwnR w' base v' (rs ++ [r]) → Below base W w' → w.grownBy w' v.ownBlock → (v'.ownBlock = v.ownBlock ∨ v'.ownBlock = some w.heap.size) → wpList Tryd.prog ops Q rest (a.put o.dst v') w') : wpList Tryd.prog ops Q (o :: rest) a w := by
  subst hw
  obtain ⟨i, hi, hi2⟩ := Option.map_eq_some_iff.1 rec_info
  obtain ⟨i', hi', hi3⟩ := Option.map_eq_some_iff.1 rec_bytes
  obtain rfl := Option.some.inj (hi.symm.trans hi')
  simp only [Prod.mk.injEq] at hi2
  have hby := of_decide_eq_true hi3
  have hown' : (W.alloc (.cells #[.int .i64 r.off, .int .i64 r.time, .string r.key, .string r.val, .bool r.dead] 38)).ownsRow base 38 5 v rs.length (recsCells rs) := World.ownsRow.alloc hown _
  obtain ⟨v', w', hrun, h2, h3, _, h5⟩ := run_append_own_at (P := Tryd.prog) (W.alloc (.cells #[.int .i64 r.off, .int .i64 r.time, .string r.key, .string r.val, .bool r.dead] 38)) base 22 o.type 38 i _ 5 i.bytes Tryd.underlying22 hi hi2.1 hi2.2 rfl rfl (by omega) v rs.length (recsCells rs) hown' ⟨W.heap.size, 0, none⟩ 1 1 (recCells r) rfl
    (fun j u hu => by
      rw [add_lit, Nat.zero_add]
      have hj : j = 0 ∨ j = 1 ∨ j = 2 ∨ j = 3 ∨ j = 4 := by
        have : j < 5 := by
          rcases Nat.lt_or_ge j 5 with h | h
          · exact h
          · rw [List.getElem?_eq_none (by simpa [recCells] using h)] at hu; cases hu
        omega
      rcases hj with rfl | rfl | rfl | rfl | rfl <;> (simp only [recCells, List.getElem?_cons_zero, List.getElem?_cons_succ, Option.some.injEq] at hu; subst hu; simp)) (recCells_one r)
    (by simp only [maxLen]; omega) (by have := Nat.mul_le_mul_left (rs.length + 1) hby; omega) (by simp; omega)
  have hfin : OwnR w' base v' (rs ++ [r]) := by
    unfold OwnR
    rw [List.length_append]
    have e : recsCells (rs ++ [r]) = recsCells rs ++ recCells r := by
      unfold recsCells
      rw [List.flatMap_append]
      simp
    rw [e]
    exact h2
  have hbel := (hown.alloc (.cells #[.int .i64 r.off, .int .i64 r.time, .string r.key, .string r.val, .bool r.dead] 38)).grown_below h3 (by simp; omega)
  refine wpList_plain hgd fun K hK => ?_
  unfold Oper.wp execOp
  simp only [ho, resolve, invoke, builtin, Sem.run_bind, Sem.run_pure, Result.andThen_ok, List.map_toArray, List.map_cons, List.map_nil, hs, hx, hrun]
  exact hK _ _ (h v' w' hfin (((Below.refl _ _).alloc hbase _).trans hbel) h3 h5)
end
end Go.Proofs.YtaoflfdpagpgaaaDoor
