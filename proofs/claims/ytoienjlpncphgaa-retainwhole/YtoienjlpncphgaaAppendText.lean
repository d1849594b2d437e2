/- append of a text's bytes onto bytes of the call's own; a record in a block. No statement of the program is proved here. -/
import Derived.Test.YtoienjlpncphgaaRecBase
import Derived.Lib.AppendStr
namespace Go.Proofs.Ytoienjlpncphgaa
open Go.RowKit

theorem strCells_ints (s : ByteArray) : Lib.strCells s = (ints s).map (Value.int .u8) := by
  rw [Lib.strCells, ints, List.map_map]
  rfl

section
variable {P : Program} {w : World} {ops : Array Oper} {rest : List Oper} {o : Oper} {a : Act} {Q : Exit → Act → World → Prop} {K : Act → World → Prop}

theorem run_append_text (base : Nat) (t u ty e : TypeId) (i : TypeInfo) (ht : P.underlying t = some (.slice e)) (hu : P.underlying u = some .string) (hi : P.info? e = some i) (hz : i.zero = some (.int .u8 0))
    (hsize : i.size = 1) (hby : i.bytes = 1) (v : Value) (xs : List Int) (hown : Own .u8 e w base v xs) (s : ByteArray) (hb : xs.length + s.size ≤ 1099511627776) (hbase : base ≤ w.heap.size) :
    ∃ v' w', (Builtin.append_ #[t, u] ty #[v, .string s]).run P w = .ok v' w' ∧ Own .u8 e w' base v' (xs ++ ints s) ∧ w.grownBy w' v.ownBlock := by
  obtain ⟨v', w', hrun, h2, h3, _⟩ := Lib.run_append_own_string (P := P) w base t u ty e i ht hu hi hz hsize hby v xs.length (xs.map (Value.int .u8)) hown s (by simp only [maxLen]; omega) (by omega) hbase
  refine ⟨v', w', hrun, ?_, h3⟩
  unfold Own
  rw [List.length_append, ints_length, List.map_append, ← strCells_ints]
  exact h2

theorem wp_append_text (x y : Operand) (t u : TypeId) (ho : o.op = .call { callee := .builtin .append, args := #[x, y], argTypes := #[t, u] })
    (base : Nat) (e : TypeId) (i : TypeInfo) (ht : P.underlying t = some (.slice e)) (hu : P.underlying u = some .string) (hi : P.info? e = some i) (hz : i.zero = some (.int .u8 0))
    (hsize : i.size = 1) (hby : i.bytes = 1) (v : Value) (xs : List Int) (hs : a.eval x = v) (hown : Own .u8 e w base v xs) (s : ByteArray) (hx : a.eval y = .string s) (hb : xs.length + s.size ≤ 1099511627776) (hbase : base ≤ w.heap.size)
    (h : ∀ v' w', Own .u8 e w' base v' (xs ++ ints s) → w.grownBy w' v.ownBlock → K (a.put o.dst v') w') : o.wp P a w K Q := by
  obtain ⟨v', w', hrun, h2, h3⟩ := run_append_text (P := P) (w := w) base t u o.type e i ht hu hi hz hsize hby v xs hown s hb hbase
  unfold Oper.wp execOp
  simp only [ho, resolve, invoke, builtin, Sem.run_bind, Sem.run_pure, Result.andThen_ok, List.map_toArray, List.map_cons, List.map_nil, hs, hx, hrun]
  exact h v' w' h2 h3

theorem wp_append_ints (x y : Operand) (t : TypeId) (ho : o.op = .call { callee := .builtin .append, args := #[x, y], argTypes := #[t, t] })
    (base : Nat) (e : TypeId) (k : IntKind) (i : TypeInfo) (bytes : Nat) (ht : P.underlying t = some (.slice e)) (hi : P.info? e = some i) (hz : i.zero = some (.int k 0))
    (hsize : i.size = 1) (hby : i.bytes = bytes) (hbs : bytes ≤ 64)
    (v : Value) (xs : List Int) (hs : a.eval x = v) (hown : Own k e w base v xs) (B : Nat) (A : Option Addr) (m c : Nat) (ys : List Int) (hx : a.eval y = .slice A m c) (hm : ys.length = m) (hmc : m ≤ c) (hl : Lies k w B A ys)
    (hb : xs.length + ys.length ≤ 1099511627776) (hbase : base ≤ w.heap.size) (hA : A = none → c = 0)
    (h : ∀ v' w', Own k e w' base v' (xs ++ ys) → w.grownBy w' v.ownBlock → K (a.put o.dst v') w') : o.wp P a w K Q := by
  obtain ⟨v', w', hrun, h2, h3, _⟩ := run_append_ints (P := P) (w := w) t o.type base e k i bytes ht hi hz hsize hby hbs v xs hown B A m c ys hm hmc hl hb hbase hA
  unfold Oper.wp execOp
  simp only [ho, resolve, invoke, builtin, Sem.run_bind, Sem.run_pure, Result.andThen_ok, List.map_toArray, List.map_cons, List.map_nil, hs, hx, hrun]
  exact h v' w' h2 h3

theorem wpList_append_text (hgd : Region.wanted o (yielded ops a.tmps) = true) (x y : Operand) (t u : TypeId) (ho : o.op = .call { callee := .builtin .append, args := #[x, y], argTypes := #[t, u] })
    (base : Nat) (e : TypeId) (i : TypeInfo) (ht : P.underlying t = some (.slice e)) (hu : P.underlying u = some .string) (hi : P.info? e = some i) (hz : i.zero = some (.int .u8 0))
    (hsize : i.size = 1) (hby : i.bytes = 1) (v : Value) (xs : List Int) (hs : a.eval x = v) (hown : Own .u8 e w base v xs) (s : ByteArray) (hx : a.eval y = .string s) (hb : xs.length + s.size ≤ 1099511627776) (hbase : base ≤ w.heap.size)
    (h : ∀ v' w', Own .u8 e w' base v' (xs ++ ints s) → w.grownBy w' v.ownBlock → wpList P ops Q rest (a.put o.dst v') w') : wpList P ops Q (o :: rest) a w :=
  wpList_wanted hgd fun _ hK => wp_append_text x y t u ho base e i ht hu hi hz hsize hby v xs hs hown s hx hb hbase fun v' w' h1 h2 => hK _ _ (h v' w' h1 h2)
end

theorem Own.parts2 {k : IntKind} {e : TypeId} {w : World} {base : Nat} {v : Value} {xs : List Int} (h : Own k e w base v xs) :
    ∃ A c, v = .slice A xs.length c ∧ xs.length ≤ c ∧ c ≤ maxLen ∧ Lies k w w.heap.size A xs ∧ (A = none → c = 0) := by
  have h' := h
  rcases h.2 with ⟨rfl, h0⟩ | ⟨g, cap, cur, rfl, _, _, hc, hm, _⟩
  · exact ⟨none, 0, by rw [h0], by omega, by simp [maxLen], h'.lies, fun _ => rfl⟩
  · exact ⟨_, _, rfl, hc, hm, h'.lies, by simp⟩

/-- The record lies in block g. -/
structure Boxed (w : World) (g : Nat) (r : Rec) : Prop where
  lt : g < w.heap.size
  c0 : w.cell? ⟨g, 0, none⟩ = some (.int .i64 r.off)
  c1 : w.cell? ⟨g, 1, none⟩ = some (.int .i64 r.time)
  c2 : w.cell? ⟨g, 2, none⟩ = some (.string r.key)
  c3 : w.cell? ⟨g, 3, none⟩ = some (.string r.val)
  c4 : w.cell? ⟨g, 4, none⟩ = some (.bool r.dead)
theorem Boxed.keep {w w' : World} {g : Nat} {r : Rec} (h : Boxed w g r) (hk : w'.heap[g]? = w.heap[g]?) (hs : w.heap.size ≤ w'.heap.size) : Boxed w' g r := by
  have e : ∀ j, w'.cell? ⟨g, j, none⟩ = w.cell? ⟨g, j, none⟩ := fun j => by simp only [World.cell?, hk]
  exact ⟨by have := h.lt; omega, (e 0).trans h.c0, (e 1).trans h.c1, (e 2).trans h.c2, (e 3).trans h.c3, (e 4).trans h.c4⟩
theorem Boxed.below {w w' : World} {g B : Nat} {r : Rec} (h : Boxed w g r) (hb : Below B w w') (hg : g < B) : Boxed w' g r := h.keep (hb.block g hg) hb.size
theorem Boxed.grown {w w' : World} {g : Nat} {row : Option Nat} {r : Rec} (h : Boxed w g r) (hb : w.grownBy w' row) (hg : row ≠ some g) : Boxed w' g r := h.keep (hb.block g h.lt (fun e => hg e.symm)) hb.size
theorem Boxed.new (w : World) (r : Rec) (t : TypeId) : Boxed (w.alloc (.cells #[.int .i64 r.off, .int .i64 r.time, .string r.key, .string r.val, .bool r.dead] t)) w.heap.size r := by
  refine ⟨by simp, ?_, ?_, ?_, ?_, ?_⟩ <;> simp
end Go.Proofs.Ytoienjlpncphgaa
