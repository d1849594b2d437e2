/- From an argument as a row reads it to the words of my own: a record that came in, and a list of them. · From an argument as a row reads it to the words of my own: a list of records that came in. · A list of records that the call itself made: what it holds, and append of one more. No statement of the program is proved here. · What the contracts of segments' functions share. -/
import Derived.Test.YtoienjlpncphgaaRecWords
import Derived.ChangeArms
import Derived.OpenShut
import Derived.Deep.Slices
import Derived.Test.YtoienjlpncphgaaCame
import Derived.ChangeSame
import Derived.Test.YtoienjlpncphgaaNums
namespace Go.Proofs.Ytoienjlpncphgaa
open Go.RowKit Go.ChangeShapes Go.WideShapes

section
variable {H : Type} {enc : TypeId × Value → H} {w : World} {base : Nat} {spare : Nat → Bool} {held : Bool}

/-- The cells of a record. -/
theorem rec_cells {fuel : Nat} {cs : List Value} {x : DataW H × List MemPlace} (h : DataW.trod enc Try.prog w base spare held fuel 54 cs = some x) :
    ∃ r : Rec, cs = [.int .i64 r.off, .int .i64 r.time, .string r.key, .string r.val, .bool r.dead] ∧ r.wf := by
  obtain ⟨ys, n, _, _, hlen, hyl, hf⟩ := DataW.trod_struct Try.underlying54 h
  have hc5 : Try.prog.cellsOf 54 = 5 := by kernel_rfl
  rw [hc5] at hlen
  have hy5 : ys.length = 5 := hyl
  obtain ⟨v0, v1, v2, v3, v4, rfl⟩ : ∃ v0 v1 v2 v3 v4, cs = [v0, v1, v2, v3, v4] := by
    match cs, hlen with
    | [v0, v1, v2, v3, v4], _ => exact ⟨v0, v1, v2, v3, v4, rfl⟩
  have c3 : Try.prog.cellsOf 3 = 1 := by kernel_rfl
  have c9 : Try.prog.cellsOf 9 = 1 := by kernel_rfl
  have c4 : Try.prog.cellsOf 4 = 1 := by kernel_rfl
  have at_ : ∀ (j : Nat) (t : TypeId) (v : Value), j < 5 → (([v0, v1, v2, v3, v4] : List Value).drop j).take 1 = [v] → DataW.trod enc Try.prog w base spare held n t ((([v0, v1, v2, v3, v4] : List Value).drop j).take 1) = ys[j]? → ∃ y, DataW.trod enc Try.prog w base spare held n t [v] = some y := by
    intro j t v hj hv h
    rw [hv, List.getElem?_eq_getElem (by omega)] at h
    exact ⟨_, h⟩
  have g0 : DataW.trod enc Try.prog w base spare held n 3 ((([v0, v1, v2, v3, v4] : List Value).drop 0).take (Try.prog.cellsOf 3)) = ys[0]? := hf 0 _ rfl
  rw [c3] at g0
  have g1 : DataW.trod enc Try.prog w base spare held n 3 ((([v0, v1, v2, v3, v4] : List Value).drop 1).take (Try.prog.cellsOf 3)) = ys[1]? := hf 1 _ rfl
  rw [c3] at g1
  have g2 : DataW.trod enc Try.prog w base spare held n 9 ((([v0, v1, v2, v3, v4] : List Value).drop 2).take (Try.prog.cellsOf 9)) = ys[2]? := hf 2 _ rfl
  rw [c9] at g2
  have g3 : DataW.trod enc Try.prog w base spare held n 9 ((([v0, v1, v2, v3, v4] : List Value).drop 3).take (Try.prog.cellsOf 9)) = ys[3]? := hf 3 _ rfl
  rw [c9] at g3
  have g4 : DataW.trod enc Try.prog w base spare held n 4 ((([v0, v1, v2, v3, v4] : List Value).drop 4).take (Try.prog.cellsOf 4)) = ys[4]? := hf 4 _ rfl
  rw [c4] at g4
  obtain ⟨y0, k0⟩ := at_ 0 3 v0 (by omega) rfl g0
  obtain ⟨y1, k1⟩ := at_ 1 3 v1 (by omega) rfl g1
  obtain ⟨y2, k2⟩ := at_ 2 9 v2 (by omega) rfl g2
  obtain ⟨y3, k3⟩ := at_ 3 9 v3 (by omega) rfl g3
  obtain ⟨y4, k4⟩ := at_ 4 4 v4 (by omega) rfl g4
  obtain ⟨a, e0, _, w0⟩ := DataW.trod_int Try.underlying3 k0
  obtain ⟨b, e1, _, w1⟩ := DataW.trod_int Try.underlying3 k1
  obtain ⟨s, e2, _, w2⟩ := DataW.trod_string Try.underlying9 k2
  obtain ⟨t, e3, _, w3⟩ := DataW.trod_string Try.underlying9 k3
  obtain ⟨d, e4, _⟩ := DataW.trod_bool Try.underlying4 k4
  have b0 := bounds_i64 w0
  have b1 := bounds_i64 w1
  refine ⟨⟨a, b, s, t, d⟩, ?_, ⟨b0.1, b0.2, b1.1, b1.2, w2, w3⟩⟩
  simp only [List.cons.injEq, and_true] at e0 e1 e2 e3 e4
  rw [e0, e1, e2, e3, e4]

/-- A record that came in. -/
theorem rec_came {r0 : Reach} {b0 : Nat} {v : Value} {d : DataW H} {p : List MemPlace} (hv : Value.okWide Try.prog w r0 b0 54 v) (h : DataW.Trod enc Try.prog w base spare held 54 v d p) : ∃ r : Rec, v = recV r ∧ r.wf := by
  obtain ⟨cs, rfl, _⟩ := okWide_struct Try.underlying54 hv
  obtain ⟨fuel, hf⟩ := h
  obtain ⟨r, hr, hw⟩ := rec_cells hf
  refine ⟨r, ?_, hw⟩
  simp only [Value.cells] at hr
  unfold recV
  congr 1
  exact Array.toList_inj.1 hr
end
end Go.Proofs.Ytoienjlpncphgaa

namespace Go.Proofs.Ytoienjlpncphgaa
open Go.RowKit Go.ChangeShapes Go.WideShapes

/-- The record lies from cell o of block b on. -/
def RecAt (w : World) (b o : Nat) (r : Rec) : Prop :=
  w.cell? ⟨b, o, none⟩ = some (.int .i64 r.off) ∧ w.cell? ⟨b, o + 1, none⟩ = some (.int .i64 r.time) ∧ w.cell? ⟨b, o + 2, none⟩ = some (.string r.key) ∧ w.cell? ⟨b, o + 3, none⟩ = some (.string r.val) ∧ w.cell? ⟨b, o + 4, none⟩ = some (.bool r.dead)
theorem RecAt.keep {w w' : World} {b o : Nat} {r : Rec} (h : RecAt w b o r) (hk : ∀ j, w'.cell? ⟨b, j, none⟩ = w.cell? ⟨b, j, none⟩) : RecAt w' b o r :=
  ⟨(hk _).trans h.1, (hk _).trans h.2.1, (hk _).trans h.2.2.1, (hk _).trans h.2.2.2.1, (hk _).trans h.2.2.2.2⟩
/-- The records rs lie one behind the other from A on. -/
def RecsLie (w : World) (A : Option Addr) (rs : List Rec) (cap : Nat) : Prop :=
  (rs ≠ [] → ∃ b off, A = some ⟨b, off, none⟩ ∧ b < w.heap.size ∧ ∀ i (h : i < rs.length), RecAt w b (off + i * 5) rs[i]) ∧ rs.length ≤ cap ∧ cap ≤ maxLen ∧ ∀ r ∈ rs, r.wf
theorem RecsLie.below {w w' : World} {A : Option Addr} {rs : List Rec} {cap B : Nat} (h : RecsLie w A rs cap) (hb : Below B w w') (hB : w.heap.size ≤ B) : RecsLie w' A rs cap := by
  refine ⟨fun hn => ?_, h.2⟩
  obtain ⟨b, off, he, hlt, hc⟩ := h.1 hn
  have := hb.size
  exact ⟨b, off, he, by omega, fun i hi => (hc i hi).keep fun j => hb.cell (by show b < B; omega)⟩

theorem list_of (n : Nat) (Q : Nat → Rec → Prop) (h : ∀ i, i < n → ∃ r, Q i r) : ∃ rs : List Rec, rs.length = n ∧ ∀ i (hi : i < rs.length), Q i rs[i] := by
  induction n with
  | zero => exact ⟨[], rfl, fun i hi => by simp at hi⟩
  | succ n ih =>
    obtain ⟨rs, hl, hq⟩ := ih fun i hi => h i (by omega)
    obtain ⟨r, hr⟩ := h n (by omega)
    refine ⟨rs ++ [r], by simp [hl], fun i hi => ?_⟩
    by_cases hin : i < rs.length
    · rw [List.getElem_append_left hin]
      exact hq i hin
    · have : i = n := by simp at hi; omega
      subst this
      rw [List.getElem_append_right (by omega)]
      simpa [hl] using hr

section
variable {H : Type} {enc : TypeId × Value → H} {w : World} {base : Nat} {spare : Nat → Bool} {held : Bool}
/-- A list of records that came in, its value being a slice. -/
theorem recs_came_of {v : Value} {d : DataW H} {p : List MemPlace} (hv : ∃ a len cap, v = .slice a len cap) (h : DataW.Trod enc Try.prog w base spare held 28 v d p) :
    ∃ (A : Option Addr) (cap : Nat) (rs : List Rec), v = .slice A rs.length cap ∧ RecsLie w A rs cap := by
  obtain ⟨a, len, cap, rfl⟩ := hv
  obtain ⟨fuel, hf⟩ := h
  have hc5 : Try.prog.cellsOf 54 = 5 := by kernel_rfl
  rcases Go.Deep.open_slice Try.underlying28 hf with ⟨hcs, _⟩ | ⟨x, l, c, m, n, D, Pl, hcs, _, hl, hm, hmm, _, hi⟩
  · simp [Value.cells] at hcs
    obtain ⟨rfl, rfl, rfl⟩ := hcs
    exact ⟨none, 0, [], rfl, fun h => absurd rfl h, by simp, by simp [maxLen], fun _ h => by cases h⟩
  · simp [Value.cells] at hcs
    obtain ⟨rfl, rfl, rfl⟩ := hcs
    have hml : len ≤ m := by rw [hmm]; split <;> omega
    have each : ∀ i, i < len → ∃ r : Rec, (∀ j u, ([.int .i64 r.off, .int .i64 r.time, .string r.key, .string r.val, .bool r.dead] : List Value)[j]? = some u → w.cell? (x.add (i * 5 + j)) = some u) ∧ r.wf := by
      intro i hil
      obtain ⟨cs', hcell, ht⟩ := hi i (by omega)
      rw [hc5] at hcell
      obtain ⟨r, rfl, hw⟩ := rec_cells ht
      obtain ⟨_, _, hat⟩ := World.cells?_some hcell
      refine ⟨r, fun j u hu => ?_, hw⟩
      have hj : j < 5 := by
        rcases Nat.lt_or_ge j 5 with h | h
        · exact h
        · rw [List.getElem?_eq_none (by simpa using h)] at hu; cases hu
      have := hat j hj
      rw [Go.Deep.add_add] at this
      rw [this, hu]
    obtain ⟨rs, rfl, hq⟩ := list_of len _ each
    refine ⟨some x, cap, rs, rfl, fun hn => ?_, hl, hm, fun r hr => ?_⟩
    · have hp : 0 < rs.length := List.length_pos_iff.2 hn
      obtain ⟨b, off, spot⟩ := x
      have h0 := (hq 0 hp).1 0 _ rfl
      have hs : spot = none := by simpa [Addr.add] using World.cell?_spot h0
      subst hs
      refine ⟨b, off, rfl, ?_, fun i hi => ?_⟩
      · rw [add_lit] at h0
        exact cell_block_lt h0
      · have q := (hq i hi).1
        have f : ∀ j u, ([.int .i64 rs[i].off, .int .i64 rs[i].time, .string rs[i].key, .string rs[i].val, .bool rs[i].dead] : List Value)[j]? = some u → w.cell? ⟨b, off + i * 5 + j, none⟩ = some u := fun j u hu => by
          have := q j u hu
          rw [add_lit] at this
          rw [Nat.add_assoc]
          exact this
        exact ⟨f 0 _ rfl, f 1 _ rfl, f 2 _ rfl, f 3 _ rfl, f 4 _ rfl⟩
    · obtain ⟨i, hi, rfl⟩ := List.getElem_of_mem hr
      exact (hq i hi).2
/-- A list of records that came in. -/
theorem recs_came {r0 : Reach} {b0 : Nat} {v : Value} {d : DataW H} {p : List MemPlace} (hv : Value.okWide Try.prog w r0 b0 28 v) (h : DataW.Trod enc Try.prog w base spare held 28 v d p) :
    ∃ (A : Option Addr) (cap : Nat) (rs : List Rec), v = .slice A rs.length cap ∧ RecsLie w A rs cap := recs_came_of (okWide_slice Try.underlying28 hv) h
end
end Go.Proofs.Ytoienjlpncphgaa

namespace Go.Proofs.Ytoienjlpncphgaa
open Go.RowKit

def recCells (r : Rec) : List Value := [.int .i64 r.off, .int .i64 r.time, .string r.key, .string r.val, .bool r.dead]
def recsCells (rs : List Rec) : List Value := rs.flatMap recCells
theorem recsCells_length (rs : List Rec) : (recsCells rs).length = rs.length * 5 := by
  induction rs with
  | nil => rfl
  | cons a t ih =>
    unfold recsCells at ih ⊢
    rw [List.flatMap_cons, List.length_append, ih, List.length_cons]
    show 5 + t.length * 5 = (t.length + 1) * 5
    omega
theorem recsCells_at : ∀ (rs : List Rec) (i j : Nat) (hi : i < rs.length), j < 5 → (recsCells rs)[i * 5 + j]? = (recCells rs[i])[j]?
  | a :: t, 0, j, _, hj => by
    unfold recsCells
    rw [List.flatMap_cons, Nat.zero_mul, Nat.zero_add, List.getElem?_append_left (by exact hj)]
    rfl
  | a :: t, i + 1, j, hi, hj => by
    have ih := recsCells_at t i j (by simpa using hi) hj
    unfold recsCells at ih ⊢
    rw [List.flatMap_cons, List.getElem?_append_right (by show 5 ≤ _; omega)]
    rw [show (i + 1) * 5 + j - (recCells a).length = i * 5 + j by show (i + 1) * 5 + j - 5 = _; omega, ih]
    rfl
theorem recCells_one (r : Rec) : ∀ u ∈ recCells r, u.oneCell' = true := by
  intro u hu
  simp only [recCells, List.mem_cons, List.not_mem_nil, or_false] at hu
  rcases hu with rfl | rfl | rfl | rfl | rfl <;> rfl

/-- The slice value v holds the records rs in a row of the call's own. -/
def OwnR (w : World) (base : Nat) (v : Value) (rs : List Rec) : Prop := w.ownsRow base 54 5 v rs.length (recsCells rs)
theorem OwnR.nil {w : World} {base : Nat} : OwnR w base (.slice none 0 0) [] := World.ownsRow_nil w base _ 5
theorem OwnR.kept {w w' : World} {base : Nat} {v : Value} {rs : List Rec} {row : Option Nat} (h : OwnR w base v rs) (hg : w.grownBy w' row) (hne : v.ownBlock = none ∨ v.ownBlock ≠ row) : OwnR w' base v rs := World.ownsRow.kept h hg hne
theorem OwnR.below {w w' : World} {base : Nat} {v : Value} {rs : List Rec} (h : OwnR w base v rs) (hb : Below w.heap.size w w') : OwnR w' base v rs :=
  h.kept (row := none) ⟨hb.os, hb.tape, hb.output, hb.size, fun i hi _ => hb.block i hi⟩ (by cases v.ownBlock <;> simp)
theorem OwnR.alloc {w : World} {base : Nat} {v : Value} {rs : List Rec} (h : OwnR w base v rs) (o : Obj) : OwnR (w.alloc o) base v rs := World.ownsRow.alloc h o
theorem OwnR.lt {w : World} {base : Nat} {v : Value} {rs : List Rec} (h : OwnR w base v rs) : ∀ g, v.ownBlock = some g → base ≤ g ∧ g < w.heap.size := World.ownsRow.lt h
theorem OwnR.grown_below {w w' : World} {base : Nat} {v : Value} {rs : List Rec} (h : OwnR w base v rs) (hg : w.grownBy w' v.ownBlock) (hb : base ≤ w.heap.size) : Below base w w' :=
  (Below.refl _ _).grown hg hb fun g hg' => (h.lt g hg').1
/-- The slice as a value, and what it holds. -/
theorem OwnR.parts {w : World} {base : Nat} {v : Value} {rs : List Rec} (h : OwnR w base v rs) (hw : ∀ r ∈ rs, r.wf) :
    ∃ A c, v = .slice A rs.length c ∧ RecsLie w A rs c ∧ (A = none → c = 0) := by
  have h' := h
  rcases h.2 with ⟨rfl, h0⟩ | ⟨g, cap, cur, rfl, hbg, hg, hc, hm, _⟩
  · have : rs = [] := List.eq_nil_of_length_eq_zero h0
    subst this
    exact ⟨none, 0, rfl, ⟨fun h => absurd rfl h, by simp, by simp [maxLen], fun _ h => by cases h⟩, fun _ => rfl⟩
  · refine ⟨_, _, rfl, ⟨fun _ => ⟨g, 0, rfl, (Array.getElem?_eq_some_iff.1 hg).1, fun i hi => ?_⟩, hc, hm, hw⟩, by simp⟩
    have f : ∀ j u, j < 5 → (recCells rs[i])[j]? = some u → w.cell? ⟨g, 0 + i * 5 + j, none⟩ = some u := fun j u hj hu => by
      have := World.ownsRow.cells (g := g) h' rfl (i * 5 + j) u (by rw [recsCells_at rs i j hi hj, hu])
      rw [add_lit] at this
      rw [Nat.add_assoc]
      exact this
    exact ⟨f 0 _ (by omega) rfl, f 1 _ (by omega) rfl, f 2 _ (by omega) rfl, f 3 _ (by omega) rfl, f 4 _ (by omega) rfl⟩

/-- Bytes that lie in another block than the one that was written lie there still. -/
theorem Lies.grown {k : IntKind} {w w' : World} {B : Nat} {A : Option Addr} {xs : List Int} {row : Option Nat} (h : Lies k w B A xs) (hg : w.grownBy w' row) (hB : B ≤ w.heap.size) (hne : ∀ x, A = some x → row ≠ some x.block) : Lies k w' B A xs := fun hn => by
  obtain ⟨b, off, rfl, hb, hc⟩ := h hn
  have hblk := hg.block b (by omega) (fun e => hne _ rfl e.symm)
  refine ⟨b, off, rfl, hb, fun j hj => ?_⟩
  rw [← hc j hj]
  simp only [World.cell?, hblk]

theorem rec_info : (Try.prog.info? 54).map (fun i => (i.zero, i.size)) = some (some (.agg #[.int .i64 0, .int .i64 0, .string ⟨#[]⟩, .string ⟨#[]⟩, .bool false]), 5) := by kernel_rfl
theorem rec_bytes : (Try.prog.info? 54).map (fun i => decide (i.bytes ≤ 64)) = some true := by kernel_rfl

section
variable {w : World} {ops : Array Oper} {rest : List Oper} {o : Oper} {a : Act} {Q : Exit → Act → World → Prop}
/-- append of one record, which the walk has laid in the newest block. -/
theorem wpList_append_rec (hgd : o.guard = none) (s x : Operand) (ho : o.op = .call { callee := .builtin .append, args := #[s, x], argTypes := #[28, 28] })
    (base : Nat) (v : Value) (rs : List Rec) (hs : a.eval s = v) (W : World) (r : Rec) (hw : w = W.alloc (.cells #[.int .i64 r.off, .int .i64 r.time, .string r.key, .string r.val, .bool r.dead] 54)) (hown : OwnR W base v rs) (hx : a.eval x = .slice (some ⟨W.heap.size, 0, none⟩) 1 1)
    (hb : rs.length + 1 ≤ 1099511627776) (hbase : base ≤ W.heap.size)
    (h : ∀ v' w', OwnR w' base v' (rs ++ [r]) → Below base W w' → w.grownBy w' v.ownBlock → (v'.ownBlock = v.ownBlock ∨ v'.ownBlock = some w.heap.size) → wpList Try.prog ops Q rest (a.put o.dst v') w') : wpList Try.prog ops Q (o :: rest) a w := by
  subst hw
  obtain ⟨i, hi, hi2⟩ := Option.map_eq_some_iff.1 rec_info
  obtain ⟨i', hi', hi3⟩ := Option.map_eq_some_iff.1 rec_bytes
  obtain rfl := Option.some.inj (hi.symm.trans hi')
  simp only [Prod.mk.injEq] at hi2
  have hby := of_decide_eq_true hi3
  have hown' : (W.alloc (.cells #[.int .i64 r.off, .int .i64 r.time, .string r.key, .string r.val, .bool r.dead] 54)).ownsRow base 54 5 v rs.length (recsCells rs) := World.ownsRow.alloc hown _
  obtain ⟨v', w', hrun, h2, h3, _, h5⟩ := run_append_own_at (P := Try.prog) (W.alloc (.cells #[.int .i64 r.off, .int .i64 r.time, .string r.key, .string r.val, .bool r.dead] 54)) base 28 o.type 54 i _ 5 i.bytes Try.underlying28 hi hi2.1 hi2.2 rfl rfl (by omega) v rs.length (recsCells rs) hown' ⟨W.heap.size, 0, none⟩ 1 1 (recCells r) rfl
    (fun j u hu => by
      rw [add_lit, Nat.zero_add]
      have hj : j = 0 ∨ j = 1 ∨ j = 2 ∨ j = 3 ∨ j = 4 := by
        have : j < 5 := by
          rcases Nat.lt_or_ge j 5 with h | h
          · exact h
          · rw [List.getElem?_eq_none (by simpa [recCells] using h)] at hu; cases hu
        omega
      rcases hj with rfl | rfl | rfl | rfl | rfl <;> (simp only [recCells, List.getElem?_cons_zero, List.getElem?_cons_succ, Option.some.injEq] at hu; subst hu; simp)) (recCells_one r)
    (by simp only [maxLen]; omega) (by have := Nat.mul_le_mul_left (rs.length + 1) hby; omega) (by simp; omega)
  have hfin : OwnR w' base v' (rs ++ [r]) := by
    unfold OwnR
    rw [List.length_append]
    have e : recsCells (rs ++ [r]) = recsCells rs ++ recCells r := by
      unfold recsCells
      rw [List.flatMap_append]
      simp
    rw [e]
    exact h2
  have hbel := (hown.alloc (.cells #[.int .i64 r.off, .int .i64 r.time, .string r.key, .string r.val, .bool r.dead] 54)).grown_below h3 (by simp; omega)
  refine wpList_plain hgd fun K hK => ?_
  unfold Oper.wp execOp
  simp only [ho, resolve, invoke, builtin, Sem.run_bind, Sem.run_pure, Result.andThen_ok, List.map_toArray, List.map_cons, List.map_nil, hs, hx, hrun]
  exact hK _ _ (h v' w' hfin (((Below.refl _ _).alloc hbase _).trans hbel) h3 h5)
end
end Go.Proofs.Ytoienjlpncphgaa

namespace Go.Proofs.Ytoienjlpncphgaa
open Go.RowKit

theorem own_none {k : IntKind} {e : TypeId} {w : World} {b n c : Nat} {A : Option Addr} {xs : List Int} (h : Own k e w b (.slice A n c) xs) : A = none → c = 0 := fun h0 => by
  subst h0
  rcases h.2 with ⟨e, _⟩ | ⟨g, cap, cur, e, _⟩
  · injection e
  · cases e
theorem RecsLie.more {w : World} {A : Option Addr} {rs : List Rec} {cap : Nat} (h : RecsLie w A rs cap) {i : Nat} (hi : i < rs.length) : ∃ b off, A = some ⟨b, off, none⟩ ∧ b < w.heap.size ∧ RecAt w b (off + i * 5) rs[i] := by
  obtain ⟨b, off, e, hb, hc⟩ := h.1 (by rintro rfl; simp at hi)
  exact ⟨b, off, e, hb, hc i hi⟩
/-- What From answers, and the like. -/
def NewRecs (w : World) (rs : List Rec) (e : Ending) (w' : World) : Prop := ∃ v, e = .returned v ∧ OwnR w' w.heap.size v rs ∧ Below w.heap.size w w'
end Go.Proofs.Ytoienjlpncphgaa
