/- How things lie in memory: a word for each kind of thing (Rep), a row of them that lies somewhere (RowsLie), a row of the call's own (OwnS), append to it, and a row that came in. No statement of the program is proved here. -/
import Derived.Test.YtoienjlpncphgaaBase
import Derived.Test.YtoienjlpncphgaaCame
import Derived.Test.YtoienjlpncphgaaProg
import Derived.ChangeArms
import Derived.OpenShut
import Derived.Deep.Slices
namespace Go.Proofs.Ytoienjlpncphgaa
open Go.RowKit Go.ChangeShapes Go.WideShapes

/-- How a thing lies in so many cells, in a world, with all that it points to in the blocks S. -/
structure Rep (α : Type) where
  n : Nat
  pos : 0 < n
  holds : World → (Nat → Prop) → α → List Value → Prop
  len : ∀ {w S x cs}, holds w S x cs → cs.length = n
  one : ∀ {w S x cs}, holds w S x cs → ∀ u ∈ cs, u.oneCell' = true
  keep : ∀ {w w' S x cs}, holds w S x cs → w.heap.size ≤ w'.heap.size → (∀ b, S b → w'.heap[b]? = w.heap[b]?) → holds w' S x cs
  mono : ∀ {w S T x cs}, holds w S x cs → (∀ b, S b → T b) → holds w T x cs
/-- A thing that points to nothing. -/
def Rep.flat {α : Type} (n : Nat) (pos : 0 < n) (cells : α → List Value) (len : ∀ x, (cells x).length = n) (one : ∀ x, ∀ u ∈ cells x, u.oneCell' = true) : Rep α where
  n := n
  pos := pos
  holds := fun _ _ x cs => cs = cells x
  len := fun h => by rw [h]; exact len _
  one := fun h => by rw [h]; exact one _
  keep := fun h _ _ => h
  mono := fun h _ => h

section
variable {α : Type} {R : Rep α} {w w' : World} {S T : Nat → Prop} {A : Option Addr} {xs ys : List α} {cap : Nat}
def RowAt (R : Rep α) (w : World) (S : Nat → Prop) (b o : Nat) (x : α) : Prop := ∃ cs, R.holds w S x cs ∧ ∀ j u, cs[j]? = some u → w.cell? ⟨b, o + j, none⟩ = some u
theorem RowAt.keep {b o : Nat} {x : α} (h : RowAt R w S b o x) (hz : w.heap.size ≤ w'.heap.size) (hk : ∀ b, S b → w'.heap[b]? = w.heap[b]?) (hb : S b) : RowAt R w' S b o x := by
  obtain ⟨cs, h1, h2⟩ := h
  exact ⟨cs, R.keep h1 hz hk, fun j u hu => (World.cell?_of_block (a := ⟨b, o + j, none⟩) (hk b hb)).trans (h2 j u hu)⟩
theorem RowAt.mono {b o : Nat} {x : α} (h : RowAt R w S b o x) (hs : ∀ b, S b → T b) : RowAt R w T b o x := by
  obtain ⟨cs, h1, h2⟩ := h
  exact ⟨cs, R.mono h1 hs, h2⟩
/-- The things xs lie one behind the other from A on. -/
def RowsLie (R : Rep α) (w : World) (S : Nat → Prop) (A : Option Addr) (xs : List α) (cap : Nat) : Prop :=
  (xs ≠ [] → ∃ b off, A = some ⟨b, off, none⟩ ∧ b < w.heap.size ∧ S b ∧ ∀ i (h : i < xs.length), RowAt R w S b (off + i * R.n) xs[i]) ∧ xs.length ≤ cap ∧ cap ≤ maxLen
theorem RowsLie.keep (h : RowsLie R w S A xs cap) (hz : w.heap.size ≤ w'.heap.size) (hk : ∀ b, S b → w'.heap[b]? = w.heap[b]?) : RowsLie R w' S A xs cap := by
  refine ⟨fun hn => ?_, h.2⟩
  obtain ⟨b, off, e, hb, hs, hc⟩ := h.1 hn
  exact ⟨b, off, e, by omega, hs, fun i hi => (hc i hi).keep hz hk hs⟩
theorem RowsLie.below {B : Nat} (h : RowsLie R w S A xs cap) (hb : Below B w w') (hB : ∀ b, S b → b < B) : RowsLie R w' S A xs cap := h.keep hb.size fun b hs => hb.block b (hB b hs)
theorem RowsLie.mono (h : RowsLie R w S A xs cap) (hs : ∀ b, S b → T b) : RowsLie R w T A xs cap := by
  refine ⟨fun hn => ?_, h.2⟩
  obtain ⟨b, off, e, hb, h1, hc⟩ := h.1 hn
  exact ⟨b, off, e, hb, hs b h1, fun i hi => (hc i hi).mono hs⟩
theorem RowsLie.more (h : RowsLie R w S A xs cap) {i : Nat} (hi : i < xs.length) : ∃ b off, A = some ⟨b, off, none⟩ ∧ b < w.heap.size ∧ S b ∧ RowAt R w S b (off + i * R.n) xs[i] := by
  obtain ⟨b, off, e, hb, hs, hc⟩ := h.1 (by rintro rfl; simp at hi)
  exact ⟨b, off, e, hb, hs, hc i hi⟩
theorem RowsLie.take (h : RowsLie R w S A xs cap) (j : Nat) : RowsLie R w S A (xs.take j) cap := by
  refine ⟨fun hn => ?_, by rw [List.length_take]; have := h.2.1; omega, h.2.2⟩
  obtain ⟨b, off, e, hb, hs, hc⟩ := h.1 (by rintro rfl; simp at hn)
  refine ⟨b, off, e, hb, hs, fun i hi => ?_⟩
  rw [List.length_take] at hi
  have := hc i (by omega)
  rw [List.getElem_take]
  exact this
theorem RowsLie.nil (hc : cap ≤ maxLen) : RowsLie R w S A [] cap := ⟨fun h => absurd rfl h, Nat.zero_le _, hc⟩

/-- These cells are the things', one behind the other. -/
def AllHold (R : Rep α) (w : World) (S : Nat → Prop) : List α → List Value → Prop
  | [], l => l = []
  | x :: xs, l => ∃ cs rest, l = cs ++ rest ∧ R.holds w S x cs ∧ AllHold R w S xs rest
theorem AllHold.len : ∀ {xs : List α} {l : List Value}, AllHold R w S xs l → l.length = xs.length * R.n
  | [], _, h => by cases h; simp
  | x :: xs, _, ⟨cs, rest, e, h1, h2⟩ => by
    subst e
    rw [List.length_append, R.len h1, AllHold.len h2, List.length_cons, Nat.add_mul]
    omega
theorem AllHold.one : ∀ {xs : List α} {l : List Value}, AllHold R w S xs l → ∀ u ∈ l, u.oneCell' = true
  | [], _, h, u, hu => by cases h; cases hu
  | x :: xs, _, ⟨cs, rest, e, h1, h2⟩, u, hu => by
    subst e
    rcases List.mem_append.1 hu with h | h
    · exact R.one h1 u h
    · exact AllHold.one h2 u h
theorem AllHold.keep (hz : w.heap.size ≤ w'.heap.size) (hk : ∀ b, S b → w'.heap[b]? = w.heap[b]?) : ∀ {xs : List α} {l : List Value}, AllHold R w S xs l → AllHold R w' S xs l
  | [], _, h => h
  | _ :: _, _, ⟨cs, rest, e, h1, h2⟩ => ⟨cs, rest, e, R.keep h1 hz hk, AllHold.keep hz hk h2⟩
theorem AllHold.mono (hs : ∀ b, S b → T b) : ∀ {xs : List α} {l : List Value}, AllHold R w S xs l → AllHold R w T xs l
  | [], _, h => h
  | _ :: _, _, ⟨cs, rest, e, h1, h2⟩ => ⟨cs, rest, e, R.mono h1 hs, AllHold.mono hs h2⟩
theorem AllHold.append : ∀ {xs ys : List α} {l m : List Value}, AllHold R w S xs l → AllHold R w S ys m → AllHold R w S (xs ++ ys) (l ++ m)
  | [], _, _, _, h, h' => by cases h; exact h'
  | x :: xs, _, _, _, ⟨cs, rest, e, h1, h2⟩, h' => ⟨cs, rest ++ _, by rw [e, List.append_assoc], h1, AllHold.append h2 h'⟩
theorem AllHold.at_ : ∀ {xs : List α} {l : List Value}, AllHold R w S xs l → ∀ i (hi : i < xs.length), ∃ cs, R.holds w S xs[i] cs ∧ ∀ j u, cs[j]? = some u → l[i * R.n + j]? = some u
  | x :: xs, _, ⟨cs, rest, e, h1, h2⟩, 0, _ => ⟨cs, h1, fun j u hu => by
    subst e
    have hj : j < cs.length := by
      rcases Nat.lt_or_ge j cs.length with h | h
      · exact h
      · rw [List.getElem?_eq_none h] at hu; cases hu
    rw [Nat.zero_mul, Nat.zero_add, List.getElem?_append_left hj]
    exact hu⟩
  | x :: xs, _, ⟨cs, rest, e, h1, h2⟩, i + 1, hi => by
    obtain ⟨ds, g1, g2⟩ := AllHold.at_ h2 i (by simpa using hi)
    refine ⟨ds, g1, fun j u hu => ?_⟩
    subst e
    have hn := R.len h1
    rw [Nat.add_mul, List.getElem?_append_right (by omega), show i * R.n + 1 * R.n + j - cs.length = i * R.n + j by omega]
    exact g2 j u hu
theorem AllHold.of_rows : ∀ {xs : List α} {b off : Nat}, (∀ i (h : i < xs.length), RowAt R w S b (off + i * R.n) xs[i]) → ∃ l, AllHold R w S xs l ∧ ∀ j u, l[j]? = some u → w.cell? ⟨b, off + j, none⟩ = some u
  | [], _, _, _ => ⟨[], rfl, fun j u hu => by simp at hu⟩
  | x :: xs, b, off, h => by
    obtain ⟨cs, h1, h2⟩ := h 0 (by simp)
    obtain ⟨l, g1, g2⟩ := AllHold.of_rows (xs := xs) (b := b) (off := off + R.n) (fun i hi => by
      have := h (i + 1) (by simpa using hi)
      rw [show off + R.n + i * R.n = off + (i + 1) * R.n by rw [Nat.add_mul]; omega]
      exact this)
    refine ⟨cs ++ l, ⟨cs, l, rfl, h1, g1⟩, fun j u hu => ?_⟩
    have hn := R.len h1
    rcases Nat.lt_or_ge j cs.length with hj | hj
    · rw [List.getElem?_append_left hj] at hu
      have := h2 j u hu
      rw [Nat.zero_mul, Nat.add_zero] at this
      exact this
    · rw [List.getElem?_append_right hj] at hu
      have := g2 _ u hu
      rw [show off + R.n + (j - cs.length) = off + j by omega] at this
      exact this

/-- The slice value v holds the things xs in a row of the call's own; what they point to lies in S, aside from the row. -/
def OwnS (R : Rep α) (t : TypeId) (w : World) (S : Nat → Prop) (base : Nat) (v : Value) (xs : List α) : Prop :=
  ∃ l, AllHold R w S xs l ∧ w.ownsRow base t R.n v xs.length l ∧ (∀ b, S b → b < w.heap.size) ∧ ∀ g, v.ownBlock = some g → ¬ S g
section
variable {t : TypeId} {base : Nat} {v : Value}
theorem OwnS.nil (hS : ∀ b, S b → b < w.heap.size) : OwnS R t w S base (.slice none 0 0) [] := ⟨[], rfl, World.ownsRow_nil w base _ _, hS, fun g h => by cases h⟩
theorem OwnS.kept {row : Option Nat} (h : OwnS R t w S base v xs) (hg : w.grownBy w' row) (hne : v.ownBlock = none ∨ v.ownBlock ≠ row) (hr : ∀ g, row = some g → ¬ S g) : OwnS R t w' S base v xs := by
  obtain ⟨l, h1, h2, h3, h4⟩ := h
  exact ⟨l, h1.keep hg.size fun b hb => hg.block b (h3 b hb) (fun e => hr b e.symm hb), World.ownsRow.kept h2 hg hne, fun b hb => Nat.lt_of_lt_of_le (h3 b hb) hg.size, h4⟩
theorem OwnS.below (h : OwnS R t w S base v xs) (hb : Below w.heap.size w w') : OwnS R t w' S base v xs :=
  h.kept (row := none) ⟨hb.os, hb.tape, hb.output, hb.size, fun i hi _ => hb.block i hi⟩ (by cases v.ownBlock <;> simp) fun g h => by cases h
theorem OwnS.alloc (h : OwnS R t w S base v xs) (o : Obj) : OwnS R t (w.alloc o) S base v xs := h.below ((Below.refl _ _).alloc (Nat.le_refl _) o)
theorem OwnS.lt (h : OwnS R t w S base v xs) : ∀ g, v.ownBlock = some g → base ≤ g ∧ g < w.heap.size := by obtain ⟨l, _, h2, _⟩ := h; exact World.ownsRow.lt h2
theorem OwnS.grown_below (h : OwnS R t w S base v xs) (hg : w.grownBy w' v.ownBlock) (hb : base ≤ w.heap.size) : Below base w w' := (Below.refl _ _).grown hg hb fun g hg' => (h.lt g hg').1
theorem OwnS.mono (h : OwnS R t w S base v xs) (hs : ∀ b, S b → T b) (hT : ∀ b, T b → b < w.heap.size) (hv : ∀ g, v.ownBlock = some g → ¬ T g) : OwnS R t w T base v xs := by
  obtain ⟨l, h1, h2, _, _⟩ := h
  exact ⟨l, h1.mono hs, h2, hT, hv⟩
theorem OwnS.parts (h : OwnS R t w S base v xs) : ∃ A c, v = .slice A xs.length c ∧ RowsLie R w (fun b => S b ∨ v.ownBlock = some b) A xs c ∧ (A = none → c = 0) := by
  obtain ⟨l, h1, h2, h3, h4⟩ := h
  have h2' := h2
  rcases h2.2 with ⟨rfl, h0⟩ | ⟨g, c, cur, rfl, hbg, hg, hc, hm, _⟩
  · have : xs = [] := List.eq_nil_of_length_eq_zero h0
    subst this
    exact ⟨none, 0, rfl, RowsLie.nil (Nat.zero_le _), fun _ => rfl⟩
  · refine ⟨_, _, rfl, ⟨fun _ => ⟨g, 0, rfl, (Array.getElem?_eq_some_iff.1 hg).1, .inr rfl, fun i hi => ?_⟩, hc, hm⟩, by simp⟩
    obtain ⟨cs, k1, k2⟩ := h1.at_ i hi
    refine ⟨cs, R.mono k1 fun b hb => .inl hb, fun j u hu => ?_⟩
    have := World.ownsRow.cells (g := g) h2' rfl (i * R.n + j) u (k2 j u hu)
    rw [add_lit] at this
    rw [Nat.add_assoc]
    exact this
end

section
variable {ops : Array Oper} {rest : List Oper} {o : Oper} {a : Act} {Q : Exit → Act → World → Prop} {K : Act → World → Prop}
/-- append of things that lie somewhere: the operation by itself. -/
theorem wp_append_rows (s x : Operand) (tl t : TypeId) (ho : o.op = .call { callee := .builtin .append, args := #[s, x], argTypes := #[tl, tl] })
    (ht : Try.prog.underlying tl = some (.slice t)) (z : Value) (hinf : (Try.prog.info? t).map (fun i => (i.zero, i.size, decide (i.bytes ≤ 1024))) = some (some z, R.n, true)) (hzs : z.cells.size = R.n)
    (base : Nat) (v : Value) (xs : List α) (hs : a.eval s = v) (hown : OwnS R t w S base v xs) (b off m c : Nat) (ys : List α) (hx : a.eval x = .slice (some ⟨b, off, none⟩) m c) (hm : ys.length = m)
    (hl : ∀ i (h : i < ys.length), RowAt R w S b (off + i * R.n) ys[i]) (hb : xs.length + ys.length ≤ 137438953472) (hbase : base ≤ w.heap.size)
    (h : ∀ v' w', OwnS R t w' S base v' (xs ++ ys) → Below base w w' → w.grownBy w' v.ownBlock → (v'.ownBlock = v.ownBlock ∨ v'.ownBlock = some w.heap.size) → K (a.put o.dst v') w') : o.wp Try.prog a w K Q := by
  subst hm
  obtain ⟨i, hi, hi2⟩ := Option.map_eq_some_iff.1 hinf
  simp only [Prod.mk.injEq, decide_eq_true_eq] at hi2
  obtain ⟨hz, hsz, hby⟩ := hi2
  obtain ⟨l, h1, h2, h3, h4⟩ := hown
  obtain ⟨k, g1, g2⟩ := AllHold.of_rows hl
  obtain ⟨v', w', hrun, e2, e3, _, e5⟩ := run_append_own_at (P := Try.prog) w base tl o.type t i _ R.n i.bytes ht hi hz hsz rfl hzs R.pos v xs.length l h2 ⟨b, off, none⟩ ys.length c k g1.len
    (fun j u hu => by rw [add_lit]; exact g2 j u hu) g1.one
    (by simp only [maxLen]; omega) (by have := Nat.mul_le_mul_left (xs.length + ys.length) hby; omega) hbase
  have hown : OwnS R t w S base v xs := ⟨l, h1, h2, h3, h4⟩
  have hk : ∀ b, S b → w'.heap[b]? = w.heap[b]? := fun b hb => e3.block b (h3 b hb) (fun e => h4 b e.symm hb)
  have hfin : OwnS R t w' S base v' (xs ++ ys) := by
    refine ⟨l ++ k, (h1.append g1).keep e3.size hk, by rw [List.length_append]; exact e2, fun b hb => Nat.lt_of_lt_of_le (h3 b hb) e3.size, fun g hg hs => ?_⟩
    rcases e5 with e5 | e5
    · exact h4 g (by rw [← e5]; exact hg) hs
    · rw [e5] at hg
      injection hg with hg
      have := h3 g hs
      omega
  have hbel := hown.grown_below e3 hbase
  unfold Oper.wp execOp
  simp only [ho, resolve, invoke, builtin, Sem.run_bind, Sem.run_pure, Result.andThen_ok, List.map_toArray, List.map_cons, List.map_nil, hs, hx, hrun]
  exact h v' w' hfin hbel e3 e5
/-- append of one thing, which the walk has laid in the newest block: the operation by itself. -/
theorem wp_append_one (s x : Operand) (tl t : TypeId) (ho : o.op = .call { callee := .builtin .append, args := #[s, x], argTypes := #[tl, tl] })
    (ht : Try.prog.underlying tl = some (.slice t)) (z : Value) (hinf : (Try.prog.info? t).map (fun i => (i.zero, i.size, decide (i.bytes ≤ 1024))) = some (some z, R.n, true)) (hzs : z.cells.size = R.n)
    (base : Nat) (v : Value) (xs : List α) (hs : a.eval s = v) (W : World) (y : α) (cs : List Value) (hw : w = W.alloc (.cells cs.toArray t)) (hy : R.holds W S y cs) (hown : OwnS R t W S base v xs) (g : Nat) (hx : a.eval x = .slice (some ⟨g, 0, none⟩) 1 1) (hg : g = W.heap.size)
    (hb : xs.length + 1 ≤ 137438953472) (hbase : base ≤ W.heap.size)
    (h : ∀ v' w', OwnS R t w' S base v' (xs ++ [y]) → Below base W w' → w.grownBy w' v.ownBlock → (v'.ownBlock = v.ownBlock ∨ v'.ownBlock = some w.heap.size) → K (a.put o.dst v') w') : o.wp Try.prog a w K Q := by
  subst hw hg
  have hS : ∀ b, S b → b < W.heap.size := by obtain ⟨_, _, _, h3, _⟩ := hown; exact h3
  refine wp_append_rows (R := R) (S := S) s x tl t ho ht z hinf hzs base v xs hs (hown.alloc _) W.heap.size 0 1 1 [y] hx rfl (fun i hi => ?_) (by simpa using hb) (by simp; omega) fun v' w' h1 h2 h3 h4 => h v' w' h1 (((Below.refl _ _).alloc hbase _).trans h2) h3 h4
  obtain rfl : i = 0 := by simpa using hi
  refine ⟨cs, R.keep hy (by simp) fun b hb => Below.heap_alloc _ _ _ (hS b hb), fun j u hu => ?_⟩
  rw [Nat.zero_mul, Nat.zero_add]
  simp only [World.cell?, heap_alloc_new]
  simp only [List.getElem?_toArray]
  exact hu
/-- append of things that lie somewhere. -/
theorem wpList_append_rows (hgd : o.guard = none) (s x : Operand) (tl t : TypeId) (ho : o.op = .call { callee := .builtin .append, args := #[s, x], argTypes := #[tl, tl] })
    (ht : Try.prog.underlying tl = some (.slice t)) (z : Value) (hinf : (Try.prog.info? t).map (fun i => (i.zero, i.size, decide (i.bytes ≤ 1024))) = some (some z, R.n, true)) (hzs : z.cells.size = R.n)
    (base : Nat) (v : Value) (xs : List α) (hs : a.eval s = v) (hown : OwnS R t w S base v xs) (b off m c : Nat) (ys : List α) (hx : a.eval x = .slice (some ⟨b, off, none⟩) m c) (hm : ys.length = m)
    (hl : ∀ i (h : i < ys.length), RowAt R w S b (off + i * R.n) ys[i]) (hb : xs.length + ys.length ≤ 137438953472) (hbase : base ≤ w.heap.size)
    (h : ∀ v' w', OwnS R t w' S base v' (xs ++ ys) → Below base w w' → w.grownBy w' v.ownBlock → (v'.ownBlock = v.ownBlock ∨ v'.ownBlock = some w.heap.size) → wpList Try.prog ops Q rest (a.put o.dst v') w') : wpList Try.prog ops Q (o :: rest) a w :=
  wpList_plain hgd fun _ hK => wp_append_rows s x tl t ho ht z hinf hzs base v xs hs hown b off m c ys hx hm hl hb hbase fun v' w' h1 h2 h3 h4 => hK _ _ (h v' w' h1 h2 h3 h4)
/-- append of one thing, which the walk has laid in the newest block. -/
theorem wpList_append_one (hgd : o.guard = none) (s x : Operand) (tl t : TypeId) (ho : o.op = .call { callee := .builtin .append, args := #[s, x], argTypes := #[tl, tl] })
    (ht : Try.prog.underlying tl = some (.slice t)) (z : Value) (hinf : (Try.prog.info? t).map (fun i => (i.zero, i.size, decide (i.bytes ≤ 1024))) = some (some z, R.n, true)) (hzs : z.cells.size = R.n)
    (base : Nat) (v : Value) (xs : List α) (hs : a.eval s = v) (W : World) (y : α) (cs : List Value) (hw : w = W.alloc (.cells cs.toArray t)) (hy : R.holds W S y cs) (hown : OwnS R t W S base v xs) (g : Nat) (hx : a.eval x = .slice (some ⟨g, 0, none⟩) 1 1) (hg : g = W.heap.size)
    (hb : xs.length + 1 ≤ 137438953472) (hbase : base ≤ W.heap.size)
    (h : ∀ v' w', OwnS R t w' S base v' (xs ++ [y]) → Below base W w' → w.grownBy w' v.ownBlock → (v'.ownBlock = v.ownBlock ∨ v'.ownBlock = some w.heap.size) → wpList Try.prog ops Q rest (a.put o.dst v') w') : wpList Try.prog ops Q (o :: rest) a w :=
  wpList_plain hgd fun _ hK => wp_append_one s x tl t ho ht z hinf hzs base v xs hs W y cs hw hy hown g hx hg hb hbase fun v' w' h1 h2 h3 h4 => hK _ _ (h v' w' h1 h2 h3 h4)
end

/-! ### A row that came in -/
theorem list_some (n : Nat) (Q : Nat → α → Prop) (h : ∀ i, i < n → ∃ r, Q i r) : ∃ rs : List α, rs.length = n ∧ ∀ i (hi : i < rs.length), Q i rs[i] := by
  induction n with
  | zero => exact ⟨[], rfl, fun i hi => by simp at hi⟩
  | succ n ih =>
    obtain ⟨rs, hl, hq⟩ := ih fun i hi => h i (by omega)
    obtain ⟨r, hr⟩ := h n (by omega)
    refine ⟨rs ++ [r], by simp [hl], fun i hi => ?_⟩
    by_cases hin : i < rs.length
    · rw [List.getElem_append_left hin]
      exact hq i hin
    · have : i = n := by simp at hi; omega
      subst this
      rw [List.getElem_append_right (by omega)]
      simpa [hl] using hr
/-- From the cells of one to a row of them. -/
theorem rows_came_cells {H : Type} {enc : TypeId × Value → H} {base : Nat} {spare : Nat → Bool} {held : Bool} (tl t : TypeId) (wf : α → Prop) (hu : Try.prog.underlying tl = some (.slice t)) (hc : Try.prog.cellsOf t = R.n)
    (hS : ∀ b, b < w.heap.size → S b)
    (each : ∀ {fuel : Nat} {cs : List Value} {x : DataW H × List MemPlace}, DataW.trod enc Try.prog w base spare held fuel t cs = some x → ∃ y : α, R.holds w S y cs ∧ wf y)
    {fuel : Nat} {v : Value} {x : DataW H × List MemPlace} (h : DataW.trod enc Try.prog w base spare held fuel tl [v] = some x) :
    ∃ (A : Option Addr) (cap : Nat) (ys : List α), v = .slice A ys.length cap ∧ RowsLie R w S A ys cap ∧ ∀ y ∈ ys, wf y := by
  rcases Go.Deep.open_slice hu h with ⟨hcs, _⟩ | ⟨x, l, c, m, n, D, Pl, hcs, _, hl, hm, hmm, _, hi⟩
  · simp only [List.cons.injEq, and_true] at hcs
    subst hcs
    exact ⟨none, 0, [], rfl, RowsLie.nil (Nat.zero_le _), fun _ h => by cases h⟩
  · simp only [List.cons.injEq, and_true] at hcs
    subst hcs
    have hml : l ≤ m := by rw [hmm]; split <;> omega
    have ev : ∀ i, i < l → ∃ y : α, (∃ cs, R.holds w S y cs ∧ ∀ j u, cs[j]? = some u → w.cell? (x.add (i * R.n + j)) = some u) ∧ wf y := by
      intro i hil
      obtain ⟨cs', hcell, ht⟩ := hi i (by omega)
      rw [hc] at hcell
      obtain ⟨y, hy, hw⟩ := each ht
      obtain ⟨_, _, hat⟩ := World.cells?_some hcell
      refine ⟨y, ⟨cs', hy, fun j u hu => ?_⟩, hw⟩
      have hj : j < R.n := by
        rw [← R.len hy]
        rcases Nat.lt_or_ge j cs'.length with h | h
        · exact h
        · rw [List.getElem?_eq_none h] at hu; cases hu
      have := hat j hj
      rw [Go.Deep.add_add] at this
      rw [this, hu]
    obtain ⟨ys, rfl, hq⟩ := list_some l _ ev
    refine ⟨some x, c, ys, rfl, ⟨fun hn => ?_, hl, hm⟩, fun y hy => ?_⟩
    · have hp : 0 < ys.length := List.length_pos_iff.2 hn
      obtain ⟨b, off, spot⟩ := x
      obtain ⟨⟨cs0, k1, k2⟩, _⟩ := hq 0 hp
      have hl0 := R.len k1
      have hpos := R.pos
      have h0 := k2 0 cs0[0] (List.getElem?_eq_getElem (by omega))
      have hs : spot = none := by simpa [Addr.add] using World.cell?_spot h0
      subst hs
      rw [add_lit] at h0
      have hbl := cell_block_lt h0
      refine ⟨b, off, rfl, hbl, hS b hbl, fun i hi => ?_⟩
      obtain ⟨⟨cs, g1, g2⟩, _⟩ := hq i hi
      refine ⟨cs, g1, fun j u hu => ?_⟩
      have := g2 j u hu
      rw [add_lit] at this
      rw [Nat.add_assoc]
      exact this
    · obtain ⟨i, hi, rfl⟩ := List.getElem_of_mem hy
      exact (hq i hi).2
end
end Go.Proofs.Ytoienjlpncphgaa
