/- Words of my own for memory: a slice of integers that is read, a slice of integers that the call itself made; append and make over them. No statement of the program is proved here. -/
import Derived.WalkKit
import Derived.WalkLawsBesides
import Derived.WalkSpells
import Derived.Lib.Hide
import Derived.Laws.CopyOwn
import Derived.Laws.OwnMore
import Derived.Laws.AppendOwnNone
import Derived.Deep.AppendLies
import Derived.Deep.Draws
import Derived.Deep.RegionHeld3
namespace Go.Proofs.Ytoienjlpncphgaa
open Go.RowKit

theorem add_lit (b off j : Nat) : (⟨b, off, none⟩ : Addr).add j = ⟨b, off + j, none⟩ := by
  unfold Addr.add; split <;> simp_all

/-- The integers xs lie from A on, in a block below B; of A nothing is said where there are none. -/
def Lies (k : IntKind) (w : World) (B : Nat) (A : Option Addr) (xs : List Int) : Prop :=
  xs ≠ [] → ∃ b off, A = some ⟨b, off, none⟩ ∧ b < B ∧ ∀ j (h : j < xs.length), w.cell? ⟨b, off + j, none⟩ = some (.int k xs[j])

/-- The slice value v holds the integers xs in a row of the call's own (blocks from base on). -/
def Own (k : IntKind) (e : TypeId) (w : World) (base : Nat) (v : Value) (xs : List Int) : Prop :=
  w.ownsRow base e 1 v xs.length (xs.map (Value.int k))

section
variable {k : IntKind} {e : TypeId} {w w' : World} {B B' base : Nat} {A : Option Addr} {v : Value} {xs ys : List Int}

theorem Lies.nil : Lies k w B A [] := fun h => absurd rfl h
theorem Lies.keep (h : Lies k w B A xs) (hk : ∀ b o, b < B → w'.cell? ⟨b, o, none⟩ = w.cell? ⟨b, o, none⟩) : Lies k w' B A xs := fun hn => by
  obtain ⟨b, off, e, hb, hc⟩ := h hn
  exact ⟨b, off, e, hb, fun j hj => (hk b _ hb).trans (hc j hj)⟩
theorem Lies.more (h : Lies k w B A xs) (hB : B ≤ B') : Lies k w B' A xs := fun hn => by
  obtain ⟨b, off, e, hb, hc⟩ := h hn
  exact ⟨b, off, e, by omega, hc⟩
theorem Lies.below (h : Lies k w B A xs) (hb : Below B w w') : Lies k w' B A xs := h.keep fun _ _ hp => hb.cell hp
theorem Lies.alloc (h : Lies k w B A xs) (hB : B ≤ w.heap.size) (o : Obj) : Lies k (w.alloc o) B A xs :=
  h.below ((Below.refl _ _).alloc hB o)
theorem Lies.drewN (h : Lies k w B A xs) (n : Nat) : Lies k (w.drewN n) B A xs := h
theorem Lies.at_ (h : Lies k w B A xs) {j : Nat} (hj : j < xs.length) : ∃ b off, A = some ⟨b, off, none⟩ ∧ b < B ∧ w.cell? ⟨b, off + j, none⟩ = some (.int k xs[j]) := by
  obtain ⟨b, off, e, hb, hc⟩ := h (by rintro rfl; simp at hj)
  exact ⟨b, off, e, hb, hc j hj⟩
/-- A cut: 's[n:]' as the model lays it. -/
theorem Lies.cut (h : Lies k w B A xs) {n cap : Nat} (hc : xs.length ≤ cap) :
    Lies k w B (if cap = n then A else A.map (·.add n)) (xs.drop n) := fun hn => by
  have hlt : n < xs.length := by
    rcases Nat.lt_or_ge n xs.length with h1 | h1
    · exact h1
    · exact absurd (List.drop_eq_nil_of_le h1) hn
  obtain ⟨b, off, rfl, hb, hcell⟩ := h (by rintro rfl; simp at hlt)
  rw [if_neg (by omega)]
  refine ⟨b, off + n, by simp [add_lit], hb, fun j hj => ?_⟩
  have hj' : n + j < xs.length := by simp at hj; omega
  have := hcell (n + j) hj'
  rw [Nat.add_assoc, this]
  simp
theorem Lies.take (h : Lies k w B A xs) (n : Nat) : Lies k w B A (xs.take n) := fun hn => by
  obtain ⟨b, off, e, hb, hc⟩ := h (by rintro rfl; simp at hn)
  refine ⟨b, off, e, hb, fun j hj => ?_⟩
  rw [hc j (by simp at hj; omega)]
  simp

theorem Own.nil : Own k e w base (.slice none 0 0) [] := World.ownsRow_nil w base e 1
theorem Own.lt (h : Own k e w base v xs) : ∀ g, v.ownBlock = some g → base ≤ g ∧ g < w.heap.size := World.ownsRow.lt h
theorem Own.form (h : Own k e w base v xs) : ∃ A c, v = .slice A xs.length c ∧ xs.length ≤ c ∧ c ≤ maxLen := by
  rcases h.2 with ⟨rfl, h0⟩ | ⟨g, cap, cur, rfl, _, _, hc, hm, _⟩
  · exact ⟨none, 0, by rw [h0], by omega, by simp [maxLen]⟩
  · exact ⟨_, _, rfl, hc, hm⟩
theorem Own.kept {row : Option Nat} (h : Own k e w base v xs) (hg : w.grownBy w' row) (hne : v.ownBlock = none ∨ v.ownBlock ≠ row) : Own k e w' base v xs := World.ownsRow.kept h hg hne
theorem Own.alloc (h : Own k e w base v xs) (o : Obj) : Own k e (w.alloc o) base v xs := World.ownsRow.alloc h o
theorem Own.drewN (h : Own k e w base v xs) (n : Nat) : Own k e (w.drewN n) base v xs := h
theorem Own.below (h : Own k e w base v xs) (hb : Below w.heap.size w w') : Own k e w' base v xs :=
  h.kept (row := none) ⟨hb.os, hb.tape, hb.output, hb.size, fun i hi _ => hb.block i hi⟩ (by cases v.ownBlock <;> simp)
theorem Own.lower {base' : Nat} (h : Own k e w base v xs) (hb : base' ≤ base) : Own k e w base' v xs := by
  refine ⟨h.1, ?_⟩
  rcases h.2 with h1 | ⟨g, cap, cur, h1, h2, h3⟩
  · exact .inl h1
  · exact .inr ⟨g, cap, cur, h1, by omega, h3⟩
theorem Own.lies {n c : Nat} (h : Own k e w base (.slice A n c) xs) : Lies k w w.heap.size A xs := fun hn => by
  have hp : 0 < xs.length := List.length_pos_iff.2 hn
  obtain ⟨g, cap, hv, hb, hlt⟩ := World.ownsRow.form h hp
  have hA : A = some ⟨g, 0, none⟩ := by injection hv
  subst hA
  refine ⟨g, 0, rfl, hlt, fun j hj => ?_⟩
  have := World.ownsRow.cells (g := g) h rfl j (.int k xs[j]) (by simp [hj])
  rwa [add_lit] at this
/-- The slice as a value: its address, its length, its room, and what it holds. -/
theorem Own.parts (h : Own k e w base v xs) : ∃ A c, v = .slice A xs.length c ∧ xs.length ≤ c ∧ c ≤ maxLen ∧ Lies k w w.heap.size A xs := by
  obtain ⟨A, c, rfl, h1, h2⟩ := h.form
  exact ⟨A, c, rfl, h1, h2, h.lies⟩
theorem Own.grown_below (h : Own k e w base v xs) (hg : w.grownBy w' v.ownBlock) (hb : base ≤ w.heap.size) : Below base w w' :=
  (Below.refl _ _).grown hg hb fun g hg' => (h.lt g hg').1
/-- A row that is known whole is owned. -/
theorem Own.of_row {g cap : Nat} {cur : List Value} (hg : w.heap[g]? = some (.cells cur.toArray e (0, 0))) (hb : base ≤ g) (hc : xs.length ≤ cap) (hm : cap ≤ maxLen) (hl : cur.length = cap)
    (ht : cur.take xs.length = xs.map (Value.int k)) : Own k e w base (.slice (some ⟨g, 0, none⟩) xs.length cap) xs :=
  ⟨by simp, .inr ⟨g, cap, cur.toArray, rfl, hb, hg, hc, hm, by simp [hl], by simpa using ht⟩⟩
end

/-- A row of the call's own that holds something: where it lies, its cells, that they may be written, and what a store leaves. -/
theorem Own.spot {k : IntKind} {e : TypeId} {w : World} {base : Nat} {v : Value} {xs : List Int} (h : Own k e w base v xs) (hn : 0 < xs.length) :
    ∃ g c, v = .slice (some ⟨g, 0, none⟩) xs.length c ∧ base ≤ g ∧ g < w.heap.size ∧ xs.length ≤ c ∧ c ≤ maxLen := by
  obtain ⟨g, cap, hv, hb, hlt⟩ := World.ownsRow.form h hn
  obtain ⟨A, c, hv2, h1, h2⟩ := h.form
  rw [hv] at hv2
  injection hv2 with _ _ hc
  exact ⟨g, cap, hv, hb, hlt, by omega, by omega⟩
theorem Own.cellAt {k : IntKind} {e : TypeId} {w : World} {base g c j : Nat} {xs : List Int} (h : Own k e w base (.slice (some ⟨g, 0, none⟩) xs.length c) xs) (hj : j < xs.length) :
    w.cell? ⟨g, j, none⟩ = some (.int k xs[j]) := by
  rw [World.ownsRow.cellAt h j (by omega)]
  simp [hj]
theorem Own.thaw {k : IntKind} {e : TypeId} {w : World} {base g c : Nat} {xs : List Int} (h : Own k e w base (.slice (some ⟨g, 0, none⟩) xs.length c) xs) (j : Nat) : w.frozen? ⟨g, j, none⟩ = false :=
  World.ownsRow.frozenAt h j
theorem Own.set {k : IntKind} {e : TypeId} {w : World} {base g c : Nat} {xs : List Int} (h : Own k e w base (.slice (some ⟨g, 0, none⟩) xs.length c) xs) (j : Nat) (y : Int) :
    Own k e (w.setCell ⟨g, j, none⟩ (.int k y)) base (.slice (some ⟨g, 0, none⟩) xs.length c) (xs.set j y) := by
  have := (World.ownsRow.stored h j (.int k y)).1
  unfold Own
  rw [List.length_set, List.map_set]
  exact this
theorem below_undrew {B : Nat} {w w' : World} (h : Below B w.drew w') : Below B w w' := ⟨h.os, h.tape, h.output, h.size, h.block⟩

theorem oneCell_ints (k : IntKind) (ys : List Int) : ∀ u ∈ ys.map (Value.int k), u.oneCell' = true := by
  intro u hu
  simp only [List.mem_map] at hu
  obtain ⟨n, _, rfl⟩ := hu
  rfl

section
variable {P : Program} {w : World} {ops : Array Oper} {rest : List Oper} {o : Oper} {a : Act} {Q : Exit → Act → World → Prop} {K : Act → World → Prop}

/-- append of integers that lie anywhere (nil too) onto a row of the call's own: the run. -/
theorem run_append_ints (t ty : TypeId) (base : Nat) (e : TypeId) (k : IntKind) (i : TypeInfo) (bytes : Nat) (ht : P.underlying t = some (.slice e)) (hi : P.info? e = some i) (hz : i.zero = some (.int k 0))
    (hsize : i.size = 1) (hby : i.bytes = bytes) (hbs : bytes ≤ 64)
    (v : Value) (xs : List Int) (hown : Own k e w base v xs) (B : Nat) (A : Option Addr) (m c : Nat) (ys : List Int) (hm : ys.length = m) (hmc : m ≤ c) (hl : Lies k w B A ys)
    (hb : xs.length + ys.length ≤ 1099511627776) (hbase : base ≤ w.heap.size) (hA : A = none → c = 0) :
    ∃ v' w', (Builtin.append_ #[t, t] ty #[v, .slice A m c]).run P w = .ok v' w' ∧ Own k e w' base v' (xs ++ ys) ∧ w.grownBy w' v.ownBlock ∧ (v'.ownBlock = v.ownBlock ∨ v'.ownBlock = some w.heap.size) := by
  subst hm
  rcases A with _ | ad
  · obtain rfl : c = 0 := hA rfl
    have h0 : ys.length = 0 := by omega
    obtain rfl : ys = [] := List.eq_nil_of_length_eq_zero h0
    refine ⟨v, w, run_append_owned_none (P := P) (w := w) base t ty e i 1 ht hi v xs.length _ hown, by simpa using hown, ⟨rfl, rfl, rfl, Nat.le_refl _, fun _ _ _ => rfl⟩, .inl rfl⟩
  · have hcells : ∀ j u, (ys.map (Value.int k))[j]? = some u → w.cell? (ad.add j) = some u := by
      intro j u hu
      have hj : j < ys.length := by
        rcases Nat.lt_or_ge j ys.length with h1 | h1
        · exact h1
        · rw [List.getElem?_eq_none (by simpa using h1)] at hu; cases hu
      obtain ⟨b, off, he, _, hc⟩ := hl.at_ hj
      injection he with he
      subst he
      rw [add_lit, hc]
      simpa [hj] using hu
    obtain ⟨v', w', hrun, h2, h3, _, h5⟩ := run_append_own_at (P := P) w base t ty e i (.int k 0) 1 bytes ht hi hz hsize hby rfl (by omega) v xs.length (xs.map (Value.int k)) hown ad ys.length c (ys.map (Value.int k)) (by simp) hcells (oneCell_ints k ys)
      (by simp only [maxLen]; omega) (by have := Nat.mul_le_mul_left (xs.length + ys.length) hbs; omega) hbase
    refine ⟨v', w', hrun, ?_, h3, h5⟩
    unfold Own
    simpa using h2

theorem wpList_wanted (hg : Region.wanted o (yielded ops a.tmps) = true)
    (h : ∀ K : Act → World → Prop, (∀ a w, wpList P ops Q rest a w → K a w) → o.wp P a w K Q) : wpList P ops Q (o :: rest) a w :=
  wpList_step fun K hK => by rw [if_pos hg]; exact h K hK

theorem wpList_append_ints_if (hgd : Region.wanted o (yielded ops a.tmps) = true) (s x : Operand) (t : TypeId) (ho : o.op = .call { callee := .builtin .append, args := #[s, x], argTypes := #[t, t] })
    (base : Nat) (e : TypeId) (k : IntKind) (i : TypeInfo) (bytes : Nat) (ht : P.underlying t = some (.slice e)) (hi : P.info? e = some i) (hz : i.zero = some (.int k 0))
    (hsize : i.size = 1) (hby : i.bytes = bytes) (hbs : bytes ≤ 64)
    (v : Value) (xs : List Int) (hs : a.eval s = v) (hown : Own k e w base v xs) (B : Nat) (A : Option Addr) (m c : Nat) (ys : List Int) (hx : a.eval x = .slice A m c) (hm : ys.length = m) (hmc : m ≤ c) (hl : Lies k w B A ys)
    (hb : xs.length + ys.length ≤ 1099511627776) (hbase : base ≤ w.heap.size) (hA : A = none → c = 0)
    (h : ∀ v' w', Own k e w' base v' (xs ++ ys) → w.grownBy w' v.ownBlock → (v'.ownBlock = v.ownBlock ∨ v'.ownBlock = some w.heap.size) → wpList P ops Q rest (a.put o.dst v') w') : wpList P ops Q (o :: rest) a w := by
  obtain ⟨v', w', hrun, h2, h3, h4⟩ := run_append_ints (P := P) (w := w) t o.type base e k i bytes ht hi hz hsize hby hbs v xs hown B A m c ys hm hmc hl hb hbase hA
  refine wpList_wanted hgd fun K hK => ?_
  unfold Oper.wp execOp
  simp only [ho, resolve, invoke, builtin, Sem.run_bind, Sem.run_pure, Result.andThen_ok, List.map_toArray, List.map_cons, List.map_nil, hs, hx, hrun]
  exact hK _ _ (h v' w' h2 h3 h4)

theorem wpList_append_ints (hgd : o.guard = none) (s x : Operand) (t : TypeId) (ho : o.op = .call { callee := .builtin .append, args := #[s, x], argTypes := #[t, t] })
    (base : Nat) (e : TypeId) (k : IntKind) (i : TypeInfo) (bytes : Nat) (ht : P.underlying t = some (.slice e)) (hi : P.info? e = some i) (hz : i.zero = some (.int k 0))
    (hsize : i.size = 1) (hby : i.bytes = bytes) (hbs : bytes ≤ 64)
    (v : Value) (xs : List Int) (hs : a.eval s = v) (hown : Own k e w base v xs) (B : Nat) (A : Option Addr) (m c : Nat) (ys : List Int) (hx : a.eval x = .slice A m c) (hm : ys.length = m) (hmc : m ≤ c) (hl : Lies k w B A ys)
    (hb : xs.length + ys.length ≤ 1099511627776) (hbase : base ≤ w.heap.size) (hA : A = none → c = 0)
    (h : ∀ v' w', Own k e w' base v' (xs ++ ys) → w.grownBy w' v.ownBlock → (v'.ownBlock = v.ownBlock ∨ v'.ownBlock = some w.heap.size) → wpList P ops Q rest (a.put o.dst v') w') : wpList P ops Q (o :: rest) a w :=
  wpList_append_ints_if (by simp [Region.wanted, hgd]) s x t ho base e k i bytes ht hi hz hsize hby hbs v xs hs hown B A m c ys hx hm hmc hl hb hbase hA h

/-- append of one integer, which the walk has laid in the newest block. -/
theorem wpList_append_int1 (hgd : o.guard = none) (s x : Operand) (t : TypeId) (ho : o.op = .call { callee := .builtin .append, args := #[s, x], argTypes := #[t, t] })
    (base : Nat) (e : TypeId) (k : IntKind) (i : TypeInfo) (bytes : Nat) (ht : P.underlying t = some (.slice e)) (hi : P.info? e = some i) (hz : i.zero = some (.int k 0))
    (hsize : i.size = 1) (hby : i.bytes = bytes) (hbs : bytes ≤ 64)
    (v : Value) (xs : List Int) (hs : a.eval s = v) (W : World) (y : Int) (hw : w = W.alloc (.cells #[.int k y] e)) (hown : Own k e W base v xs) (hx : a.eval x = .slice (some ⟨W.heap.size, 0, none⟩) 1 1)
    (hb : xs.length + 1 ≤ 1099511627776) (hbase : base ≤ W.heap.size)
    (h : ∀ v' w', Own k e w' base v' (xs ++ [y]) → Below base W w' → wpList P ops Q rest (a.put o.dst v') w') : wpList P ops Q (o :: rest) a w := by
  subst hw
  refine wpList_append_ints hgd s x t ho base e k i bytes ht hi hz hsize hby hbs v xs hs (hown.alloc _) (W.heap.size + 1) (some ⟨W.heap.size, 0, none⟩) 1 1 [y] hx rfl (Nat.le_refl _) ?_ (by simpa using hb) (by simp; omega) (by simp) ?_
  · intro _
    refine ⟨W.heap.size, 0, rfl, by omega, fun j hj => ?_⟩
    obtain rfl : j = 0 := by simp at hj; omega
    simp
  · intro v' w' h1 h2 _
    have hb2 := (hown.alloc (.cells #[.int k y] e)).grown_below h2 (by simp; omega)
    exact h v' w' h1 (((Below.refl _ _).alloc hbase _).trans hb2)
end

section
variable {P : Program} {w : World} {ops : Array Oper} {rest : List Oper} {o : Oper} {a : Act} {Q : Exit → Act → World → Prop}
/-- A store into a row of the call's own. -/
theorem wpList_store_own (hgd : o.guard = none) (p x : Operand) (t : TypeId) (ho : o.op = .store t p x) (ht : (P.info? t).map (·.size) = some 1)
    (base : Nat) (e : TypeId) (k : IntKind) (g c j : Nat) (y : Int) (xs : List Int) (hp : a.eval p = .pointer (some ⟨g, j, none⟩)) (hx : a.eval x = .int k y)
    (hown : Own k e w base (.slice (some ⟨g, 0, none⟩) xs.length c) xs) (hb : base ≤ g) (hj : j < xs.length)
    (h : ∀ w', Own k e w' base (.slice (some ⟨g, 0, none⟩) xs.length c) (xs.set j y) → Below base w w' → wpList P ops Q rest (a.put o.dst undef) w') : wpList P ops Q (o :: rest) a w := by
  have hcell := hown.cellAt hj
  have hfr := hown.thaw j
  have h2 := h _ (hown.set j y) ((Below.refl base w).setCell (p := ⟨g, j, none⟩) hb _)
  obtain ⟨i, hi, hs⟩ : ∃ i, P.info? t = some i ∧ i.size = 1 := by
    cases hq : P.info? t with
    | none => simp [hq] at ht
    | some i => exact ⟨i, rfl, by simpa [hq] using ht⟩
  refine wpList_plain hgd fun K hK => ?_
  have hrun : (Instr.storeAt t (.pointer (some ⟨g, j, none⟩)) (.int k y)).run P w = .ok () (w.setCell ⟨g, j, none⟩ (.int k y)) := by
    have hst : (store ((⟨g, j, none⟩ : Addr).add 0) (.int k y)).run P w = .ok () (w.setCell ⟨g, j, none⟩ (.int k y)) := by
      rw [add_lit, Nat.add_zero, run_store _ _ _ _ _ rfl, hcell]
      simp [hfr]
    simp [Instr.storeAt, Instr.sureAddr, storeVar, sizeOf, typeInfo, hi, hs, Value.cells, storeCells, hst]
  unfold Oper.wp execOp
  simp only [ho, hp, hx, Sem.run_bind, hrun, Result.andThen_ok, Sem.run_pure]
  exact hK _ _ h2
end

/-- The bytes of a text. -/
def textOf (xs : List Int) : ByteArray := xs.foldl (fun r n => r.push (UInt8.ofNat n.toNat)) ByteArray.empty
theorem conv_bytes {P : Program} {w : World} {B : Nat} {A : Option Addr} {xs : List Int} (src dst e : TypeId) (hs : P.underlying src = some (.slice e)) (he : P.underlying e = some (.int .u8)) (hd : P.underlying dst = some .string)
    (h : Lies .u8 w B A xs) (c : Nat) : (convert src dst (.slice A xs.length c)).run P w = .ok (.string (textOf xs)) w := by
  rw [run_convert_bytes_string w src dst e A xs.length c hs he hd]
  rcases A with _ | ad
  · have hx : xs = [] := by
      rcases List.eq_nil_or_concat xs with h1 | ⟨l, b, h1⟩
      · exact h1
      · obtain ⟨_, _, he, _⟩ := h (by rw [h1]; simp)
        cases he
    subst hx
    simp [Conv.bytesToString, textOf]
  · refine run_bytesToString w ad xs.length c xs ?_
    have := run_loadCells_list (P := P) w ad (xs.map (Value.int .u8)) (fun j v hv => by
      have hj : j < xs.length := by
        rcases Nat.lt_or_ge j xs.length with h1 | h1
        · exact h1
        · rw [List.getElem?_eq_none (by simpa using h1)] at hv; cases hv
      obtain ⟨b, off, he, _, hc⟩ := h.at_ hj
      injection he with he
      subst he
      rw [add_lit, hc]
      simpa [hj] using hv)
    simpa using this

/-- In the middle of a region whose order is open the condition on the world may be made stronger. -/
theorem wpAnyH_switch {P : Program} {ops : Array Oper} {Q : Exit → Act → World → Prop} {md : Region.Mode} {S : World → Prop} (S' : World → Prop) (hS : ∀ w, S' w → S w) :
    ∀ (fuel : Nat) (listed : Array Bool) (a : Act) (w : World), wpAnyH P md ops Q S' fuel listed a w → wpAnyH P md ops Q S fuel listed a w
  | 0, _, _, _, h => h
  | fuel + 1, _, _, _, h => ⟨h.1, fun i hi => wpOp_mono (fun a' w' h' => ⟨hS _ h'.1, wpAnyH_switch S' hS fuel _ a' w' h'.2⟩) (h.2 i hi)⟩

/-- 'wpAnyH_take' with the slot that is written named, so that the frame can be laid out. -/
theorem held_take {P : Program} {ops : Array Oper} {Q : Exit → Act → World → Prop} {md : Region.Mode} {S : World → Prop} {fuel : Nat} {listed : Array Bool} {w : World} {tmps : Array Value} {df : List Deferred} (i d : Nat) {oi : Oper} {v : Value}
    (hi : ops[i]? = some oi) (hd : oi.dst = some d) (hs : Region.noSelect ops = true) (hf : Region.free md ops listed i = true) (hr : (Region.ready md ops listed).contains i = true)
    (hQ : ∀ c a w, Q (.panic c) (a.put oi.dst v) w → Q (.panic c) a w) (hS : S w) (hy : YieldsIf P ops S oi v ⟨tmps, df⟩)
    (h : wpAnyH P md ops Q S fuel (listed.setIfInBounds i true) ⟨tmps.setIfInBounds d v, df⟩ w) : wpAnyH P md ops Q S (fuel + 1) listed ⟨tmps, df⟩ w :=
  wpAnyH_take hi hs hf hr hQ hy hS (by rw [hd]; exact h)
end Go.Proofs.Ytoienjlpncphgaa
