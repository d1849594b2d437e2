/- Append of objects to a row of objects. No statement of the program is proved here. -/
import Derived.Test.YtfbdmagonjjjoaaDoorRSFault
namespace Go.Proofs.YtfbdmagonjjjoaaDoor
open Go.RowKit

theorem obj_info : (Tryd.prog.info? 75).map (fun i => (i.zero, i.size)) = some (some (.agg #[.string ⟨#[]⟩, .slice none 0 0]), 2) := by kernel_rfl
theorem obj_bytes : (Tryd.prog.info? 75).map (fun i => decide (i.bytes ≤ 64)) = some true := by kernel_rfl
/-- The cells of files lie from A on. -/
def ObjsLie (w : World) (A : Option Addr) (fs : List FileV) : Prop :=
  fs ≠ [] → ∃ b off, A = some ⟨b, off, none⟩ ∧ b < w.heap.size ∧ ∀ j u, (objsCs fs)[j]? = some u → w.cell? ⟨b, off + j, none⟩ = some u
theorem ObjsLie.nil {w : World} {A : Option Addr} : ObjsLie w A [] := fun h => absurd rfl h
theorem ObjsLie.same {w w' : World} {A : Option Addr} {fs : List FileV} (h : ObjsLie w A fs) (hs : w.heap.size ≤ w'.heap.size) (hk : ∀ b off, A = some ⟨b, off, none⟩ → w'.heap[b]? = w.heap[b]?) : ObjsLie w' A fs := fun hn => by
  obtain ⟨b, off, e, hb, hc⟩ := h hn
  refine ⟨b, off, e, Nat.lt_of_lt_of_le hb hs, fun j u hu => ?_⟩
  have := hc j u hu
  unfold World.cell? at this ⊢
  rw [hk b off e]
  exact this
theorem ObjsLie.below {w w' : World} {A : Option Addr} {fs : List FileV} (h : ObjsLie w A fs) (hb : Below w.heap.size w w') : ObjsLie w' A fs := fun hn => by
  obtain ⟨b, off, e, hl, hc⟩ := h hn
  exact (h.same hb.size fun b' off' e' => by rw [e] at e'; injection e' with e'; injection e' with e1 _; subst e1; exact hb.block b hl) hn
theorem objsCs_drop (fs : List FileV) (k : Nat) (hk : k ≤ fs.length) : objsCs (fs.drop k) = (objsCs fs).drop (k * 2) := by
  have e := objsCs_append (fs.take k) (fs.drop k)
  rw [List.take_append_drop] at e
  rw [e]
  exact (List.drop_left' (by rw [objsCs_length, List.length_take]; omega)).symm
theorem ObjsLie.drop {w : World} {A : Option Addr} {fs : List FileV} (h : ObjsLie w A fs) {k cap : Nat} (hk : k ≤ fs.length) (hc : fs.length ≤ cap) : ObjsLie w (if cap = k then A else A.map (·.add (k * 2))) (fs.drop k) := fun hn => by
  have hlt : k < fs.length := by
    rcases Nat.lt_or_ge k fs.length with h1 | h1
    · exact h1
    · exact absurd (List.drop_eq_nil_of_le h1) hn
  obtain ⟨b, off, rfl, hb, hcell⟩ := h (by rintro rfl; simp at hlt)
  rw [if_neg (by omega)]
  refine ⟨b, off + k * 2, by simp [add_lit], hb, fun j u hu => ?_⟩
  rw [objsCs_drop fs k hk, List.getElem?_drop] at hu
  rw [Nat.add_assoc]
  exact hcell _ u hu
theorem ObjsLie.take {w : World} {A : Option Addr} {fs : List FileV} (h : ObjsLie w A fs) (k : Nat) : ObjsLie w A (fs.take k) := fun hn => by
  obtain ⟨b, off, e, hb, hc⟩ := h (by rintro rfl; simp at hn)
  refine ⟨b, off, e, hb, fun j u hu => hc j u ?_⟩
  have hj := (List.getElem?_eq_some_iff.1 hu).1
  rw [← List.take_append_drop k fs, objsCs_append, List.getElem?_append_left hj]
  exact hu
theorem objs_lie {w : World} {base : Nat} {A : Option Addr} {n c : Nat} {fs : List FileV} (h : w.ownsRow base 75 2 (.slice A n c) fs.length (objsCs fs)) : ObjsLie w A fs := fun hn => by
  have h' := h
  rcases h.2 with ⟨e, h0⟩ | ⟨g, cap, cur, e, hbg, hg, hc, hm, _⟩
  · exact absurd (List.eq_nil_of_length_eq_zero h0) hn
  · injection e with e1 e2 e3
    subst e1 e2 e3
    refine ⟨g, 0, rfl, (Array.getElem?_eq_some_iff.1 hg).1, fun j u hu => ?_⟩
    have := World.ownsRow.cells (g := g) h' rfl j u hu
    rw [add_lit] at this
    exact this
theorem objsCs_one (fs : List FileV) (hs : ∀ x ∈ fs, ∃ A n c, x.2 = .slice A n c) : ∀ u ∈ objsCs fs, u.oneCell' = true := by
  intro u hu
  unfold objsCs at hu
  obtain ⟨x, hx, hu⟩ := List.mem_flatMap.1 hu
  obtain ⟨A, n, c, e⟩ := hs x hx
  simp only [objCs, List.mem_cons, List.not_mem_nil, or_false] at hu
  rcases hu with rfl | rfl
  · rfl
  · rw [e]; rfl
set_option maxRecDepth 4000 in
/-- append of files that lie anywhere (nil too) onto a row: the run. -/
theorem run_append_objs (w : World) (ty : TypeId) (base : Nat) (v : Value) (xs : List FileV) (hown : w.ownsRow base 75 2 v xs.length (objsCs xs)) (A : Option Addr) (m c : Nat) (ys : List FileV) (hm : ys.length = m) (hmc : m ≤ c) (hl : ObjsLie w A ys) (hs : ∀ x ∈ ys, ∃ A n c, x.2 = .slice A n c)
    (hb : xs.length + ys.length ≤ 1099511627776) (hbase : base ≤ w.heap.size) (hA : A = none → c = 0) :
    ∃ v' w', (Builtin.append_ #[49, 49] ty #[v, .slice A m c]).run Tryd.prog w = .ok v' w' ∧ w'.ownsRow base 75 2 v' (xs ++ ys).length (objsCs (xs ++ ys)) ∧ w.grownBy w' v.ownBlock ∧ (v'.ownBlock = v.ownBlock ∨ v'.ownBlock = some w.heap.size) := by
  subst hm
  obtain ⟨i, hi, hz⟩ : ∃ i, Tryd.prog.info? 75 = some i ∧ (i.zero, i.size) = (some (.agg #[.string ⟨#[]⟩, .slice none 0 0]), 2) := by
    have := obj_info
    cases hq : Tryd.prog.info? 75 with
    | none => rw [hq] at this; cases this
    | some i => rw [hq] at this; exact ⟨i, rfl, by simpa using this⟩
  have hby : i.bytes ≤ 64 := by
    have := obj_bytes
    rw [hi] at this
    simpa using this
  injection hz with hz1 hz2
  rcases A with _ | ad
  · obtain rfl : c = 0 := hA rfl
    have h0 : ys.length = 0 := by omega
    obtain rfl : ys = [] := List.eq_nil_of_length_eq_zero h0
    refine ⟨v, w, run_append_owned_none (P := Tryd.prog) (w := w) base 49 ty 75 i 2 Tryd.underlying49 hi v xs.length _ hown, by simpa using hown, ⟨rfl, rfl, rfl, Nat.le_refl _, fun _ _ _ => rfl⟩, .inl rfl⟩
  · have hcells : ∀ j u, (objsCs ys)[j]? = some u → w.cell? (ad.add j) = some u := by
      intro j u hu
      have hj := (List.getElem?_eq_some_iff.1 hu).1
      have hn : ys ≠ [] := by rintro rfl; simp [objsCs] at hj
      obtain ⟨b, off, he, _, hc⟩ := hl hn
      injection he with he
      subst he
      rw [add_lit]
      exact hc j u hu
    obtain ⟨v', w', hrun, h2, h3, _, h5⟩ := run_append_own_at (P := Tryd.prog) w base 49 ty 75 i _ 2 i.bytes Tryd.underlying49 hi hz1 hz2 rfl rfl (by omega) v xs.length (objsCs xs) hown ad ys.length c (objsCs ys) (objsCs_length ys) hcells (objsCs_one ys hs)
      (by simp only [maxLen]; omega) (by have := Nat.mul_le_mul_left (xs.length + ys.length) hby; omega) hbase
    refine ⟨v', w', hrun, ?_, h3, h5⟩
    rw [List.length_append, objsCs_append]
    exact h2

theorem row_form3 {w : World} {base : Nat} {v : Value} {n : Nat} {cs : List Value} {t : TypeId} {z : Nat} (h : w.ownsRow base t z v n cs) : ∃ A c, v = .slice A n c ∧ n ≤ c ∧ c ≤ maxLen ∧ (A = none → c = 0) := by
  rcases h.2 with ⟨rfl, h0⟩ | ⟨g, cap, cur, rfl, _, _, hc, hm, _⟩
  · exact ⟨none, 0, by rw [h0], by omega, by simp [maxLen], fun _ => rfl⟩
  · exact ⟨_, _, rfl, hc, hm, by simp⟩
section
variable {w : World} {ops : Array Oper} {rest : List Oper} {o : Oper} {a : Act} {Q : Exit → Act → World → Prop} {K : Act → World → Prop} {P : Value → World → Prop}
theorem wp_objs (x y : Operand) (ho : o.op = .call { callee := .builtin .append, args := #[x, y], argTypes := #[49, 49] }) (v u : Value) (hs : a.eval x = v) (hx : a.eval y = u)
    (hr : ∀ ty, ∃ v' w', (Builtin.append_ #[49, 49] ty #[v, u]).run Tryd.prog w = .ok v' w' ∧ P v' w') (h : ∀ v' w', P v' w' → K (a.put o.dst v') w') : o.wp Tryd.prog a w K Q := by
  obtain ⟨v', w', hrun, hp⟩ := hr o.type
  unfold Oper.wp execOp
  simp only [ho, resolve, invoke, builtin, Sem.run_bind, Sem.run_pure, Result.andThen_ok, List.map_toArray, List.map_cons, List.map_nil, hs, hx, hrun]
  exact h v' w' hp
theorem wpList_objs (hgd : o.guard = none) (x y : Operand) (ho : o.op = .call { callee := .builtin .append, args := #[x, y], argTypes := #[49, 49] }) (v u : Value) (hs : a.eval x = v) (hx : a.eval y = u)
    (hr : ∀ ty, ∃ v' w', (Builtin.append_ #[49, 49] ty #[v, u]).run Tryd.prog w = .ok v' w' ∧ P v' w') (h : ∀ v' w', P v' w' → wpList Tryd.prog ops Q rest (a.put o.dst v') w') : wpList Tryd.prog ops Q (o :: rest) a w :=
  wpList_wanted (by simp [Region.wanted, hgd]) fun K hK => wp_objs x y ho v u hs hx hr fun v' w' hp => hK _ _ (h v' w' hp)
end
section
variable {w : World} {fs : List FileV}
/-- A row of files that a call has made since w. -/
def NewObjs (w W : World) (v : Value) (xs : List FileV) : Prop := W.ownsRow w.heap.size 75 2 v xs.length (objsCs xs) ∧ Below w.heap.size w W
theorem NewObjs.alloc {W : World} {v : Value} {xs : List FileV} (h : NewObjs w W v xs) (o : Obj) : NewObjs w (W.alloc o) v xs := ⟨World.ownsRow.alloc h.1 o, h.2.alloc h.2.size o⟩
theorem NewObjs.drewN {W : World} {v : Value} {xs : List FileV} (h : NewObjs w W v xs) (n : Nat) : NewObjs w (W.drewN n) v xs := ⟨h.1, below_drewN h.2 n⟩
/-- append onto such a row. -/
theorem newobj_append {W : World} {v : Value} {xs : List FileV} (h : NewObjs w W v xs) {A : Option Addr} {m c : Nat} {ys : List FileV} (hm : ys.length = m) (hmc : m ≤ c) (hl : ObjsLie W A ys) (hs : ∀ x ∈ ys, ∃ A n c, x.2 = .slice A n c) (hb : xs.length + ys.length ≤ 1099511627776) (hA : A = none → c = 0) (ty : TypeId) :
    ∃ v' w', (Builtin.append_ #[49, 49] ty #[v, .slice A m c]).run Tryd.prog W = .ok v' w' ∧ NewObjs w w' v' (xs ++ ys) ∧ W.grownBy w' v.ownBlock := by
  obtain ⟨v', w', hrun, ho, hg, _⟩ := run_append_objs W ty w.heap.size v xs h.1 A m c ys hm hmc hl hs hb h.2.size hA
  exact ⟨v', w', hrun, ⟨ho, h.2.grown hg h.2.size fun k hk => (World.ownsRow.lt h.1 k hk).1⟩, hg⟩
theorem newobj_nil {W : World} (hb : Below w.heap.size w W) : NewObjs w W (.slice none 0 0) [] := ⟨World.ownsRow_nil W _ _ 2, hb⟩
/-- One file that lies in a block of its own. -/
theorem oneobj_lies (W : World) (x : FileV) : ObjsLie (W.alloc (.cells #[.string x.1.name, x.2] 75)) (some ⟨W.heap.size, 0, none⟩) [x] := fun _ => by
  refine ⟨W.heap.size, 0, rfl, by simp, fun j u hu => ?_⟩
  have e1 : (W.alloc (.cells #[.string x.1.name, x.2] 75)).heap[W.heap.size]? = some (.cells #[.string x.1.name, x.2] 75) := by
    show (W.heap.push _)[W.heap.size]? = _
    simp
  unfold World.cell?
  rw [e1, Nat.zero_add]
  simpa [objsCs, objCs] using hu
/-- The files with one laid into its place. -/
def layV (fs : List FileV) (x : FileV) : List FileV := fs.take (findK (filesOf fs) x.1.name) ++ x :: fs.drop (tailK (filesOf fs) x.1.name)
theorem filesOf_layV (fs : List FileV) (x : FileV) : filesOf (layV fs x) = layF (filesOf fs) x.1 := by
  unfold layV layF filesOf
  rw [List.map_append, List.map_cons, List.map_take, List.map_drop]
theorem mem_layV {x y : FileV} (h : y ∈ layV fs x) : y = x ∨ y ∈ fs := by
  unfold layV at h
  rcases List.mem_append.1 h with h | h
  · exact .inr (List.mem_of_mem_take h)
  · rcases List.mem_cons.1 h with rfl | h
    · exact .inl rfl
    · exact .inr (List.mem_of_mem_drop h)
end
theorem NewObjs.since {w w' W : World} {v : Value} {xs : List FileV} (h : NewObjs w' W v xs) (hb : Below w.heap.size w w') : NewObjs w W v xs := by
  refine ⟨⟨h.1.1, ?_⟩, hb.trans (h.2.mono hb.size)⟩
  rcases h.1.2 with h1 | ⟨g, cap, cur, e, h2, h3⟩
  · exact .inl h1
  · exact .inr ⟨g, cap, cur, e, Nat.le_trans hb.size h2, h3⟩
/-- A row without its first files, as the model lays it. -/
theorem objs_from {w : World} {A : Option Addr} {fs : List FileV} {c tl : Nat} (hl : ObjsLie w A fs) (hcc : fs.length ≤ c) (hAn : A = none → c = 0) (ht : tl ≤ fs.length) :
    ∃ A', (∀ W : World, (Instr.slice 49 (.slice A fs.length c) (some (.int .i64 (tl : Int))) none none).run Tryd.prog W = .ok (.slice A' (fs.length - tl) (c - tl)) W) ∧ (∀ W, Below w.heap.size w W → ObjsLie W A' (fs.drop tl)) ∧ (A' = none → c - tl = 0) := by
  refine ⟨if c = tl then A else A.map (·.add (tl * 2)), fun W => ?_, fun W hb => (hl.below hb).drop ht hcc, fun h => ?_⟩
  · have he : Tryd.prog.elem 49 = 75 := by kernel_rfl
    rw [run_slice_l W 49 A fs.length c (by rw [he]; exact Tryd.underlying49) .i64 (tl : Int) (by omega) (by omega), he, Tryd.sizeOf75 W]
    simp only [Result.andThen, sliced, Int.toNat_natCast]
  · split at h
    · omega
    · rcases A with _ | ad
      · have := hAn rfl; omega
      · simp at h
end Go.Proofs.YtfbdmagonjjjoaaDoor
