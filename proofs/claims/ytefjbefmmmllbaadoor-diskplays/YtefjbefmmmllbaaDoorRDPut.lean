/- Append of files to a row of files; what stays of rows. No statement of the program is proved here. -/
import Derived.Test.YtefjbefmmmllbaaDoorRDRead
namespace Go.Proofs.YtefjbefmmmllbaaDoor
open Go.RowKit

theorem file_info : (Tryd.prog.info? 74).map (fun i => (i.zero, i.size)) = some (some (.agg #[.string ⟨#[]⟩, .slice none 0 0, .int .i64 0]), 3) := by kernel_rfl
theorem file_bytes : (Tryd.prog.info? 74).map (fun i => decide (i.bytes ≤ 64)) = some true := by kernel_rfl
/-- The cells of files lie from A on. -/
def FilesLie (w : World) (A : Option Addr) (fs : List FileV) : Prop :=
  fs ≠ [] → ∃ b off, A = some ⟨b, off, none⟩ ∧ b < w.heap.size ∧ ∀ j u, (filesCs fs)[j]? = some u → w.cell? ⟨b, off + j, none⟩ = some u
theorem FilesLie.nil {w : World} {A : Option Addr} : FilesLie w A [] := fun h => absurd rfl h
theorem FilesLie.same {w w' : World} {A : Option Addr} {fs : List FileV} (h : FilesLie w A fs) (hs : w.heap.size ≤ w'.heap.size) (hk : ∀ b off, A = some ⟨b, off, none⟩ → w'.heap[b]? = w.heap[b]?) : FilesLie w' A fs := fun hn => by
  obtain ⟨b, off, e, hb, hc⟩ := h hn
  refine ⟨b, off, e, Nat.lt_of_lt_of_le hb hs, fun j u hu => ?_⟩
  have := hc j u hu
  unfold World.cell? at this ⊢
  rw [hk b off e]
  exact this
theorem FilesLie.below {w w' : World} {A : Option Addr} {fs : List FileV} (h : FilesLie w A fs) (hb : Below w.heap.size w w') : FilesLie w' A fs := fun hn => by
  obtain ⟨b, off, e, hl, hc⟩ := h hn
  exact (h.same hb.size fun b' off' e' => by rw [e] at e'; injection e' with e'; injection e' with e1 _; subst e1; exact hb.block b hl) hn
theorem filesCs_drop (fs : List FileV) (k : Nat) (hk : k ≤ fs.length) : filesCs (fs.drop k) = (filesCs fs).drop (k * 3) := by
  have e := filesCs_append (fs.take k) (fs.drop k)
  rw [List.take_append_drop] at e
  rw [e]
  exact (List.drop_left' (by rw [filesCs_length, List.length_take]; omega)).symm
theorem FilesLie.drop {w : World} {A : Option Addr} {fs : List FileV} (h : FilesLie w A fs) {k cap : Nat} (hk : k ≤ fs.length) (hc : fs.length ≤ cap) : FilesLie w (if cap = k then A else A.map (·.add (k * 3))) (fs.drop k) := fun hn => by
  have hlt : k < fs.length := by
    rcases Nat.lt_or_ge k fs.length with h1 | h1
    · exact h1
    · exact absurd (List.drop_eq_nil_of_le h1) hn
  obtain ⟨b, off, rfl, hb, hcell⟩ := h (by rintro rfl; simp at hlt)
  rw [if_neg (by omega)]
  refine ⟨b, off + k * 3, by simp [add_lit], hb, fun j u hu => ?_⟩
  rw [filesCs_drop fs k hk, List.getElem?_drop] at hu
  rw [Nat.add_assoc]
  exact hcell _ u hu
theorem FilesLie.take {w : World} {A : Option Addr} {fs : List FileV} (h : FilesLie w A fs) (k : Nat) : FilesLie w A (fs.take k) := fun hn => by
  obtain ⟨b, off, e, hb, hc⟩ := h (by rintro rfl; simp at hn)
  refine ⟨b, off, e, hb, fun j u hu => hc j u ?_⟩
  have hj := (List.getElem?_eq_some_iff.1 hu).1
  rw [← List.take_append_drop k fs, filesCs_append, List.getElem?_append_left hj]
  exact hu
theorem row_lies {w : World} {base : Nat} {A : Option Addr} {n c : Nat} {fs : List FileV} (h : w.ownsRow base 74 3 (.slice A n c) fs.length (filesCs fs)) : FilesLie w A fs := fun hn => by
  have h' := h
  rcases h.2 with ⟨e, h0⟩ | ⟨g, cap, cur, e, hbg, hg, hc, hm, _⟩
  · exact absurd (List.eq_nil_of_length_eq_zero h0) hn
  · injection e with e1 e2 e3
    subst e1 e2 e3
    refine ⟨g, 0, rfl, (Array.getElem?_eq_some_iff.1 hg).1, fun j u hu => ?_⟩
    have := World.ownsRow.cells (g := g) h' rfl j u hu
    rw [add_lit] at this
    exact this
theorem filesCs_one (fs : List FileV) (hs : ∀ x ∈ fs, ∃ A n c, x.2 = .slice A n c) : ∀ u ∈ filesCs fs, u.oneCell' = true := by
  intro u hu
  unfold filesCs at hu
  obtain ⟨x, hx, hu⟩ := List.mem_flatMap.1 hu
  obtain ⟨A, n, c, e⟩ := hs x hx
  simp only [fileCs, List.mem_cons, List.not_mem_nil, or_false] at hu
  rcases hu with rfl | rfl | rfl
  · rfl
  · rw [e]; rfl
  · rfl
set_option maxRecDepth 4000 in
/-- append of files that lie anywhere (nil too) onto a row: the run. -/
theorem run_append_files (w : World) (ty : TypeId) (base : Nat) (v : Value) (xs : List FileV) (hown : w.ownsRow base 74 3 v xs.length (filesCs xs)) (A : Option Addr) (m c : Nat) (ys : List FileV) (hm : ys.length = m) (hmc : m ≤ c) (hl : FilesLie w A ys) (hs : ∀ x ∈ ys, ∃ A n c, x.2 = .slice A n c)
    (hb : xs.length + ys.length ≤ 1099511627776) (hbase : base ≤ w.heap.size) (hA : A = none → c = 0) :
    ∃ v' w', (Builtin.append_ #[45, 45] ty #[v, .slice A m c]).run Tryd.prog w = .ok v' w' ∧ w'.ownsRow base 74 3 v' (xs ++ ys).length (filesCs (xs ++ ys)) ∧ w.grownBy w' v.ownBlock ∧ (v'.ownBlock = v.ownBlock ∨ v'.ownBlock = some w.heap.size) := by
  subst hm
  obtain ⟨i, hi, hz⟩ : ∃ i, Tryd.prog.info? 74 = some i ∧ (i.zero, i.size) = (some (.agg #[.string ⟨#[]⟩, .slice none 0 0, .int .i64 0]), 3) := by
    have := file_info
    cases hq : Tryd.prog.info? 74 with
    | none => rw [hq] at this; cases this
    | some i => rw [hq] at this; exact ⟨i, rfl, by simpa using this⟩
  have hby : i.bytes ≤ 64 := by
    have := file_bytes
    rw [hi] at this
    simpa using this
  injection hz with hz1 hz2
  rcases A with _ | ad
  · obtain rfl : c = 0 := hA rfl
    have h0 : ys.length = 0 := by omega
    obtain rfl : ys = [] := List.eq_nil_of_length_eq_zero h0
    refine ⟨v, w, run_append_owned_none (P := Tryd.prog) (w := w) base 45 ty 74 i 3 Tryd.underlying45 hi v xs.length _ hown, by simpa using hown, ⟨rfl, rfl, rfl, Nat.le_refl _, fun _ _ _ => rfl⟩, .inl rfl⟩
  · have hcells : ∀ j u, (filesCs ys)[j]? = some u → w.cell? (ad.add j) = some u := by
      intro j u hu
      have hj := (List.getElem?_eq_some_iff.1 hu).1
      have hn : ys ≠ [] := by rintro rfl; simp [filesCs] at hj
      obtain ⟨b, off, he, _, hc⟩ := hl hn
      injection he with he
      subst he
      rw [add_lit]
      exact hc j u hu
    obtain ⟨v', w', hrun, h2, h3, _, h5⟩ := run_append_own_at (P := Tryd.prog) w base 45 ty 74 i _ 3 i.bytes Tryd.underlying45 hi hz1 hz2 rfl rfl (by omega) v xs.length (filesCs xs) hown ad ys.length c (filesCs ys) (filesCs_length ys) hcells (filesCs_one ys hs)
      (by simp only [maxLen]; omega) (by have := Nat.mul_le_mul_left (xs.length + ys.length) hby; omega) hbase
    refine ⟨v', w', hrun, ?_, h3, h5⟩
    rw [List.length_append, filesCs_append]
    exact h2

theorem row_form3 {w : World} {base : Nat} {v : Value} {n : Nat} {cs : List Value} {t : TypeId} {z : Nat} (h : w.ownsRow base t z v n cs) : ∃ A c, v = .slice A n c ∧ n ≤ c ∧ c ≤ maxLen ∧ (A = none → c = 0) := by
  rcases h.2 with ⟨rfl, h0⟩ | ⟨g, cap, cur, rfl, _, _, hc, hm, _⟩
  · exact ⟨none, 0, by rw [h0], by omega, by simp [maxLen], fun _ => rfl⟩
  · exact ⟨_, _, rfl, hc, hm, by simp⟩
section
variable {w : World} {ops : Array Oper} {rest : List Oper} {o : Oper} {a : Act} {Q : Exit → Act → World → Prop} {K : Act → World → Prop} {P : Value → World → Prop}
theorem wp_files (x y : Operand) (ho : o.op = .call { callee := .builtin .append, args := #[x, y], argTypes := #[45, 45] }) (v u : Value) (hs : a.eval x = v) (hx : a.eval y = u)
    (hr : ∀ ty, ∃ v' w', (Builtin.append_ #[45, 45] ty #[v, u]).run Tryd.prog w = .ok v' w' ∧ P v' w') (h : ∀ v' w', P v' w' → K (a.put o.dst v') w') : o.wp Tryd.prog a w K Q := by
  obtain ⟨v', w', hrun, hp⟩ := hr o.type
  unfold Oper.wp execOp
  simp only [ho, resolve, invoke, builtin, Sem.run_bind, Sem.run_pure, Result.andThen_ok, List.map_toArray, List.map_cons, List.map_nil, hs, hx, hrun]
  exact h v' w' hp
theorem wpList_files (hgd : o.guard = none) (x y : Operand) (ho : o.op = .call { callee := .builtin .append, args := #[x, y], argTypes := #[45, 45] }) (v u : Value) (hs : a.eval x = v) (hx : a.eval y = u)
    (hr : ∀ ty, ∃ v' w', (Builtin.append_ #[45, 45] ty #[v, u]).run Tryd.prog w = .ok v' w' ∧ P v' w') (h : ∀ v' w', P v' w' → wpList Tryd.prog ops Q rest (a.put o.dst v') w') : wpList Tryd.prog ops Q (o :: rest) a w :=
  wpList_wanted (by simp [Region.wanted, hgd]) fun K hK => wp_files x y ho v u hs hx hr fun v' w' hp => hK _ _ (h v' w' hp)
end
section
variable {base : Nat} {S : Nat → Prop} {w : World} {p : Nat} {room : Int} {fs : List FileV}
/-- A row of files that a call has made since w. -/
def NewRow (w W : World) (v : Value) (xs : List FileV) : Prop := W.ownsRow w.heap.size 74 3 v xs.length (filesCs xs) ∧ Below w.heap.size w W
theorem NewRow.alloc {W : World} {v : Value} {xs : List FileV} (h : NewRow w W v xs) (o : Obj) : NewRow w (W.alloc o) v xs := ⟨World.ownsRow.alloc h.1 o, h.2.alloc h.2.size o⟩
theorem NewRow.drewN {W : World} {v : Value} {xs : List FileV} (h : NewRow w W v xs) (n : Nat) : NewRow w (W.drewN n) v xs := ⟨h.1, below_drewN h.2 n⟩
/-- append onto such a row. -/
theorem newrow_append {W : World} {v : Value} {xs : List FileV} (h : NewRow w W v xs) {A : Option Addr} {m c : Nat} {ys : List FileV} (hm : ys.length = m) (hmc : m ≤ c) (hl : FilesLie W A ys) (hs : ∀ x ∈ ys, ∃ A n c, x.2 = .slice A n c) (hb : xs.length + ys.length ≤ 1099511627776) (hA : A = none → c = 0) (ty : TypeId) :
    ∃ v' w', (Builtin.append_ #[45, 45] ty #[v, .slice A m c]).run Tryd.prog W = .ok v' w' ∧ NewRow w w' v' (xs ++ ys) ∧ W.grownBy w' v.ownBlock := by
  obtain ⟨v', w', hrun, ho, hg, _⟩ := run_append_files W ty w.heap.size v xs h.1 A m c ys hm hmc hl hs hb h.2.size hA
  exact ⟨v', w', hrun, ⟨ho, h.2.grown hg h.2.size fun k hk => (World.ownsRow.lt h.1 k hk).1⟩, hg⟩
theorem newrow_nil {W : World} (hb : Below w.heap.size w W) : NewRow w W (.slice none 0 0) [] := ⟨World.ownsRow_nil W _ _ 3, hb⟩
/-- One file that lies in a block of its own. -/
theorem one_lies (W : World) (x : FileV) : FilesLie (W.alloc (.cells #[.string x.1.name, x.2, .int .i64 (x.1.loose : Int)] 74)) (some ⟨W.heap.size, 0, none⟩) [x] := fun _ => by
  refine ⟨W.heap.size, 0, rfl, by simp, fun j u hu => ?_⟩
  have e1 : (W.alloc (.cells #[.string x.1.name, x.2, .int .i64 (x.1.loose : Int)] 74)).heap[W.heap.size]? = some (.cells #[.string x.1.name, x.2, .int .i64 (x.1.loose : Int)] 74) := by
    show (W.heap.push _)[W.heap.size]? = _
    simp
  unfold World.cell?
  rw [e1, Nat.zero_add]
  simpa [filesCs, fileCs] using hu
/-- The files with one laid into its place. -/
def layV (fs : List FileV) (x : FileV) : List FileV := fs.take (findK (filesOf fs) x.1.name) ++ x :: fs.drop (tailK (filesOf fs) x.1.name)
theorem filesOf_layV (fs : List FileV) (x : FileV) : filesOf (layV fs x) = layF (filesOf fs) x.1 := by
  unfold layV layF filesOf
  rw [List.map_append, List.map_cons, List.map_take, List.map_drop]
theorem mem_layV {x y : FileV} (h : y ∈ layV fs x) : y = x ∨ y ∈ fs := by
  unfold layV at h
  rcases List.mem_append.1 h with h | h
  · exact .inr (List.mem_of_mem_take h)
  · rcases List.mem_cons.1 h with rfl | h
    · exact .inl rfl
    · exact .inr (List.mem_of_mem_drop h)
/-- What is left when a new row takes the old one's place. -/
structure RLeft (base : Nat) (S : Nat → Prop) (w w' : World) (p : Nat) (room : Int) (fs : List FileV) : Prop where
  keep : Keep S w w'
  disk : RDisk base (Grow S w w') w' p room fs
theorem row_fin (hR : RDisk base S w p room fs) {W : World} {v : Value} {gs : List FileV} (h : NewRow w W v gs) (hg : ∀ x ∈ gs, SlIn S w x.2 x.1.b ∧ x.1.wf) : RLeft base S w (W.setCell ⟨p, 1, none⟩ v) p room gs := by
  obtain ⟨h1, h2, lv, hp, hr⟩ := hR
  have hpl := (h1.2 p h2).2
  have hpW : W.heap[p]? = some (.cells #[.int .i64 room, lv] 47 (0, 0)) := by rw [h.2.block p hpl]; exact hp
  have hk : Keep S w (W.setCell ⟨p, 1, none⟩ v) := (Keep.of_below (S := S) h.2).setCell (p := ⟨p, 1, none⟩) (.inl h2) _
  refine ⟨hk, h1.grow hk.size, .inl h2, v, by rw [heap_setCell_same _ p 1 _ _ _ hpW]; rfl, ?_, fun g hg' => ?_, fun x hx => ⟨?_, (hg x hx).2⟩⟩
  · have ho : W.ownsRow 0 74 3 v gs.length (filesCs gs) := by
      refine ⟨h.1.1, ?_⟩
      rcases h.1.2 with h3 | ⟨g, cap, cur, e, _, h4⟩
      · exact .inl h3
      · exact .inr ⟨g, cap, cur, e, Nat.zero_le _, h4⟩
    refine ⟨ho.1, ?_⟩
    rcases ho.2 with h3 | ⟨g, cap, cur, e, h4, h5, h6⟩
    · exact .inl h3
    · refine .inr ⟨g, cap, cur, e, h4, ?_, h6⟩
      rw [heap_setCell_other _ _ _ _ (show g ≠ p from ?_)]
      · exact h5
      · rintro rfl
        rw [hpW] at h5
        injection h5 with h5
        injection h5 with _ h7 _
        exact absurd h7 (by decide)
  · have := World.ownsRow.lt h.1 g hg'
    exact .inr ⟨this.1, by simpa using this.2⟩
  · have h3 := ((hg x hx).1.below h.2).mono (S' := Grow S w (W.setCell ⟨p, 1, none⟩ v)) fun _ => .inl
    exact h3.written hpW (by decide) fun i hi _ => heap_setCell_other _ _ _ _ hi
end
end Go.Proofs.YtefjbefmmmllbaaDoor
