/- What the document's own Put wants of the row: numbers, and appends. -/
import Derived.Test.YtfbdmagonjjjoaaDoorRSDel
import Derived.Test.YtfbdmagonjjjoaaDoorVSLeft
namespace Go.Proofs.YtfbdmagonjjjoaaDoor
open Go.RowKit

/-- Bytes of the call's own and a row of objects are two blocks. -/
theorem own_apart {W : World} {b1 b2 n : Nat} {u v : Value} {us : List Int} {cs : List Value} (h : Own .u8 5 W b1 u us) (hv : W.ownsRow b2 75 2 v n cs) : u.ownBlock = none ∨ u.ownBlock ≠ v.ownBlock := by
  rcases h.2 with ⟨rfl, _⟩ | ⟨g, cap, cur, rfl, _, hg, _⟩
  · exact .inl rfl
  · refine .inr fun he => ?_
    rcases hv.2 with ⟨rfl, _⟩ | ⟨g', cap', cur', rfl, _, hg', _⟩
    · simp [Value.ownBlock] at he
    · simp [Value.ownBlock] at he
      subst he
      rw [hg] at hg'
      simp at hg'
/-- How much is used ahead of i, the object at K left out if there is one. -/
def usedBut (l : List FileM) (H : Bool) (K : Nat) (i : Nat) : Nat := if H = true ∧ K < i then usedM (l.take i) - (l[K]?.getD noFile).b.length else usedM (l.take i)
theorem used_at_le (l : List FileM) (K i : Nat) (h : K < i) (hK : K < l.length) : (l[K]?.getD noFile).b.length ≤ usedM (l.take i) := by
  have h1 := usedM_snoc l K hK
  have h2 : usedM ((l.take i).take (K + 1)) ≤ usedM (l.take i) := usedM_le _ _
  rw [List.take_take, Nat.min_eq_left (by omega)] at h2
  rw [List.getElem?_eq_getElem hK]
  show l[K].b.length ≤ _
  omega
theorem usedBut_step (l : List FileM) (H : Bool) (K i : Nat) (h : i < l.length) (hK : H = true → K < l.length) : usedBut l H K (i + 1) = if H = false ∨ i ≠ K then usedBut l H K i + l[i].b.length else usedBut l H K i := by
  have h1 := usedM_snoc l i h
  unfold usedBut
  cases H with
  | false => simp [h1]
  | true =>
    have hKl := hK rfl
    by_cases e : i = K
    · subst e
      rw [if_pos ⟨rfl, by omega⟩, if_neg (by simp), if_neg (by simp), h1, List.getElem?_eq_getElem h]
      show _ + _ - l[i].b.length = _
      omega
    · by_cases hlt : K < i
      · rw [if_pos ⟨rfl, by omega⟩, if_pos (Or.inr e), if_pos ⟨rfl, hlt⟩, h1]
        have := used_at_le l K i hlt hKl
        omega
      · rw [if_neg (by omega), if_pos (Or.inr e), if_neg (by omega), h1]
theorem usedBut_le (l : List FileM) (H : Bool) (K i : Nat) : usedBut l H K i ≤ usedM l := by
  have := usedM_le l i
  unfold usedBut
  split <;> omega
theorem usedBut_all (l : List FileM) (n : ByteArray) : ((usedBut l (hasF l n) (findK l n) l.length : Nat) : Int) = (usedM l : Int) - ((ofName l n).b.length : Int) := by
  unfold usedBut ofName
  rw [List.take_length]
  cases hh : hasF l n with
  | false => simp
  | true =>
    have hlt := hasF_lt hh
    rw [if_pos ⟨rfl, hlt⟩, if_pos rfl]
    have := used_at_le l _ _ hlt hlt
    rw [List.take_length] at this
    omega

section
variable {base : Nat} {S : Nat → Prop} {w : World} {p : Nat} {room : Int} {fs : List FileV} {bad : List Int}
theorem osput_row (hR : RStore base S w p room fs bad) (hlen : fs.length ≤ 1000000000) (k tl : Nat) (hk : k ≤ fs.length) (htl : tl ≤ fs.length) (hkt : k ≤ tl) (n : ByteArray) (hn : n.size ≤ maxLen) (ys : List Int) (hys : IsBytes ys) :
    ∃ A A' c, (∀ W, Below w.heap.size w W → W.cell? ⟨p, 1, none⟩ = some (.slice A fs.length c)) ∧ fs.length ≤ c ∧ c ≤ maxLen ∧
      (∀ ty, ∃ v' w', (Builtin.append_ #[49, 49] ty #[.slice none 0 0, .slice A k c]).run Tryd.prog w = .ok v' w' ∧ NewObjs w w' v' (fs.take k)) ∧
      (∀ W W' v Ax cx, NewObjs w W v (fs.take k) → Below W.heap.size W W' → Own .u8 5 W' W.heap.size (.slice Ax ys.length cx) ys → ∀ ty, ∃ v' w', (Builtin.append_ #[49, 49] ty #[v, .slice (some ⟨W'.heap.size, 0, none⟩) 1 1]).run Tryd.prog (W'.alloc (.cells #[.string n, .slice Ax ys.length cx] 75)) = .ok v' w' ∧ NewObjs w w' v' (fs.take k ++ [(⟨n, ys, 0⟩, .slice Ax ys.length cx)]) ∧ Own .u8 5 w' w.heap.size (.slice Ax ys.length cx) ys) ∧
      (∀ W : World, (Instr.slice 49 (.slice A fs.length c) (some (.int .i64 (tl : Int))) none none).run Tryd.prog W = .ok (.slice A' (fs.length - tl) (c - tl)) W) ∧
      (∀ W v Ax cx, NewObjs w W v (fs.take k ++ [(⟨n, ys, 0⟩, .slice Ax ys.length cx)]) → Own .u8 5 W w.heap.size (.slice Ax ys.length cx) ys → ∀ ty, ∃ A4 L4 c4 w', (Builtin.append_ #[49, 49] ty #[v, .slice A' (fs.length - tl) (c - tl)]).run Tryd.prog W = .ok (.slice A4 L4 c4) w' ∧ w'.frozen? ⟨p, 1, none⟩ = false ∧ w'.cell? ⟨p, 1, none⟩ = some (.slice A fs.length c) ∧
        OLeft base S w (w'.setCell ⟨p, 1, none⟩ (.slice A4 L4 c4)) p room (fs.take k ++ [(⟨n, ys, 0⟩, .slice Ax ys.length cx)] ++ fs.drop tl) bad) := by
  obtain ⟨A, c, Ab, cb, c0, c1, _, hcc, hcm, hAn, hfs, _⟩ := hR.cells
  have hlie : ObjsLie w A fs := by
    obtain ⟨_, _, lv, bv, hp, hr, _⟩ := hR
    have : w.cell? ⟨p, 1, none⟩ = some lv := by unfold World.cell?; rw [hp]; rfl
    rw [c1] at this
    injection this with this
    subst this
    exact objs_lie hr.1
  have hsl : ∀ y ∈ fs, SlIn S w y.2 y.1.b ∧ y.1.wf := fun y hy => by obtain ⟨_, _, _, _, _, hr, _⟩ := hR; exact hr.2.2 y hy
  have hshape : ∀ {y : FileV}, SlIn S w y.2 y.1.b → ∃ A n c, y.2 = .slice A n c := fun {y} h => by obtain ⟨A, c, e, _⟩ := h; exact ⟨A, _, c, e⟩
  have htk : (fs.take k).length = k := by rw [List.length_take]; omega
  obtain ⟨A', hslc, hdrop, hdn⟩ := objs_from hlie hcc hAn htl
  refine ⟨A, A', c, fun W hb => (hb.cell (p := ⟨p, 1, none⟩) hR.lt).trans c1, hcc, hcm, fun ty => ?_, fun W W' v Ax cx h hb ho ty => ?_, hslc, fun W v Ax cx h ho ty => ?_⟩
  · obtain ⟨v', w', h1, h2, _⟩ := newobj_append (newobj_nil (Below.refl w.heap.size w)) (ys := fs.take k) (c := c) htk (by omega) (hlie.take k) (fun y hy => hshape (hsl y (List.mem_of_mem_take hy)).1) (by rw [htk]; simp; omega) hAn ty
    rw [List.nil_append] at h2
    exact ⟨v', w', h1, h2⟩
  · have hrow : NewObjs w W' v (fs.take k) := ⟨World.ownsRow.kept (row := none) h.1 ⟨hb.os, hb.tape, hb.output, hb.size, fun i hi _ => hb.block i hi⟩ (by cases v.ownBlock <;> simp), h.2.trans (hb.mono h.2.size)⟩
    have hrow2 := hrow.alloc (.cells #[.string n, .slice Ax ys.length cx] 75)
    obtain ⟨v', w', h1, h2, h3⟩ := newobj_append hrow2 (A := some ⟨W'.heap.size, 0, none⟩) (ys := [(⟨n, ys, 0⟩, .slice Ax ys.length cx)]) (c := 1) rfl (Nat.le_refl _) (oneobj_lies W' (⟨n, ys, 0⟩, .slice Ax ys.length cx)) (fun y hy => by rw [List.mem_singleton.1 hy]; exact ⟨_, _, _, rfl⟩) (by rw [htk]; simp; omega) (by simp) ty
    have ho2 := (ho.lower h.2.size).alloc (.cells #[.string n, .slice Ax ys.length cx] 75)
    exact ⟨v', w', h1, h2, ho2.kept h3 (own_apart ho2 hrow2.1)⟩
  · obtain ⟨v', w', h1, h2, h3⟩ := newobj_append h (ys := fs.drop tl) (c := c - tl) List.length_drop (by omega) (hdrop W h.2) (fun y hy => hshape (hsl y (List.mem_of_mem_drop hy)).1) (by rw [List.length_append, htk, List.length_drop]; simp; omega) hdn ty
    obtain ⟨A4, c4, rfl, _⟩ := row_form3 h2.1
    have ho2 := ho.kept h3 (own_apart ho h.1)
    refine ⟨A4, _, c4, w', h1, (hR.below h2.2).thaw 1, (h2.2.cell (p := ⟨p, 1, none⟩) hR.lt).trans c1, obj_fin hR h2.2 h2.1 fun y hy => ?_⟩
    have old : y ∈ fs → SlIn (Grow S w w') w' y.2 y.1.b ∧ y.1.wf := fun h3 => ⟨((hsl y h3).1.below h2.2).mono fun _ => .inl, (hsl y h3).2⟩
    rcases List.mem_append.1 hy with hy | hy
    · rcases List.mem_append.1 hy with hy | hy
      · exact old (List.mem_of_mem_take hy)
      · rw [List.mem_singleton.1 hy]
        exact ⟨ho2.slIn fun i hi hl => .inr ⟨hi, hl⟩, hn, hys, Nat.zero_le _⟩
    · exact old (List.mem_of_mem_drop hy)
end
end Go.Proofs.YtfbdmagonjjjoaaDoor
