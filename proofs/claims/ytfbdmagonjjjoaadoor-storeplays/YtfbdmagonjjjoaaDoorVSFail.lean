/- Contracts of the program's own New, Fail and turn of the store. -/
import Derived.Test.YtfbdmagonjjjoaaDoorVSLeft
import Derived.Test.YtfbdmagonjjjoaaDoorValid
import Derived.Deep.AppendSrc
import Derived.Deep.Upon
import Derived.Handy
namespace Go.Proofs.YtfbdmagonjjjoaaDoor
open Go.RowKit Go.Maps

theorem int_info : ∃ i, Tryd.prog.info? 3 = some i ∧ i.zero = some (.int .i64 0) ∧ i.size = 1 ∧ i.bytes = 8 := by
  have h : (Tryd.prog.info? 3).map (fun i => (i.zero, i.size, i.bytes)) = some (some (.int .i64 0), 1, 8) := by kernel_rfl
  obtain ⟨i, hi, he⟩ := Option.map_eq_some_iff.1 h
  exact ⟨i, hi, congrArg (·.1) he, congrArg (·.2.1) he, congrArg (·.2.2) he⟩

section
variable {P : Program} {w : World} {ops : Array Oper} {rest : List Oper} {o : Oper} {a : Go.Act} {Q : Exit → Go.Act → World → Prop}
/-- append by its run. -/
theorem wpList_append_run (hgd : o.guard = none) (s x : Operand) (t : TypeId) (ho : o.op = .call { callee := .builtin .append, args := #[s, x], argTypes := #[t, t] })
    (v u : Value) (hs : a.eval s = v) (hx : a.eval x = u) (v' : Value) (w' : World) (hrun : (Builtin.append_ #[t, t] o.type #[v, u]).run P w = .ok v' w')
    (h : wpList P ops Q rest (a.put o.dst v') w') : wpList P ops Q (o :: rest) a w := by
  refine wpList_wanted (by simp [Region.wanted, hgd]) fun K hK => ?_
  unfold Oper.wp execOp
  simp only [ho, resolve, invoke, builtin, Sem.run_bind, Sem.run_pure, Result.andThen_ok, List.map_toArray, List.map_cons, List.map_nil, hs, hx, hrun]
  exact hK _ _ h
end

theorem setCells_row (h : Nat) (t : TypeId) : ∀ (vs : List Value) (o : Nat) (w : World) (cur : Array Value), w.heap[h]? = some (.cells cur t (0, 0)) → ∃ cur', (w.setCells h o vs).heap[h]? = some (.cells cur' t (0, 0)) ∧ cur'.size = cur.size
  | [], _, _, cur, hw => ⟨cur, hw, rfl⟩
  | v :: r, o, w, cur, hw => by
    obtain ⟨c', h1, h2⟩ := setCells_row h t r (o + 1) (w.setCell ⟨h, o, none⟩ v) _ (Go.heap_setCell_same w h o cur t v hw)
    exact ⟨c', h1, by rw [h2]; simp⟩
theorem grownBy_setCells (h : Nat) : ∀ (vs : List Value) (o : Nat) (w : World), w.grownBy (w.setCells h o vs) (some h)
  | [], _, _ => ⟨rfl, rfl, rfl, Nat.le_refl _, fun _ _ _ => rfl⟩
  | v :: r, o, w => by
    have h1 := grownBy_setCells h r (o + 1) (w.setCell ⟨h, o, none⟩ v)
    refine ⟨h1.os, h1.tape, h1.output, ?_, fun k hk hn => ?_⟩
    · rw [World.setCells]; have := h1.size; simpa using this
    · rw [World.setCells, h1.block k (by simpa using hk) hn]
      exact heap_setCell_other _ _ _ _ (fun e => hn (by rw [e]))

section
variable {base : Nat} {S : Nat → Prop} {w w' : World} {p : Nat} {room u : Int} {fs : List FileP} {bad : List Int} {fv : Value}
/-- The numbers are others; all else is as it was. -/
theorem VStoreU.refail (hV : VStoreU base S w p room u fs bad) (hk : Keep S w w') (fv' : Value) (bad' : List Int)
    (hp : ∀ mo fv, w.heap[p]? = some (.cells (storeCells room u mo fv) 48 (0, 0)) → w'.heap[p]? = some (.cells (storeCells room u mo fv') 48 (0, 0)))
    (hs : ∀ i, i < w.heap.size → i ≠ p → (∀ cur, w.heap[i]? ≠ some (.cells cur 3 (0, 0))) → w'.heap[i]? = w.heap[i]?)
    (hf : FailsLie (Grow S w w') w' fv' bad') : Left base S w w' p room u fs bad' := by
  obtain ⟨mo, fv, hb, hm, _⟩ := hV.block
  refine ⟨hk, hV.within.grow hk.size, .inl hV.inS, ⟨mo, fv', hp mo fv hb, ?_, hf⟩, fun x hx => ?_, hV.row.apart, hV.row.rising⟩
  · rcases hm with h | ⟨mb, h1, h2, h3⟩
    · exact .inl h
    · refine .inr ⟨mb, h1, .inl h2, ownsMap_same h3 (hs mb h3.lt (map_apart hb h3).symm fun cur e => map_apart e h3 rfl)⟩
  · refine (hV.row.file x hx).same (fun _ => .inl) fun g hg => ?_
    obtain ⟨cur, hc⟩ := own_block (hV.row.file x hx).own hg
    refine hs g (Array.getElem?_eq_some_iff.1 hc).1 (cells_apart hc hb (by decide)) fun cur' e => ?_
    exact absurd rfl (cells_apart hc e (by decide))

/-- append onto the numbers, whatever has room. -/
theorem fails_append (hf : FailsLie S w fv bad) (A : Option Addr) (ys : List Int) (c : Nat) (ty : TypeId) (B : Nat) (hl : Lies .i64 w B A ys) (hA : A = none → c = 0) (hc : ys.length ≤ c) (hb : bad.length + ys.length ≤ 1000000000) :
    ∃ v' w' q, (Builtin.append_ #[33, 33] ty #[fv, .slice A ys.length c]).run Tryd.prog w = .ok v' w' ∧ FailsLie (Grow S w w') w' v' (bad ++ ys) ∧ w.grownBy w' q ∧ (∀ g, q = some g → S g ∧ ∃ cur, w.heap[g]? = some (.cells cur 3 (0, 0))) ∧ ∃ A' L' c', v' = .slice A' L' c' := by
  obtain ⟨i, hi, hz, hs, hby⟩ := int_info
  have ht : Tryd.prog.underlying 33 = some (.slice 3) := by kernel_rfl
  have hsrc : Src Tryd.prog i.size 33 (.slice A ys.length c) ys.length (ys.map (Value.int .i64)) w := by
    rw [hs]
    rcases A with _ | ad
    · obtain rfl : c = 0 := hA rfl
      obtain rfl : ys = [] := List.eq_nil_of_length_eq_zero (by omega)
      exact Src.ofNil w ht 0
    · refine Src.ofSlice w ht ad ys.length c _ (by simp) (fun j u hu => ?_) (oneCell_ints .i64 ys)
      have hj : j < ys.length := by
        rcases Nat.lt_or_ge j ys.length with h1 | h1
        · exact h1
        · rw [List.getElem?_eq_none (by simpa using h1)] at hu; cases hu
      obtain ⟨b, off, he, _, hcc⟩ := hl.at_ hj
      obtain rfl := Option.some.inj he
      rw [add_lit, hcc]
      simpa [hj] using hu
  have hlen : (bad ++ ys).length = bad.length + ys.length := by simp
  -- a new row
  have grow : ∀ (bs : Option Addr) (sc : Nat), fv = .slice bs bad.length sc → sc < bad.length + ys.length → (Builtin.firstCells i.size bad.length (.slice bs bad.length sc)).run Tryd.prog w.drew = .ok (bad.map (Value.int .i64)).toArray w.drew →
      ∃ v' w' q, (Builtin.append_ #[33, 33] ty #[fv, .slice A ys.length c]).run Tryd.prog w = .ok v' w' ∧ FailsLie (Grow S w w') w' v' (bad ++ ys) ∧ w.grownBy w' q ∧ (∀ g, q = some g → S g ∧ ∃ cur, w.heap[g]? = some (.cells cur 3 (0, 0))) ∧ ∃ A' L' c', v' = .slice A' L' c' := by
    rintro bs sc rfl hg hold
    have hrun := run_append_grow_src (P := Tryd.prog) w 33 33 ty 3 i (.int .i64 0) ht hi hz bs bad.length sc _ hold _ ys.length _ hsrc hg (by omega) (growslice_fits hg (by rw [hby]; omega))
    have hge := grownCap_ge w (bad.length + ys.length) sc 3
    have hcm := grownCap_le_maxLen w (bad.length + ys.length) sc 3 (by unfold maxLen; omega)
    refine ⟨_, _, none, hrun, ?_, ⟨rfl, rfl, rfl, by simp, fun k hk _ => Below.heap_alloc w.drew _ k hk⟩, (fun g h => by cases h), _, _, _, rfl⟩
    refine .inr ⟨w.heap.size, 0, _, (((bad.map (Value.int .i64)) ++ ys.map (Value.int .i64)).toArray ++ Builtin.zeroCells (Value.int .i64 0).cells (grownCap w (bad.length + ys.length) sc 3 - (bad.length + ys.length))), by rw [hlen], by rw [hlen]; exact hge, hcm, .inr ⟨Nat.le_refl _, by simp⟩, ?_, ?_, fun j hj => ?_⟩
    · show (w.heap.push _)[w.heap.size]? = _
      simp
    · rw [Array.size_append, size_zeroCells]
      have h1 : (Value.int IntKind.i64 0).cells.size = 1 := rfl
      simp only [List.size_toArray, List.length_append, List.length_map, h1, Nat.mul_one]
      omega
    · rw [Nat.zero_add, Array.getElem?_append_left (by simp; simpa using hj), List.getElem?_toArray, ← List.map_append]
      rw [List.getElem?_map, List.getElem?_eq_getElem hj]
      rfl
  rcases hf with ⟨rfl, rfl⟩ | ⟨h, o, c0, cur, rfl, h1, h2, h3, h4, h5, h6⟩
  · by_cases hy : ys = []
    · subst hy
      refine ⟨.slice none 0 0, w, none, ?_, .inl ⟨rfl, rfl⟩, ⟨rfl, rfl, rfl, Nat.le_refl _, fun _ _ _ => rfl⟩, (fun g h => by cases h), _, _, _, rfl⟩
      exact run_append_nothing (P := Tryd.prog) w 33 33 ty 3 i ht hi none 0 0 (Nat.le_refl _) _ hsrc
    · exact grow none 0 rfl (by have := List.length_pos_iff.2 hy; simpa using this) (by simpa using run_firstCells_none (P := Tryd.prog) w.drew i.size 0 0 0)
  · by_cases hr : bad.length + ys.length ≤ c0
    · have hcell : ∀ j, j < c0 → w.cell? ⟨h, o + j, none⟩ = cur[o + j]? := fun j _ => by unfold World.cell?; rw [h4]; rfl
      have hthere : ∀ j, j < (ys.map (Value.int IntKind.i64)).length → (w.cell? ⟨h, o + bad.length * i.size + j, none⟩).isSome = true := fun j hj => by
        rw [hs, Nat.mul_one, Nat.add_assoc, hcell _ (by simp at hj; omega), Array.getElem?_eq_getElem (by simp at hj; omega)]
        rfl
      have hrun := run_append_room_src (P := Tryd.prog) w 33 33 ty 3 i ht hi h o bad.length c0 _ ys.length _ hsrc hr hthere (fun j hj => by simp [World.frozen?, h4])
      obtain ⟨cur', e1, e2⟩ := setCells_row h 3 (ys.map (Value.int .i64)) (o + bad.length * i.size) w cur h4
      refine ⟨_, _, some h, hrun, .inr ⟨h, o, c0, cur', by rw [hlen], by rw [hlen]; exact hr, h2, .inl h3, e1, by rw [e2]; exact h5, fun j hj => ?_⟩, grownBy_setCells h _ _ w, (fun g e => by cases e; exact ⟨h3, cur, h4⟩), _, _, _, rfl⟩
      have e3 : ∀ k, cur'[k]? = (w.setCells h (o + bad.length * i.size) (ys.map (Value.int .i64))).cell? ⟨h, k, none⟩ := fun k => by unfold World.cell?; rw [e1]; rfl
      rw [e3]
      by_cases hj2 : j < bad.length
      · rw [World.cell?_setCells_out h _ _ w ⟨h, o + j, none⟩ (fun _ _ => .inl (by show o + j < _; rw [hs]; omega)), hcell j (by omega), h6 j hj2, List.getElem_append_left hj2]
      · have hj3 : j - bad.length < ys.length := by rw [hlen] at hj; omega
        have := World.cell?_setCells_in h _ _ w hthere (j - bad.length) (by simpa using hj3)
        rw [show o + bad.length * i.size + (j - bad.length) = o + j by rw [hs]; omega] at this
        rw [this, List.getElem_append_right (by omega)]
        simp
    · refine grow _ c0 rfl (by omega) (run_firstCells_some (P := Tryd.prog) w.drew i.size bad.length _ _ _ _ (by rw [hs]; simp) fun j v hv => ?_)
      have hj : j < bad.length := by
        rcases Nat.lt_or_ge j bad.length with h1 | h1
        · exact h1
        · rw [List.getElem?_eq_none (by simpa using h1)] at hv; cases hv
      rw [add_lit]
      show w.cell? _ = _
      unfold World.cell?
      rw [h4]
      show cur[o + j]? = _
      rw [h6 j hj]
      simpa [hj] using hv
end

set_option maxHeartbeats 400000 in
theorem vsnew_any (room : Int) (w : World) : Calls Tryd.prog 8 #[.int .i64 room] w fun e w' => e = .returned (.pointer (some ⟨w.heap.size, 0, none⟩)) ∧ w' = w.alloc (.cells (storeCells (max room 0) 0 none (.slice none 0 0)) 48) := by
  unfold storeCells
  go_enter Tryd.func8, Tryd.ntmps8
  go_wp2
  go_ret
  exact ⟨rfl, rfl⟩
theorem vsnew_store (base : Nat) (w : World) (room : Int) (hb : base ≤ w.heap.size) : VStore base (fun i => i = w.heap.size) (w.alloc (.cells (storeCells room 0 none (.slice none 0 0)) 48)) w.heap.size room [] [] := by
  refine ⟨⟨by simp; omega, fun i hi => by subst hi; simp; omega⟩, rfl, ⟨none, _, ?_, .inl ⟨rfl, rfl⟩, .inl ⟨rfl, rfl⟩⟩, ⟨fun x hx => (List.not_mem_nil hx).elim, List.Pairwise.nil, List.Pairwise.nil⟩⟩
  show (w.heap.push _)[w.heap.size]? = _
  simp
  rfl

section
variable {base : Nat} {S : Nat → Prop} {w w' : World} {p : Nat} {room u : Int} {fs : List FileP} {bad : List Int} {fv : Value}
/-- The numbers' slice is stored anew, behind what append has done. -/
theorem store_fails (hV : VStoreU base S w p room u fs bad) {q : Option Nat} (hg : w.grownBy w' q) (hq : ∀ g, q = some g → S g ∧ ∃ cur, w.heap[g]? = some (.cells cur 3 (0, 0))) {v : Value} {ys : List Int} (hf : FailsLie (Grow S w w') w' v ys) :
    Left base S w (w'.setCell ⟨p, 3, none⟩ v) p room u fs ys := by
  obtain ⟨mo0, fv0, hb0, _⟩ := hV.block
  have hpq : some p ≠ q := fun e => by
    obtain ⟨_, cur, hc⟩ := hq p e.symm
    exact cells_apart hc hb0 (by decide) rfl
  have hk : Keep S w w' := (Keep.refl S w).grown hg fun k e => .inl (hq k e).1
  refine hV.refail (hk.setCell (p := ⟨p, 3, none⟩) (.inl hV.inS) v) v ys (fun mo fv hp => ?_) (fun i hi hn hc => ?_) ?_
  · rw [Go.heap_setCell_same w' p 3 (storeCells room u mo fv) _ v (by rw [hg.block p hV.lt hpq]; exact hp)]
    rfl
  · rw [heap_setCell_other _ _ _ _ hn]
    exact hg.block i hi fun e => by
      obtain ⟨_, cur, h2⟩ := hq i e.symm
      exact hc cur h2
  · refine hf.same (fun i hi => ?_) fun i cur _ hc => heap_setCell_other _ _ _ _ fun e => ?_
    · rcases hi with h | h
      · exact .inl h
      · exact .inr (by simpa using h)
    · have e : i = p := e
      subst e
      rw [hg.block i hV.lt hpq] at hc
      exact cells_apart hc hb0 (by decide) rfl

set_option maxHeartbeats 800000 in
theorem vturn_any (hV : VStoreU base S w p room u fs bad) : Calls Tryd.prog 31 #[.pointer (some ⟨p, 0, none⟩)] w fun e w' => e = .returned (.int .i64 (bad.headD 0)) ∧ Left base S w w' p room u fs bad.tail := by
  obtain ⟨mo, fv, _, _, _, c3, _, hf⟩ := hV.cells
  have z3 := hV.thaw 3
  have hfin : bad = [] → Left base S w w p room u fs bad.tail := fun e => by subst e; exact Left.of_below hV (Below.refl _ _)
  have hsame : w.grownBy w none := ⟨rfl, rfl, rfl, Nat.le_refl _, fun _ _ _ => rfl⟩
  have hst := fun v ys h => store_fails (v := v) (ys := ys) hV hsame (fun g e => by cases e) h
  rcases hf with ⟨rfl, rfl⟩ | ⟨h, o, c, cur, rfl, h1, h2, h3, h4, h5, h6⟩
  · have HF := Lib.hid (hfin rfl)
    clear hV hfin hst hsame
    go_enter Tryd.func31, Tryd.ntmps31
    go_wp2
    go_ret
    exact ⟨rfl, HF.out⟩
  · cases bad with
    | nil =>
      have HF := Lib.hid (hfin rfl)
      rw [List.length_nil] at c3
      clear hV hfin hst hsame h1 h2 h3 h4 h5 h6
      go_enter Tryd.func31, Tryd.ntmps31
      go_wp2
      go_ret
      exact ⟨rfl, HF.out⟩
    | cons n r =>
      have hst2 := hst (.slice (some ⟨h, o + 1, none⟩) r.length (c - 1)) r (.inr ⟨h, o + 1, c - 1, cur, rfl, by simp at h1; omega, by omega, .inl h3, h4, by simp at h1; omega, fun j hj => by
        have := h6 (j + 1) (by simpa using hj)
        rw [show o + (j + 1) = o + 1 + j by omega] at this
        simpa using this⟩)
      have HF := Lib.hid hst2
      have hst3 : c = 1 → Left base S w (w.setCell ⟨p, 3, none⟩ (.slice (some ⟨h, o, none⟩) r.length 0)) p room u fs r := fun ec => hst _ r (.inr ⟨h, o, 0, cur, rfl, by simp at h1; omega, Nat.zero_le _, .inl h3, h4, by omega, fun j hj => by simp at h1; omega⟩)
      have HF3 := Lib.hid hst3
      have hc0 : w.cell? ⟨h, o, none⟩ = some (.int .i64 n) := by
        have := h6 0 (by simp)
        unfold World.cell?
        rw [h4]
        simpa using this
      rw [List.length_cons] at c3 h1
      obtain ⟨L, hL⟩ : ∃ L, r.length = L := ⟨_, rfl⟩
      rw [hL] at c3 h1 HF HF3
      unfold maxLen at h2
      show Calls _ _ _ _ fun e w' => e = .returned (.int .i64 n) ∧ Left base S w w' p room u fs r
      clear hV hfin hst hst2 hst3 hsame h3 h4 h5 h6 hL
      go_enter Tryd.func31, Tryd.ntmps31
      go_wp2
      · rename_i _ ec
        go_ret
        exact ⟨rfl, HF3.out (by assumption)⟩
      · go_ret
        exact ⟨rfl, HF.out⟩
set_option maxHeartbeats 800000 in
set_option maxRecDepth 4000 in
theorem vfail_any (hV : VStoreU base S w p room u fs bad) (A : Option Addr) (ys : List Int) (c B : Nat) (hl : Lies .i64 w B A ys) (hA : A = none → c = 0) (hc : ys.length ≤ c) (hb : bad.length + ys.length ≤ 1000000000) :
    Calls Tryd.prog 12 #[.pointer (some ⟨p, 0, none⟩), .slice A ys.length c] w fun e w' => e = .returned (.tuple #[]) ∧ Left base S w w' p room u fs (bad ++ ys) := by
  obtain ⟨mo, fv, hb0, _, hf⟩ := hV.block
  have c3 : w.cell? ⟨p, 3, none⟩ = some fv := by unfold World.cell?; rw [hb0]; rfl
  have HA := Lib.hid (fun ty => by
    obtain ⟨v', w1, q, hrun, h1, h2, h3, A', L', c', hv'⟩ := fails_append hf A ys c ty B hl hA hc hb
    have hpq : some p ≠ q := fun e => by
      obtain ⟨_, cur, hc⟩ := h3 p e.symm
      exact cells_apart hc hb0 (by decide) rfl
    have hp1 : w1.heap[p]? = some (.cells (storeCells room u mo fv) 48 (0, 0)) := by rw [h2.block p hV.lt hpq]; exact hb0
    exact (⟨A', L', c', w1, by rw [← hv']; exact hrun, by unfold World.cell?; rw [hp1]; rfl, by simp [World.frozen?, hp1], by rw [← hv']; exact store_fails hV h2 h3 h1⟩ :
      ∃ A' L' c' w1, (Builtin.append_ #[33, 33] ty #[fv, .slice A ys.length c]).run Tryd.prog w = .ok (.slice A' L' c') w1 ∧ w1.cell? ⟨p, 3, none⟩ = some fv ∧ w1.frozen? ⟨p, 3, none⟩ = false ∧ Left base S w (w1.setCell ⟨p, 3, none⟩ (.slice A' L' c')) p room u fs (bad ++ ys)))
  obtain ⟨L, hL⟩ : ∃ L, ys.length = L := ⟨_, rfl⟩
  rw [hL] at HA ⊢
  clear hV hl hA hc hb hf hb0
  go_enter Tryd.func12, Tryd.ntmps12
  go_wp2_with (at_builtin; obtain ⟨A', L', c', w1, hrun, d3, z3, FIN⟩ := HA.out 33; refine wpList_append_run rfl (.tmp 8) (.tmp 9) 33 rfl fv (.slice A L c) rfl rfl (.slice A' L' c') w1 hrun ?_)
  go_end0
  exact ⟨rfl, FIN⟩
end
end Go.Proofs.YtfbdmagonjjjoaaDoor
