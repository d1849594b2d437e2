/- The program's own table of groups: what a copy of its rows by one place, and stores into it, leave of its cells. -/
import Derived.Test.YtmghlfhdjdlkbaaDoorVGrpTab
namespace Go.Proofs.YtmghlfhdjdlkbaaDoor
open Go.RowKit

/-- The cells behind the copy that makes room for a row at place k of n. -/
def movedG (cs : Array Value) (k n : Nat) : Array Value := (cs.toList.take ((k + 1) * 2) ++ (cs.toList.drop (k * 2)).take ((n - k) * 2) ++ cs.toList.drop ((k + 1) * 2 + ((cs.toList.drop (k * 2)).take ((n - k) * 2)).length)).toArray
theorem movedG_at {cs : Array Value} {k n q : Nat} (hz : cs.size = 201) (hk : k ≤ n) (hn : n < 100) :
    (movedG cs k n)[q]? = if q < (k + 1) * 2 then cs[q]? else if q < (n + 1) * 2 then cs[q - 2]? else cs[q]? := by
  have hl : cs.toList.length = 201 := by simpa using hz
  have hseg : ((cs.toList.drop (k * 2)).take ((n - k) * 2)).length = (n - k) * 2 := by rw [List.length_take, List.length_drop, hl]; omega
  have h1 : (cs.toList.take ((k + 1) * 2)).length = (k + 1) * 2 := by rw [List.length_take, hl]; omega
  unfold movedG
  rw [List.getElem?_toArray, hseg]
  by_cases c1 : q < (k + 1) * 2
  · rw [if_pos c1, List.getElem?_append_left (by rw [List.length_append, h1]; omega), List.getElem?_append_left (by omega), List.getElem?_take_of_lt c1, Array.getElem?_toList]
  · rw [if_neg c1]
    by_cases c2 : q < (n + 1) * 2
    · rw [if_pos c2, List.getElem?_append_left (by rw [List.length_append, h1, hseg]; omega), List.getElem?_append_right (by omega), h1, List.getElem?_take_of_lt (by omega), List.getElem?_drop, Array.getElem?_toList]
      congr 1
      omega
    · rw [if_neg c2, List.getElem?_append_right (by rw [List.length_append, h1, hseg]; omega), List.length_append, h1, hseg, List.getElem?_drop, Array.getElem?_toList]
      congr 1
      omega
theorem movedG_size {cs : Array Value} {k n : Nat} (hz : cs.size = 201) (hk : k ≤ n) (hn : n < 100) : (movedG cs k n).size = 201 := by
  have hl : cs.toList.length = 201 := by simpa using hz
  have hseg : ((cs.toList.drop (k * 2)).take ((n - k) * 2)).length = (n - k) * 2 := by rw [List.length_take, List.length_drop, hl]; omega
  unfold movedG
  rw [List.size_toArray, hseg, List.length_append, List.length_append, hseg, List.length_take, List.length_drop, hl]
  omega
/-- A row's two cells, stored one by one. -/
def rowG (cs : Array Value) (k : Nat) (x : PlaceM) : Array Value := (cs.setIfInBounds (k * 2) (.string x.name)).setIfInBounds (k * 2 + 1) (.int .i64 x.off)
theorem rowG_size {cs : Array Value} {k : Nat} {x : PlaceM} : (rowG cs k x).size = cs.size := by simp [rowG]
theorem rowG_far {cs : Array Value} {k q : Nat} {x : PlaceM} (h : q < k * 2 ∨ k * 2 + 2 ≤ q) : (rowG cs k x)[q]? = cs[q]? := by
  unfold rowG
  rw [Array.getElem?_setIfInBounds_ne (by omega), Array.getElem?_setIfInBounds_ne (by omega)]
theorem rowG_here {cs : Array Value} {k j : Nat} {x : PlaceM} {u : Value} (h : k * 2 + 2 ≤ cs.size) (hu : (placeCells x)[j]? = some u) : (rowG cs k x)[k * 2 + j]? = some u := by
  have hj : j < 2 := by
    rcases Nat.lt_or_ge j 2 with h1 | h1
    · exact h1
    · rw [List.getElem?_eq_none (by simpa [placeCells] using h1)] at hu; cases hu
  unfold rowG
  have hc : j = 0 ∨ j = 1 := by omega
  rcases hc with rfl | rfl
  · rw [Array.getElem?_setIfInBounds_ne (by omega), Nat.add_zero, Array.getElem?_setIfInBounds_self_of_lt (by omega)]
    exact hu
  · rw [Array.getElem?_setIfInBounds_self_of_lt (by simp; omega)]
    exact hu
theorem rowG_one {cs : Array Value} {k : Nat} {x : PlaceM} (h1 : ∀ (q : Nat) (u : Value), cs[q]? = some u → u.oneCell' = true) : ∀ (q : Nat) (u : Value), (rowG cs k x)[q]? = some u → u.oneCell' = true := by
  intro q u hu
  unfold rowG at hu
  rw [Array.getElem?_setIfInBounds] at hu
  split at hu
  · split at hu
    · injection hu with hu; subst hu; rfl
    · cases hu
  rw [Array.getElem?_setIfInBounds] at hu
  split at hu
  · split at hu
    · injection hu with hu; subst hu; rfl
    · cases hu
  exact h1 q u hu
theorem placeCells_lt {x : PlaceM} {j : Nat} {u : Value} (hu : (placeCells x)[j]? = some u) : j < 2 := by
  rcases Nat.lt_or_ge j 2 with h1 | h1
  · exact h1
  · rw [List.getElem?_eq_none (by simpa [placeCells] using h1)] at hu; cases hu
/-- A row's offset alone, stored. -/
theorem GTabCells.off {l : List PlaceM} {cs : Array Value} (h : GTabCells l cs) (x : PlaceM) {k : Nat} (hk : k < l.length) (hx : l[k].name = x.name) (hfew : l.length ≤ 100) :
    GTabCells (l.take k ++ x :: l.drop (k + 1)) (cs.setIfInBounds (k * 2 + 1) (.int .i64 x.off)) := by
  have e : l.take k ++ x :: l.drop (k + 1) = l.set k x := (List.set_eq_take_append_cons_drop (a := x) (l := l) (i := k) ▸ by simp [hk])
  rw [e]
  have hz := h.size
  refine ⟨by rw [Array.size_setIfInBounds]; exact hz, fun i hi j u hu => ?_, ?_, fun q u hu => ?_⟩
  · have hj := placeCells_lt hu
    have hi2 : i < l.length := by rw [List.length_set] at hi; exact hi
    by_cases hik : i = k
    · subst hik
      rw [List.getElem_set_self] at hu
      have hc : j = 0 ∨ j = 1 := by omega
      rcases hc with rfl | rfl
      · rw [Array.getElem?_setIfInBounds_ne (by omega)]
        refine h.rows i hi2 0 u ?_
        show some (Value.string l[i].name) = some u
        rw [hx]
        exact hu
      · rw [Array.getElem?_setIfInBounds_self_of_lt (by omega)]
        exact hu
    · rw [List.getElem_set_ne (Ne.symm hik)] at hu
      rw [Array.getElem?_setIfInBounds_ne (by omega)]
      exact h.rows i hi2 j u hu
  · rw [Array.getElem?_setIfInBounds_ne (by omega), List.length_set]
    exact h.count
  · rw [Array.getElem?_setIfInBounds] at hu
    split at hu
    · split at hu
      · injection hu with hu; subst hu; rfl
      · cases hu
    · exact h.one q u hu
/-- A row that is put between two. -/
theorem GTabCells.between {l : List PlaceM} {cs : Array Value} (h : GTabCells l cs) (x : PlaceM) {k : Nat} (hk : k ≤ l.length) (hfew : l.length < 100) :
    GTabCells (l.take k ++ x :: l.drop k) ((rowG (movedG cs k l.length) k x).setIfInBounds 200 (.int .i64 ((l.length : Int) + 1))) := by
  have hms := movedG_size h.size hk hfew
  have hlen : (l.take k ++ x :: l.drop k).length = l.length + 1 := by rw [List.length_append, List.length_cons, List.length_take, List.length_drop]; omega
  have htk : (l.take k).length = k := by rw [List.length_take]; omega
  refine ⟨by rw [Array.size_setIfInBounds, rowG_size, hms], fun i hi j u hu => ?_, ?_, fun q u hu => ?_⟩
  · have hj := placeCells_lt hu
    rw [hlen] at hi
    rcases Nat.lt_trichotomy i k with h1 | h1 | h1
    · rw [List.getElem_append_left (by omega), List.getElem_take] at hu
      rw [Array.getElem?_setIfInBounds_ne (by omega), rowG_far (by omega), movedG_at h.size hk hfew, if_pos (by omega)]
      exact h.rows i (by omega) j u hu
    · subst h1
      rw [List.getElem_append_right (by omega)] at hu
      simp only [htk, Nat.sub_self, List.getElem_cons_zero] at hu
      rw [Array.getElem?_setIfInBounds_ne (by omega)]
      exact rowG_here (by rw [hms]; omega) hu
    · obtain ⟨m, rfl⟩ : ∃ m, i = k + 1 + m := ⟨i - (k + 1), by omega⟩
      have e : (l.take k ++ x :: l.drop k)[k + 1 + m]'(by rw [hlen]; exact hi) = l[k + m]'(by omega) := by
        rw [List.getElem_append_right (by omega)]
        simp only [htk, show k + 1 + m - k = m + 1 by omega, List.getElem_cons_succ, List.getElem_drop]
      rw [e] at hu
      rw [Array.getElem?_setIfInBounds_ne (by omega), rowG_far (by omega), movedG_at h.size hk hfew, if_neg (by omega), if_pos (by omega), show (k + 1 + m) * 2 + j - 2 = (k + m) * 2 + j by omega]
      exact h.rows (k + m) (by omega) j u hu
  · rw [Array.getElem?_setIfInBounds_self_of_lt (by rw [rowG_size, hms]; omega), hlen]
    rfl
  · rw [Array.getElem?_setIfInBounds] at hu
    split at hu
    · split at hu
      · injection hu with hu; subst hu; rfl
      · cases hu
    · refine rowG_one (fun q u hu => ?_) q u hu
      rw [movedG_at h.size hk hfew] at hu
      split at hu
      · exact h.one _ _ hu
      · split at hu
        · exact h.one _ _ hu
        · exact h.one _ _ hu
/-- The count, behind the copy and the row. -/
theorem GTabCells.counted {l : List PlaceM} {cs : Array Value} (h : GTabCells l cs) (x : PlaceM) {k : Nat} (hk : k ≤ l.length) (hfew : l.length < 100) : (rowG (movedG cs k l.length) k x)[200]? = some (.int .i64 (l.length : Int)) := by
  rw [rowG_far (by omega), movedG_at h.size hk hfew, if_neg (by omega), if_neg (by omega)]
  exact h.count
/-- The copy that makes room for a row at place k of n. -/
theorem run_copy_gtab (w : World) (g k n ty : Nat) (cs : Array Value) (hz : cs.size = 201) (h1 : ∀ (q : Nat) (u : Value), cs[q]? = some u → u.oneCell' = true) (hg : w.heap[g]? = some (.cells cs 28)) (hk : k ≤ n) (hn : n < 100) :
    (Builtin.copy_ #[41, 41] ty #[.slice (gtabAt g (k + 1)) (100 - (k + 1)) (100 - (k + 1)), .slice (gtabAt g k) (n - k) (100 - k)]).run Tryd.prog w = .ok (goInt (n - k : Nat)) (w.setRow g (movedG cs k n)) := by
  have hl : cs.toList.length = 201 := by simpa using hz
  obtain ⟨seg, hsg⟩ : ∃ seg, (cs.toList.drop (k * 2)).take ((n - k) * 2) = seg := ⟨_, rfl⟩
  have hseg : seg.length = (n - k) * 2 := by rw [← hsg, List.length_take, List.length_drop, hl]; omega
  have hsub : ∀ (j : Nat) (v : Value), seg[j]? = some v → cs[k * 2 + j]? = some v := by
    intro j v hv
    have hj : j < (n - k) * 2 := by
      rcases Nat.lt_or_ge j ((n - k) * 2) with h | h
      · exact h
      · rw [List.getElem?_eq_none (by omega)] at hv; cases hv
    rw [← hsg, List.getElem?_take_of_lt hj, List.getElem?_drop, Array.getElem?_toList] at hv
    exact hv
  have hload : (loadCells ⟨g, k * 2, none⟩ seg.length).run Tryd.prog w = .ok seg.toArray w := run_loadCells_list (P := Tryd.prog) w ⟨g, k * 2, none⟩ seg fun j v hv => by
    rw [add_lit]
    unfold World.cell?
    rw [hg]
    exact hsub j v hv
  have hst := run_storeCells_at Tryd.prog g ((k + 1) * 2) 28 seg 0 cs w hg (by rw [hseg]; omega) fun v hv => by
    obtain ⟨j, hj, rfl⟩ := List.getElem_of_mem hv
    exact h1 _ _ (hsub j _ (List.getElem?_eq_getElem hj))
  have hu : Tryd.prog.underlying 41 = some (.slice 25) := by kernel_rfl
  have hsz : ∀ w : World, (sizeOf 25).run Tryd.prog w = .ok 2 w := fun w => by kernel_rfl
  have hmin : Nat.min (n - k) (100 - (k + 1)) = n - k := Nat.min_eq_left (by omega)
  have hmv : w.setRow g (cs.toList.take ((k + 1) * 2 + 0) ++ seg ++ cs.toList.drop ((k + 1) * 2 + 0 + seg.length)).toArray = w.setRow g (movedG cs k n) := by
    unfold movedG
    rw [hsg]
    rfl
  rw [hmv] at hst
  have ek : gtabAt g k = some ⟨g, k * 2, none⟩ := by unfold gtabAt; rw [if_neg (by omega)]
  have hst2 : (storeCells ((if 100 = k + 1 then ⟨g, 0, none⟩ else ⟨g, (k + 1) * 2, none⟩ : Addr)) seg 0).run Tryd.prog w = .ok () (w.setRow g (movedG cs k n)) := by
    by_cases h99 : 100 = k + 1
    · have hs0 : seg = [] := List.eq_nil_of_length_eq_zero (by rw [hseg]; omega)
      subst hs0
      exact hst
    · rw [if_neg h99]
      exact hst
  rw [ek]
  unfold gtabAt
  rw [hseg] at hload
  unfold Builtin.copy_
  simp only [List.getElem?_toArray, List.getElem?_cons_zero, List.getElem?_cons_succ, run_underlying hu, Builtin.lenOf, Builtin.firstCells, hsz, Sem.run_bind, Sem.run_pure, Result.andThen_ok, hmin, hload, hst2]
theorem wp_copy_gtab {w : World} {o : Oper} {a : Act} {Q : Exit → Act → World → Prop} {K : Act → World → Prop} (d s : Operand) (ho : o.op = .call { callee := .builtin .copy, args := #[d, s], argTypes := #[41, 41] })
    (g k n : Nat) (hd : a.eval d = .slice (gtabAt g (k + 1)) (99 - k) (99 - k)) (hs : a.eval s = .slice (gtabAt g k) (n - k) (100 - k)) (cs : Array Value)
    (hrun : (Builtin.copy_ #[41, 41] o.type #[.slice (gtabAt g (k + 1)) (99 - k) (99 - k), .slice (gtabAt g k) (n - k) (100 - k)]).run Tryd.prog w = .ok (goInt (n - k : Nat)) (w.setRow g cs))
    (h : K (a.put o.dst (goInt (n - k : Nat))) (w.setRow g cs)) : o.wp Tryd.prog a w K Q := by
  unfold Oper.wp execOp
  simp only [ho, resolve, invoke, builtin, Sem.run_bind, Sem.run_pure, Result.andThen_ok, List.map_toArray, List.map_cons, List.map_nil, hs, hd, hrun]
  exact h
end Go.Proofs.YtmghlfhdjdlkbaaDoor
