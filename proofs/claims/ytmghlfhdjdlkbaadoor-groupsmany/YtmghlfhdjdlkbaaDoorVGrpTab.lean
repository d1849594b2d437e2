/- The program's own table of groups: how it lies (an array of a hundred rows and a count, in one block), and what find answers. -/
import Derived.Test.YtmghlfhdjdlkbaaDoorVGrpRow
import Derived.Test.YtmghlfhdjdlkbaaDoorGrpWords
namespace Go.Proofs.YtmghlfhdjdlkbaaDoor
open Go.RowKit

/-- The cells of the zero table. -/
def zeroTabG : Array Value := ((List.range 201).map fun i => if i = 200 ∨ i % 2 = 1 then Value.int .i64 0 else Value.string ⟨#[]⟩).toArray
theorem zeroTabG_at {k : Nat} (hk : k < 201) : zeroTabG[k]? = some (if k = 200 ∨ k % 2 = 1 then Value.int .i64 0 else Value.string ⟨#[]⟩) := by
  unfold zeroTabG
  rw [List.getElem?_toArray, List.getElem?_map, List.getElem?_range hk]
  rfl
/-- The zero table, as it is laid. -/
abbrev gtabO : Obj := .cells zeroTabG 28
theorem gtab_zero (w : World) : Sem.run Tryd.prog (zeroValue 28) w = .ok (.agg zeroTabG) w := by kernel_rfl
/-- The rows l are the first ones of these cells, and their number the last one. -/
structure GTabCells (l : List PlaceM) (cs : Array Value) : Prop where
  size : cs.size = 201
  rows : ∀ i (h : i < l.length) j u, (placeCells l[i])[j]? = some u → cs[i * 2 + j]? = some u
  count : cs[200]? = some (.int .i64 (l.length : Int))
  one : ∀ (k : Nat) (u : Value), cs[k]? = some u → u.oneCell' = true
theorem GTabCells.zero : GTabCells [] zeroTabG := ⟨by simp [zeroTabG], fun i h => absurd h (Nat.not_lt_zero i), zeroTabG_at (by omega), fun k u hu => by
  have hk : k < 201 := by
    rcases Nat.lt_or_ge k 201 with h | h
    · exact h
    · rw [Array.getElem?_eq_none (by simpa [zeroTabG] using h)] at hu; cases hu
  rw [zeroTabG_at hk] at hu
  injection hu with hu
  subst hu
  split <;> rfl⟩
/-- The program's table lies in block g, with all that it points to in the blocks S. -/
def GTab (base : Nat) (S : Nat → Prop) (w : World) (g : Nat) (l : List PlaceM) : Prop :=
  Within base S w ∧ S g ∧ PlacesM l ∧ ∃ cs, w.heap[g]? = some (.cells cs 28) ∧ GTabCells l cs
section
variable {base g : Nat} {S U : Nat → Prop} {w w' : World} {l : List PlaceM}
theorem GTab.within (h : GTab base S w g l) : Within base S w := h.1
theorem GTab.at_ (h : GTab base S w g l) : S g := h.2.1
theorem GTab.tab (h : GTab base S w g l) : PlacesM l := h.2.2.1
theorem GTab.keep (h : GTab base S w g l) (hk : Keep U w w') (ha : ∀ i, S i → ¬ U i) : GTab base S w' g l := by
  obtain ⟨h1, h2, h3, cs, h4, h5⟩ := h
  exact ⟨h1.more hk.size, h2, h3, cs, (hk.block g (h1.2 g h2).2 (ha g h2)).trans h4, h5⟩
theorem GTab.rows (h : GTab base S w g l) : RowsLie placeRep w S (some ⟨g, 0, none⟩) l 100 := by
  obtain ⟨h1, h2, h3, cs, h4, h5⟩ := h
  refine ⟨fun _ => ⟨g, 0, rfl, (h1.2 g h2).2, h2, fun i hi => ⟨placeCells l[i], rfl, fun j u hu => ?_⟩⟩, h3.few, by simp [maxLen]⟩
  have := h5.rows i hi j u hu
  unfold World.cell?
  rw [h4]
  show cs[0 + i * 2 + j]? = some u
  rw [Nat.zero_add]
  exact this
theorem GTab.count (h : GTab base S w g l) : w.cell? ⟨g, 200, none⟩ = some (.int .i64 (l.length : Int)) := by
  obtain ⟨_, _, _, cs, h4, h5⟩ := h
  unfold World.cell?
  rw [h4]
  exact h5.count
theorem GTab.cellAt (h : GTab base S w g l) {k : Nat} (hk : k < 201) : ∃ u, w.cell? ⟨g, k, none⟩ = some u := by
  obtain ⟨_, _, _, cs, h4, h5⟩ := h
  refine ⟨cs[k]'(by rw [h5.size]; exact hk), ?_⟩
  unfold World.cell?
  rw [h4]
  exact Array.getElem?_eq_getElem _
end
theorem gtab_new (w : World) {base : Nat} (hb : base ≤ w.heap.size) : GTab base (fun i => i = w.heap.size) (w.alloc gtabO) w.heap.size [] :=
  ⟨⟨by simp; omega, fun i hi => by subst hi; simp; omega⟩, rfl, PlacesM.nil, zeroTabG, heap_alloc_new w _, GTabCells.zero⟩
/-- What a call on a table leaves: its rows, and that nothing else was written. -/
def GrLeft (base : Nat) (S : Nat → Prop) (w w' : World) (g : Nat) (l : List PlaceM) : Prop := ∃ S', (∀ i, S' i → Grow S w w' i) ∧ Keep S w w' ∧ GTab base S' w' g l
/-! ### Slices of the array -/
theorem gtab_under : Tryd.prog.underlying 26 = some (.array (Tryd.prog.arrayLen 26) (Tryd.prog.elem 26)) := by kernel_rfl
theorem gtab_len : Tryd.prog.arrayLen 26 = 100 := by kernel_rfl
theorem gtab_size (w : World) : (sizeOf (Tryd.prog.elem 26)).run Tryd.prog w = .ok 2 w := by kernel_rfl
theorem slice_gtab_h (g n : Nat) (w : World) (hn : n ≤ 100) : (Instr.sliceAt 26 (.pointer (some ⟨g, 0, none⟩)) none (some (.int .i64 (n : Int))) none).run Tryd.prog w = .ok (.slice (some ⟨g, 0, none⟩) n 100) w := by
  rw [run_sliceAt_array_h w _ _ gtab_under .i64 n (by omega) (by rw [gtab_len]; omega), gtab_size, gtab_len]
  simp [slicedAt, Result.andThen, add_lit]
/-- Where a slice of the array begins. -/
def gtabAt (g k : Nat) : Option Addr := some (if 100 = k then ⟨g, 0, none⟩ else ⟨g, k * 2, none⟩)
theorem slice_gtab_lh (g k n : Nat) (w : World) (hk : k ≤ n) (hn : n ≤ 100) : (Instr.sliceAt 26 (.pointer (some ⟨g, 0, none⟩)) (some (.int .i64 (k : Int))) (some (.int .i64 (n : Int))) none).run Tryd.prog w = .ok (.slice (gtabAt g k) (n - k) (100 - k)) w := by
  rw [run_sliceAt_array_lh w _ _ gtab_under .i64 .i64 k n (by omega) (by omega) (by rw [gtab_len]; omega), gtab_size, gtab_len]
  simp [slicedAt, Result.andThen, add_lit, gtabAt]
theorem slice_gtab_l (g k : Nat) (w : World) (hk : k ≤ 100) : (Instr.sliceAt 26 (.pointer (some ⟨g, 0, none⟩)) (some (.int .i64 (k : Int))) none none).run Tryd.prog w = .ok (.slice (gtabAt g k) (100 - k) (100 - k)) w := by
  rw [run_sliceAt_array_l w _ _ gtab_under .i64 k (by omega) (by rw [gtab_len]; omega), gtab_size, gtab_len]
  simp [slicedAt, Result.andThen, add_lit, gtabAt]
/-- A table, and the world since w0. -/
def GTabAt (base : Nat) (S : Nat → Prop) (w0 : World) (g : Nat) (l : List PlaceM) (W : World) : Prop := GTab base S W g l ∧ Below w0.heap.size w0 W
theorem GTabAt.below {base g : Nat} {S : Nat → Prop} {w0 w w' : World} {l : List PlaceM} (h : GTabAt base S w0 g l w) (hb : Below w.heap.size w w') : GTabAt base S w0 g l w' :=
  ⟨h.1.keep (U := Nobody) (Keep.of_below hb) fun _ _ h => h, h.2.trans (hb.mono h.2.size)⟩
set_option maxHeartbeats 1600000 in
theorem gfind_any {base g : Nat} {S : Nat → Prop} {w : World} {l : List PlaceM} (h : GTab base S w g l) (p : ByteArray) :
    Calls Tryd.prog 14 #[.pointer (some ⟨g, 0, none⟩), .string p] w (fun e w' => ∃ k : Nat, StandsN l p k ∧ e = .returned (.tuple #[.int .i64 k, .bool (decide (∃ h : k < l.length, l[k].name = p))]) ∧ Below w.heap.size w w') := by
  have HC := Lib.hid (fun (W : World) (h : GTabAt base S w g l W) => gsearch_any W S _ l 100 h.1.tab.sorted h.1.rows (fun b hb => (h.1.within.2 b hb).2) h.1.tab.few p)
  have hc := h.count
  have hg := cell_block_lt hc
  have hfew := h.tab.few
  have hsl := fun (W : World) => slice_gtab_h g l.length W hfew
  have HT : Hid (GTabAt base S w g l w.drew) := Lib.hid (show GTabAt base S w g l w.drew from GTabAt.below (w := w) ⟨h, Below.refl _ _⟩ (below_drewN (Below.refl w.heap.size w) 1))
  clear h
  go_enter Tryd.func14, Tryd.ntmps14
  go_wp2_with fail
  refine wp_region_held_drew (S := fun W => W.cell? ⟨g, 200, none⟩ = some (.int .i64 (l.length : Int)) ∧ Hid (GTabAt base S w g l W)) (by kernel_rfl) ⟨hc, HT⟩ (fun hHeld => ?_)
  refine held_take 0 6 (v := ?v1) rfl rfl (by kernel_rfl) (by kernel_rfl) (by kernel_rfl) (fun _ _ _ h => h) hHeld (Or.inl ⟨by rfl, ?y1⟩) ?r1
  case y1 => intro w hSw; (try dsimp only at hSw); go_simp; (try with_reducible rfl)
  simp only [List.setIfInBounds_toArray, List.set_cons_zero, List.set_cons_succ]
  refine held_take 1 7 (v := ?v2) rfl rfl (by kernel_rfl) (by kernel_rfl) (by kernel_rfl) (fun _ _ _ h => h) hHeld (Or.inl ⟨by rfl, ?y2⟩) ?r2
  case y2 => intro w hSw; (try dsimp only at hSw); go_simp; (try with_reducible rfl)
  simp only [List.setIfInBounds_toArray, List.set_cons_zero, List.set_cons_succ]
  refine held_take 2 8 (v := ?v3) rfl rfl (by kernel_rfl) (by kernel_rfl) (by kernel_rfl) (fun _ _ _ h => h) hHeld (Or.inl ⟨by rfl, ?y3⟩) ?r3
  case y3 => intro w hSw; (try dsimp only at hSw); go_simp; (try with_reducible rfl)
  simp only [List.setIfInBounds_toArray, List.set_cons_zero, List.set_cons_succ]
  refine held_take 3 9 (v := ?v4) rfl rfl (by kernel_rfl) (by kernel_rfl) (by kernel_rfl) (fun _ _ _ h => h) hHeld (Or.inl ⟨by rfl, ?y4⟩) ?r4
  case y4 => intro w hSw; (try dsimp only at hSw); go_simp; (try with_reducible rfl)
  simp only [List.setIfInBounds_toArray, List.set_cons_zero, List.set_cons_succ]
  refine held_take 4 10 (v := ?v5) rfl rfl (by kernel_rfl) (by kernel_rfl) (by kernel_rfl) (fun _ _ _ h => h) hHeld (Or.inl ⟨by rfl, ?y5⟩) ?r5
  case y5 => intro w hSw; (try dsimp only at hSw); go_simp; (try with_reducible rfl)
  simp only [List.setIfInBounds_toArray, List.set_cons_zero, List.set_cons_succ]
  refine held_take 5 11 (v := ?v6) rfl rfl (by kernel_rfl) (by kernel_rfl) (by kernel_rfl) (fun _ _ _ h => h) hHeld (Or.inl ⟨by rfl, ?y6⟩) ?r6
  case y6 => intro w hSw; (try dsimp only at hSw); go_simp; (try with_reducible rfl)
  simp only [List.setIfInBounds_toArray, List.set_cons_zero, List.set_cons_succ]
  refine held_take 6 12 (v := ?v7) rfl rfl (by kernel_rfl) (by kernel_rfl) (by kernel_rfl) (fun _ _ _ h => h) hHeld (Or.inl ⟨by rfl, ?y7⟩) ?r7
  case y7 => intro w hSw; (try dsimp only at hSw); go_simp; (try with_reducible rfl)
  simp only [List.setIfInBounds_toArray, List.set_cons_zero, List.set_cons_succ]
  refine held_take 7 13 (v := ?v8) rfl rfl (by kernel_rfl) (by kernel_rfl) (by kernel_rfl) (fun _ _ _ h => h) hHeld (Or.inl ⟨by rfl, ?y8⟩) ?r8
  case y8 => intro w hSw; (try dsimp only at hSw); go_simp; (try with_reducible rfl)
  simp only [List.setIfInBounds_toArray, List.set_cons_zero, List.set_cons_succ]
  refine held_take 8 14 (v := ?v9) rfl rfl (by kernel_rfl) (by kernel_rfl) (by kernel_rfl) (fun _ _ _ h => h) hHeld (Or.inl ⟨by rfl, ?y9⟩) ?r9
  case y9 => intro w hSw; (try dsimp only at hSw); go_simp; (try with_reducible rfl)
  simp only [List.setIfInBounds_toArray, List.set_cons_zero, List.set_cons_succ]
  refine wpAnyH_ready (rs := [9]) (by kernel_rfl) (by simp) ?_
  refine AllReadyH.cons rfl (fun K hK => ?_) AllReadyH.nil
  (try rw [if_pos (by rfl)])
  go_simp
  refine (HC.out _ hHeld.2.out).mono ?_
  rintro e W2 ⟨k, hk, rfl, hb2⟩
  have HT2 := Lib.hid (hHeld.2.out.below hb2)
  clear hHeld
  refine hK.out _ _ ⟨HT2.out.1.count, HT2⟩ (fun hHeld => ?_)
  clear hK K
  (try simp only [Act.put, List.setIfInBounds_toArray, List.set_cons_zero, List.set_cons_succ])
  refine held_take 10 16 (v := ?v10) rfl rfl (by kernel_rfl) (by kernel_rfl) (by kernel_rfl) (fun _ _ _ h => h) hHeld (Or.inl ⟨by rfl, ?y10⟩) ?r10
  case y10 => intro w hSw; (try dsimp only at hSw); go_simp; (try with_reducible rfl)
  simp only [List.setIfInBounds_toArray, List.set_cons_zero, List.set_cons_succ]
  refine held_take 11 17 (v := ?v11) rfl rfl (by kernel_rfl) (by kernel_rfl) (by kernel_rfl) (fun _ _ _ h => h) hHeld (Or.inl ⟨by rfl, ?y11⟩) ?r11
  case y11 => intro w hSw; (try dsimp only at hSw); go_simp; (try with_reducible rfl)
  simp only [List.setIfInBounds_toArray, List.set_cons_zero, List.set_cons_succ]
  refine held_take 12 4 (v := ?v12) rfl rfl (by kernel_rfl) (by kernel_rfl) (by kernel_rfl) (fun _ _ _ h => h) hHeld (Or.inl ⟨by rfl, ?y12⟩) ?r12
  case y12 => intro w hSw; (try dsimp only at hSw); go_simp; (try with_reducible rfl)
  simp only [List.setIfInBounds_toArray, List.set_cons_zero, List.set_cons_succ]
  refine held_take 13 5 (v := ?v13) rfl rfl (by kernel_rfl) (by kernel_rfl) (by kernel_rfl) (fun _ _ _ h => h) hHeld (Or.inl ⟨by rfl, ?y13⟩) ?r13
  case y13 => intro w hSw; (try dsimp only at hSw); go_simp; (try with_reducible rfl)
  simp only [List.setIfInBounds_toArray, List.set_cons_zero, List.set_cons_succ]
  refine wpAnyH_done (by kernel_rfl) ?_ _
  have HT3 := Lib.hid hHeld.2.out.2
  go_wp2
  go_ret2
  exact ⟨k, hk, rfl, HT3.out⟩
end Go.Proofs.YtmghlfhdjdlkbaaDoor
