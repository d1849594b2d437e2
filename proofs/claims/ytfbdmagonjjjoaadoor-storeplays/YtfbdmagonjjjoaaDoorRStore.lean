/- The document's own store in memory: its block, its row of objects, their bytes, its numbers; append of objects. No statement of the program is proved here. -/
import Derived.Test.YtfbdmagonjjjoaaDoorKeep
import Derived.Test.YtfbdmagonjjjoaaDoorDiskNum
namespace Go.Proofs.YtfbdmagonjjjoaaDoor
open Go.RowKit

abbrev FileV := FileM × Value
/-- The files, without where their bytes lie. -/
def filesOf (fs : List FileV) : List FileM := fs.map Prod.fst
theorem filesOf_length (fs : List FileV) : (filesOf fs).length = fs.length := by simp [filesOf]
theorem filesOf_at (fs : List FileV) (i : Nat) (h : i < fs.length) : (filesOf fs)[i]'(by rw [filesOf_length]; exact h) = fs[i].1 := by simp [filesOf]
def objCs (x : FileV) : List Value := [.string x.1.name, x.2]
def objsCs (fs : List FileV) : List Value := fs.flatMap objCs
theorem objsCs_length (fs : List FileV) : (objsCs fs).length = fs.length * 2 := by
  induction fs with
  | nil => rfl
  | cons a t ih =>
    unfold objsCs at ih ⊢
    rw [List.flatMap_cons, List.length_append, ih, List.length_cons]
    show 2 + t.length * 2 = (t.length + 1) * 2
    omega
theorem objsCs_at : ∀ (fs : List FileV) (i j : Nat) (hi : i < fs.length), j < 2 → (objsCs fs)[i * 2 + j]? = (objCs fs[i])[j]?
  | a :: t, 0, j, _, hj => by
    unfold objsCs
    rw [List.flatMap_cons, Nat.zero_mul, Nat.zero_add, List.getElem?_append_left (by exact hj)]
    rfl
  | a :: t, i + 1, j, hi, hj => by
    have ih := objsCs_at t i j (by simpa using hi) hj
    unfold objsCs at ih ⊢
    rw [List.flatMap_cons, List.getElem?_append_right (by show 2 ≤ _; omega)]
    rw [show (i + 1) * 2 + j - (objCs a).length = i * 2 + j by show (i + 1) * 2 + j - 2 = _; omega, ih]
    rfl
theorem objsCs_append (a b : List FileV) : objsCs (a ++ b) = objsCs a ++ objsCs b := by unfold objsCs; rw [List.flatMap_append]

/-- An object lies from cell o of block g on. -/
def ObjAt (w : World) (g o : Nat) (x : FileV) : Prop :=
  w.cell? ⟨g, o, none⟩ = some (.string x.1.name) ∧ w.cell? ⟨g, o + 1, none⟩ = some x.2
/-- The slice value lv holds the objects fs in a row of S, and their bytes lie in S. -/
def RowO (S : Nat → Prop) (w : World) (lv : Value) (fs : List FileV) : Prop :=
  w.ownsRow 0 75 2 lv fs.length (objsCs fs) ∧ (∀ g, lv.ownBlock = some g → S g) ∧ ∀ x ∈ fs, SlIn S w x.2 x.1.b ∧ x.1.wf
/-- The slice value bv holds numbers in a row of S. -/
def BadO (S : Nat → Prop) (w : World) (bv : Value) (bad : List Int) : Prop := Own .i64 3 w 0 bv bad ∧ ∀ g, bv.ownBlock = some g → S g
/-- A store of the document's lies at block p. -/
def RStore (base : Nat) (S : Nat → Prop) (w : World) (p : Nat) (room : Int) (fs : List FileV) (bad : List Int) : Prop :=
  Within base S w ∧ S p ∧ ∃ lv bv, w.heap[p]? = some (.cells #[.int .i64 room, lv, bv] 51 (0, 0)) ∧ RowO S w lv fs ∧ BadO S w bv bad

theorem ownsRow_same {w w' : World} {e : TypeId} {z : Nat} {v : Value} {n : Nat} {cs : List Value} (h : w.ownsRow 0 e z v n cs) (hk : ∀ g cur, v.ownBlock = some g → w.heap[g]? = some (.cells cur e (0, 0)) → w'.heap[g]? = w.heap[g]?) : w'.ownsRow 0 e z v n cs := by
  refine ⟨h.1, ?_⟩
  rcases h.2 with h3 | ⟨g, cap, cur, rfl, h4, hg, h5⟩
  · exact .inl h3
  · exact .inr ⟨g, cap, cur, rfl, h4, by rw [hk g cur (by simp [Value.ownBlock]) hg]; exact hg, h5⟩
section
variable {S S' : Nat → Prop} {w w' : World} {lv bv : Value} {fs : List FileV} {bad : List Int}
theorem RowO.nil : RowO S w (.slice none 0 0) [] := ⟨World.ownsRow_nil w 0 _ 2, fun g h => by simp [Value.ownBlock] at h, fun _ h => by cases h⟩
theorem BadO.nil : BadO S w (.slice none 0 0) [] := ⟨Own.nil, fun g h => by simp [Value.ownBlock] at h⟩
theorem RowO.parts (h : RowO S w lv fs) : ∃ A c, lv = .slice A fs.length c ∧ fs.length ≤ c ∧ c ≤ maxLen ∧ (A = none → c = 0) ∧
    (fs ≠ [] → ∃ g off, A = some ⟨g, off, none⟩ ∧ g < w.heap.size ∧ ∀ i (h : i < fs.length), ObjAt w g (off + i * 2) fs[i]) := by
  have h' := h.1
  rcases h.1.2 with ⟨rfl, h0⟩ | ⟨g, cap, cur, rfl, hbg, hg, hc, hm, _⟩
  · have : fs = [] := List.eq_nil_of_length_eq_zero h0
    subst this
    exact ⟨none, 0, rfl, by simp, by simp [maxLen], fun _ => rfl, fun h => absurd rfl h⟩
  · refine ⟨_, _, rfl, hc, hm, by simp, fun _ => ⟨g, 0, rfl, (Array.getElem?_eq_some_iff.1 hg).1, fun i hi => ?_⟩⟩
    have f : ∀ j u, j < 2 → (objCs fs[i])[j]? = some u → w.cell? ⟨g, 0 + i * 2 + j, none⟩ = some u := fun j u hj hu => by
      have := World.ownsRow.cells (g := g) h' rfl (i * 2 + j) u (by rw [objsCs_at fs i j hi hj, hu])
      rw [add_lit] at this
      rw [Nat.add_assoc]
      exact this
    exact ⟨f 0 _ (by omega) rfl, f 1 _ (by omega) rfl⟩
theorem RowO.same (h : RowO S w lv fs) (hs : ∀ i, S i → S' i) (hk : ∀ i cur e fr, S i → w.heap[i]? = some (.cells cur e fr) → e = 5 ∨ e = 75 → w'.heap[i]? = w.heap[i]?) : RowO S' w' lv fs :=
  ⟨ownsRow_same h.1 fun g cur hg hc => hk g cur _ _ (h.2.1 g hg) hc (.inr rfl), fun g hg => hs g (h.2.1 g hg), fun x hx => ⟨(h.2.2 x hx).1.same fun b cur fr h1 h2 => ⟨hs b h1, by rw [hk b cur 5 fr h1 h2 (.inl rfl)]; exact h2⟩, (h.2.2 x hx).2⟩⟩
theorem BadO.same (h : BadO S w bv bad) (hs : ∀ i, S i → S' i) (hk : ∀ i cur fr, S i → w.heap[i]? = some (.cells cur 3 fr) → w'.heap[i]? = w.heap[i]?) : BadO S' w' bv bad :=
  ⟨ownsRow_same h.1 fun g cur hg hc => hk g cur _ (h.2 g hg) hc, fun g hg => hs g (h.2 g hg)⟩
theorem BadO.parts (h : BadO S w bv bad) : ∃ A c, bv = .slice A bad.length c ∧ bad.length ≤ c ∧ c ≤ maxLen ∧ (A = none → c = 0) ∧ Lies .i64 w w.heap.size A bad := by
  obtain ⟨A, c, rfl, h1, h2, h3⟩ := h.1.parts
  refine ⟨A, c, rfl, h1, h2, fun h0 => ?_, h3⟩
  subst h0
  rcases h.1.2 with ⟨e, _⟩ | ⟨g, cap, cur, e, _⟩
  · injection e
  · cases e
end
section
variable {base : Nat} {S S' : Nat → Prop} {w w' : World} {p : Nat} {room : Int} {fs : List FileV} {bad : List Int}
/-- The store's own cells. -/
theorem RStore.cells (h : RStore base S w p room fs bad) : ∃ A c Ab cb, w.cell? ⟨p, 0, none⟩ = some (.int .i64 room) ∧ w.cell? ⟨p, 1, none⟩ = some (.slice A fs.length c) ∧ w.cell? ⟨p, 2, none⟩ = some (.slice Ab bad.length cb) ∧ fs.length ≤ c ∧ c ≤ maxLen ∧ (A = none → c = 0) ∧
    (fs ≠ [] → ∃ g off, A = some ⟨g, off, none⟩ ∧ g < w.heap.size ∧ ∀ i (h : i < fs.length), ObjAt w g (off + i * 2) fs[i]) ∧ bad.length ≤ cb ∧ cb ≤ maxLen ∧ (Ab = none → cb = 0) ∧ Lies .i64 w w.heap.size Ab bad := by
  obtain ⟨_, _, lv, bv, hp, hr, hb⟩ := h
  obtain ⟨A, c, rfl, h1, h2, h3, h4⟩ := hr.parts
  obtain ⟨Ab, cb, rfl, h5⟩ := hb.parts
  refine ⟨A, c, Ab, cb, ?_, ?_, ?_, h1, h2, h3, h4, h5⟩ <;> (unfold World.cell?; rw [hp]; rfl)
theorem RStore.same (h : RStore base S w p room fs bad) (hs : ∀ i, S i → S' i) (hW : Within base S' w') (hk : ∀ i, S i → i < w.heap.size → w'.heap[i]? = w.heap[i]?) : RStore base S' w' p room fs bad := by
  obtain ⟨h1, h2, lv, bv, hp, hr, hb⟩ := h
  exact ⟨hW, hs p h2, lv, bv, by rw [hk p h2 (h1.2 p h2).2]; exact hp, hr.same hs fun i cur e fr hi hc _ => hk i hi (Array.getElem?_eq_some_iff.1 hc).1, hb.same hs fun i cur fr hi hc => hk i hi (Array.getElem?_eq_some_iff.1 hc).1⟩
theorem RStore.below (h : RStore base S w p room fs bad) (hb : Below w.heap.size w w') : RStore base S w' p room fs bad :=
  h.same (fun _ h => h) (h.1.more hb.size) fun i _ hl => hb.block i hl
theorem RStore.drewN (h : RStore base S w p room fs bad) (n : Nat) : RStore base S (w.drewN n) p room fs bad := h
theorem RStore.mono (h : RStore base S w p room fs bad) (hs : ∀ i, S i → S' i) (hW : Within base S' w) : RStore base S' w p room fs bad := h.same hs hW fun _ _ _ => rfl
/-- Calls on another object. -/
theorem RStore.keep {T : Nat → Prop} (h : RStore base S w p room fs bad) (hk : Keep T w w') (ha : ∀ i, S i → ¬ T i) : RStore base S w' p room fs bad :=
  h.same (fun _ h => h) (h.1.more hk.size) fun i hi hl => hk.block i hl (ha i hi)
theorem RStore.lt (h : RStore base S w p room fs bad) : p < w.heap.size := (h.1.2 p h.2.1).2
theorem RStore.thaw (h : RStore base S w p room fs bad) (j : Nat) : w.frozen? ⟨p, j, none⟩ = false := by
  obtain ⟨_, _, lv, bv, hp, _⟩ := h
  simp [World.frozen?, hp]
/-- What a call leaves of the document's store. -/
structure OLeft (base : Nat) (S : Nat → Prop) (w w' : World) (p : Nat) (room : Int) (fs : List FileV) (bad : List Int) : Prop where
  keep : Keep S w w'
  store : RStore base (Grow S w w') w' p room fs bad
theorem OLeft.of_below (h : RStore base S w p room fs bad) (hb : Below w.heap.size w w') : OLeft base S w w' p room fs bad :=
  ⟨Keep.of_below hb, (h.below hb).mono (fun _ => .inl) (h.1.grow hb.size)⟩
theorem OLeft.trans {w'' : World} {fs' : List FileV} {bad' : List Int} (hW : Within base S w) (h : Keep S w w') (h' : OLeft base (Grow S w w') w' w'' p room fs' bad') : OLeft base S w w'' p room fs' bad' := by
  have hk : Keep S w w'' := h.trans h'.keep fun i hi hs => by
    rcases hs with hs | hs
    · exact hs
    · omega
  refine ⟨hk, h'.store.mono (fun i hi => ?_) (hW.grow hk.size)⟩
  have h1 := h.size
  have h2 := h'.keep.size
  rcases hi with (hi | hi) | hi
  · exact .inl hi
  · exact .inr (by omega)
  · exact .inr (by omega)
theorem OLeft.more {w'' : World} (hW : Within base S w) (h : OLeft base S w w' p room fs bad) (hb : Below w'.heap.size w' w'') : OLeft base S w w'' p room fs bad := OLeft.trans hW h.keep (OLeft.of_below h.store hb)
theorem OLeft.behind {w'' : World} {fs' : List FileV} {bad' : List Int} (hb : Below w.heap.size w w') (h' : OLeft base S w' w'' p room fs' bad') (hW : Within base S w) : OLeft base S w w'' p room fs' bad' := by
  have hk : Keep S w w'' := (Keep.of_below (S := S) hb).trans h'.keep fun _ _ h => h
  refine ⟨hk, h'.store.mono (fun i hi => ?_) (hW.grow hk.size)⟩
  have := hb.size
  rcases hi with hi | hi
  · exact .inl hi
  · exact .inr (by omega)
/-- A new row of numbers takes the old one's place. -/
theorem bad_fin (h : RStore base S w p room fs bad) {W : World} {v : Value} {xs : List Int} (hb : Below w.heap.size w W) (ho : Own .i64 3 W w.heap.size v xs) : OLeft base S w (W.setCell ⟨p, 2, none⟩ v) p room fs xs := by
  obtain ⟨h1, h2, lv, bv, hp, hr, _⟩ := h.below hb
  have hpl := (h.1.2 p h2).2
  have hk : Keep S w (W.setCell ⟨p, 2, none⟩ v) := (Keep.of_below (S := S) hb).setCell (p := ⟨p, 2, none⟩) (.inl h2) _
  have hoth : ∀ (i : Nat) (cur : Array Value) (e : TypeId) (fr : Nat × Nat), W.heap[i]? = some (.cells cur e fr) → e ≠ 51 → (W.setCell ⟨p, 2, none⟩ v).heap[i]? = W.heap[i]? := fun i cur e fr hc he => heap_setCell_other _ _ _ _ (show i ≠ p from by
    rintro rfl
    rw [hp] at hc
    injection hc with hc
    injection hc with _ h3 _
    exact he h3.symm)
  refine ⟨hk, h.1.grow hk.size, .inl h2, lv, v, by rw [heap_setCell_same _ p 2 _ _ _ hp]; rfl, hr.same (fun _ => .inl) fun i cur e fr _ hc he => hoth i cur e fr hc (by rcases he with rfl | rfl <;> decide), ?_, fun g hg => ?_⟩
  · exact ownsRow_same (ho.lower (Nat.zero_le _)) fun g cur _ hc => hoth g cur _ _ hc (by decide)
  · have := ho.lt g hg
    exact .inr ⟨this.1, by simpa using this.2⟩
/-- A new row of objects takes the old one's place. -/
theorem obj_fin (h : RStore base S w p room fs bad) {W : World} {v : Value} {gs : List FileV} (hb : Below w.heap.size w W) (ho : W.ownsRow w.heap.size 75 2 v gs.length (objsCs gs)) (hg : ∀ x ∈ gs, SlIn (Grow S w W) W x.2 x.1.b ∧ x.1.wf) : OLeft base S w (W.setCell ⟨p, 1, none⟩ v) p room gs bad := by
  obtain ⟨h1, h2, lv, bv, hp, _, hbad⟩ := h.below hb
  have hpl := (h.1.2 p h2).2
  have hk : Keep S w (W.setCell ⟨p, 1, none⟩ v) := (Keep.of_below (S := S) hb).setCell (p := ⟨p, 1, none⟩) (.inl h2) _
  have hoth : ∀ (i : Nat) (cur : Array Value) (e : TypeId) (fr : Nat × Nat), W.heap[i]? = some (.cells cur e fr) → e ≠ 51 → (W.setCell ⟨p, 1, none⟩ v).heap[i]? = W.heap[i]? := fun i cur e fr hc he => heap_setCell_other _ _ _ _ (show i ≠ p from by
    rintro rfl
    rw [hp] at hc
    injection hc with hc
    injection hc with _ h3 _
    exact he h3.symm)
  have hgw : ∀ i, Grow S w W i → Grow S w (W.setCell ⟨p, 1, none⟩ v) i := fun i hi => by
    rcases hi with hi | hi
    · exact .inl hi
    · exact .inr (by simpa using hi)
  refine ⟨hk, h.1.grow hk.size, .inl h2, v, bv, by rw [heap_setCell_same _ p 1 _ _ _ hp]; rfl, ⟨?_, fun g hg' => ?_, fun x hx => ⟨(hg x hx).1.same fun b cur fr h3 h4 => ⟨hgw b h3, by rw [hoth b cur 5 fr h4 (by decide)]; exact h4⟩, (hg x hx).2⟩⟩, hbad.same (fun _ => .inl) fun i cur fr _ hc => hoth i cur 3 fr hc (by decide)⟩
  · have ho0 : W.ownsRow 0 75 2 v gs.length (objsCs gs) := by
      refine ⟨ho.1, ?_⟩
      rcases ho.2 with h3 | ⟨g, cap, cur, e, _, h4⟩
      · exact .inl h3
      · exact .inr ⟨g, cap, cur, e, Nat.zero_le _, h4⟩
    exact ownsRow_same ho0 fun g cur _ hc => hoth g cur _ _ hc (by decide)
  · have := World.ownsRow.lt ho g hg'
    exact .inr ⟨this.1, by simpa using this.2⟩
end
end Go.Proofs.YtfbdmagonjjjoaaDoor
