/- The program's own store in memory: its block, its map of objects, each object's bytes, the numbers of Fail; what a call on another object leaves of it. No statement of the program is proved here. -/
import Derived.Test.YtfbdmagonjjjoaaDoorKeep
import Derived.Test.YtfbdmagonjjjoaaDoorStoreMap
import Derived.Test.YtfbdmagonjjjoaaDoorProg
namespace Go.Proofs.YtfbdmagonjjjoaaDoor
open Go.RowKit Go.Maps

theorem keyedS : Keyed Tryd.prog 9 := string_keyed Tryd.underlying9
theorem zeroSl (w : World) : (zeroValue 32).run Tryd.prog w = .ok (.slice none 0 0) w := by kernel_rfl
theorem keyOf_name {n : ByteArray} (h : n.size ≤ maxLen) : keyOf Tryd.prog 9 (.string n) = some (keyN n) := Go.WideMaps.keyOf_string_mk Tryd.underlying9 h

/-- An object's bytes lie in a row of S. -/
structure VFile (base : Nat) (S : Nat → Prop) (w : World) (x : FileP) : Prop where
  own : Own .u8 5 w base x.v x.f.b
  row : ∀ h, x.v.ownBlock = some h → S h
  wf : x.f.wf
/-- Two objects have nothing in common. -/
def Apart (x y : FileP) : Prop := ∀ h, x.v.ownBlock = some h → y.v.ownBlock ≠ some h
theorem Apart.symm {x y : FileP} (h : Apart x y) : Apart y x := fun b hb hx => h b hx hb
/-- The numbers of Fail that are left: a slice of a row of S, somewhere in it. -/
def FailsLie (S : Nat → Prop) (w : World) (fv : Value) (bad : List Int) : Prop :=
  (fv = .slice none 0 0 ∧ bad = []) ∨ ∃ h o c cur, fv = .slice (some ⟨h, o, none⟩) bad.length c ∧ bad.length ≤ c ∧ c ≤ maxLen ∧ S h ∧ w.heap[h]? = some (.cells cur 3 (0, 0)) ∧ o + c ≤ cur.size ∧ ∀ j (hj : j < bad.length), cur[o + j]? = some (.int .i64 bad[j])
/-- The files' map. -/
def MapF (S : Nat → Prop) (w : World) (mo : Option Nat) (fs : List FileP) : Prop :=
  (mo = none ∧ fs = []) ∨ ∃ mb, mo = some mb ∧ S mb ∧ w.ownsMap Tryd.prog 9 slElem mb fs.length (mapD fs)
def storeCells (room used : Int) (mo : Option Nat) (fv : Value) : Array Value := #[.int .i64 room, .int .i64 used, .map mo, fv]
/-- What is right of files. -/
structure VRow (base : Nat) (S : Nat → Prop) (w : World) (fs : List FileP) : Prop where
  file : ∀ x ∈ fs, VFile base S w x
  apart : fs.Pairwise Apart
  rising : Rising (filesP fs)
/-- A store of the program's lies at block p; it says that so much of it is used. -/
structure VStoreU (base : Nat) (S : Nat → Prop) (w : World) (p : Nat) (room used : Int) (fs : List FileP) (bad : List Int) : Prop where
  within : Within base S w
  inS : S p
  block : ∃ mo fv, w.heap[p]? = some (.cells (storeCells room used mo fv) 48 (0, 0)) ∧ MapF S w mo fs ∧ FailsLie S w fv bad
  row : VRow base S w fs
abbrev VStore (base : Nat) (S : Nat → Prop) (w : World) (p : Nat) (room : Int) (fs : List FileP) (bad : List Int) : Prop := VStoreU base S w p room ((usedM (filesP fs) : Nat) : Int) fs bad

theorem cells_apart {w : World} {a b : Nat} {c d : Array Value} {s t : TypeId} {e f : Nat × Nat} (h : w.heap[a]? = some (.cells c s e)) (h' : w.heap[b]? = some (.cells d t f)) (hn : s ≠ t) : a ≠ b := by
  rintro rfl
  rw [h] at h'
  injection h' with h'
  injection h' with _ h2 _
  exact hn h2
theorem map_apart {w : World} {a b : Nat} {c : Array Value} {s : TypeId} {e : Nat × Nat} {n : Nat} {D : DataW Value} (h : w.heap[a]? = some (.cells c s e)) (h' : w.ownsMap Tryd.prog 9 slElem b n D) : a ≠ b := by
  rintro rfl
  obtain ⟨es, clock, hb, _⟩ := h'
  rw [h] at hb
  cases hb
theorem own_block {base : Nat} {w : World} {v : Value} {xs : List Int} {g : Nat} (h : Own .u8 5 w base v xs) (hg : v.ownBlock = some g) : ∃ cur, w.heap[g]? = some (.cells cur 5 (0, 0)) := by
  rcases h.2 with ⟨rfl, _⟩ | ⟨g', cap, cur, rfl, _, hc, _⟩
  · simp [Value.ownBlock] at hg
  · have : g' = g := by simpa [Value.ownBlock] using hg
    subst this
    exact ⟨cur, hc⟩
theorem Own.same {base : Nat} {w w' : World} {v : Value} {xs : List Int} (h : Own .u8 5 w base v xs) (hk : ∀ g, v.ownBlock = some g → w'.heap[g]? = w.heap[g]?) : Own .u8 5 w' base v xs := by
  refine ⟨h.1, ?_⟩
  rcases h.2 with h1 | ⟨g, cap, cur, rfl, h2, h3, h4⟩
  · exact .inl h1
  · exact .inr ⟨g, cap, cur, rfl, h2, by rw [hk g (by simp [Value.ownBlock])]; exact h3, h4⟩
theorem ownsMap_same {w w' : World} {b n : Nat} {D : DataW Value} (h : w.ownsMap Tryd.prog 9 slElem b n D) (hk : w'.heap[b]? = w.heap[b]?) : w'.ownsMap Tryd.prog 9 slElem b n D := by
  obtain ⟨es, clock, hb, r⟩ := h
  exact ⟨es, clock, by rw [hk]; exact hb, r⟩
theorem ownsMap_size {w : World} {b n : Nat} {fs : List FileP} (h : w.ownsMap Tryd.prog 9 slElem b n (mapD fs)) : w.ownsMap Tryd.prog 9 slElem b fs.length (mapD fs) := by
  obtain ⟨es, clock, hb, F, hs, hD⟩ := h
  refine ⟨es, clock, hb, F, ?_, hD⟩
  have : Maps.size (mapD fs) = es.size := by rw [hD]; simp [Maps.size, length_sorted]
  rw [mapD_size] at this
  omega

section
variable {base : Nat} {S S' T : Nat → Prop} {w w' : World} {p : Nat} {room u : Int} {fs : List FileP} {x : FileP} {mo : Option Nat} {bad : List Int} {fv : Value}
theorem VFile.same (h : VFile base S w x) (hs : ∀ i, S i → S' i) (hr : ∀ g, x.v.ownBlock = some g → w'.heap[g]? = w.heap[g]?) : VFile base S' w' x :=
  ⟨h.own.same hr, fun b hb => hs _ (h.row b hb), h.wf⟩
theorem VFile.keep (h : VFile base S w x) (hs : ∀ i, S i → S' i) (hk : ∀ i, S i → i < w.heap.size → w'.heap[i]? = w.heap[i]?) : VFile base S' w' x :=
  h.same hs fun g hg => hk g (h.row g hg) (h.own.lt g hg).2
theorem VRow.keep (h : VRow base S w fs) (hs : ∀ i, S i → S' i) (hk : ∀ i, S i → i < w.heap.size → w'.heap[i]? = w.heap[i]?) : VRow base S' w' fs :=
  ⟨fun x hx => (h.file x hx).keep hs hk, h.apart, h.rising⟩
theorem MapF.keep (h : MapF S w mo fs) (hs : ∀ i, S i → S' i) (hk : ∀ i, S i → i < w.heap.size → w'.heap[i]? = w.heap[i]?) : MapF S' w' mo fs := by
  rcases h with h | ⟨mb, h1, h2, h3⟩
  · exact .inl h
  · exact .inr ⟨mb, h1, hs _ h2, ownsMap_same h3 (hk mb h2 h3.lt)⟩
theorem FailsLie.same (h : FailsLie S w fv bad) (hs : ∀ i, S i → S' i) (hk : ∀ i cur, S i → w.heap[i]? = some (.cells cur 3 (0, 0)) → w'.heap[i]? = w.heap[i]?) : FailsLie S' w' fv bad := by
  rcases h with h | ⟨h, o, c, cur, e, h1, h2, h3, h4, h5, h6⟩
  · exact .inl h
  · exact .inr ⟨h, o, c, cur, e, h1, h2, hs _ h3, by rw [hk h cur h3 h4]; exact h4, h5, h6⟩
theorem FailsLie.keep (h : FailsLie S w fv bad) (hs : ∀ i, S i → S' i) (hk : ∀ i, S i → i < w.heap.size → w'.heap[i]? = w.heap[i]?) : FailsLie S' w' fv bad :=
  h.same hs fun i _ hi hc => hk i hi (Array.getElem?_eq_some_iff.1 hc).1
theorem VStoreU.keep' (h : VStoreU base S w p room u fs bad) (hs : ∀ i, S i → S' i) (hW : Within base S' w') (hk : ∀ i, S i → i < w.heap.size → w'.heap[i]? = w.heap[i]?) : VStoreU base S' w' p room u fs bad := by
  obtain ⟨mo, fv, hp, hm, hf⟩ := h.block
  exact ⟨hW, hs _ h.inS, ⟨mo, fv, by rw [hk p h.inS (h.within.2 p h.inS).2]; exact hp, hm.keep hs hk, hf.keep hs hk⟩, h.row.keep hs hk⟩
theorem VStoreU.keep (h : VStoreU base S w p room u fs bad) (hk : Keep T w w') (ha : ∀ i, S i → ¬ T i) : VStoreU base S w' p room u fs bad :=
  h.keep' (fun _ h => h) (h.within.more hk.size) fun i hi hl => hk.block i hl (ha i hi)
theorem VStoreU.below (h : VStoreU base S w p room u fs bad) (hb : Below w.heap.size w w') : VStoreU base S w' p room u fs bad :=
  h.keep' (fun _ h => h) (h.within.more hb.size) fun i _ hl => hb.block i hl
theorem VStoreU.mono (h : VStoreU base S w p room u fs bad) (hs : ∀ i, S i → S' i) (hW : Within base S' w) : VStoreU base S' w p room u fs bad :=
  h.keep' hs hW fun _ _ _ => rfl

/-- The cells of the store. -/
theorem VStoreU.cells (h : VStoreU base S w p room u fs bad) : ∃ mo fv, w.cell? ⟨p, 0, none⟩ = some (.int .i64 room) ∧ w.cell? ⟨p, 1, none⟩ = some (.int .i64 u) ∧ w.cell? ⟨p, 2, none⟩ = some (.map mo) ∧ w.cell? ⟨p, 3, none⟩ = some fv ∧ MapF S w mo fs ∧ FailsLie S w fv bad := by
  obtain ⟨mo, fv, hp, hm, hf⟩ := h.block
  refine ⟨mo, fv, ?_, ?_, ?_, ?_, hm, hf⟩ <;> (unfold World.cell?; rw [hp]; rfl)
theorem VStoreU.thaw (h : VStoreU base S w p room u fs bad) (j : Nat) : w.frozen? ⟨p, j, none⟩ = false := by
  obtain ⟨mo, fv, hp, _⟩ := h.block
  simp [World.frozen?, hp]
theorem VStoreU.lt (h : VStoreU base S w p room u fs bad) : p < w.heap.size := (h.within.2 p h.inS).2
/-- What the map tells of a name. -/
theorem MapF.look (h : MapF S w mo fs) (hr : Rising (filesP fs)) {n : ByteArray} (hn : n.size ≤ maxLen) :
    (∀ x ∈ fs, x.f.name = n → (Instr.lookup 46 (.map mo) (.string n) false).run Tryd.prog w = .ok x.v w ∧ (Instr.lookup 46 (.map mo) (.string n) true).run Tryd.prog w = .ok (.tuple #[x.v, .bool true]) w) ∧
    ((∀ x ∈ fs, x.f.name ≠ n) → (Instr.lookup 46 (.map mo) (.string n) false).run Tryd.prog w = .ok (.slice none 0 0) w ∧ (Instr.lookup 46 (.map mo) (.string n) true).run Tryd.prog w = .ok (.tuple #[.slice none 0 0, .bool false]) w) := by
  rcases h with ⟨rfl, rfl⟩ | ⟨mb, rfl, _, h3⟩
  · exact ⟨fun x hx => (List.not_mem_nil hx).elim, fun _ => ⟨Maps.look_nil false keyedS Tryd.underlying46 (zeroSl w) (keyOf_name hn), Maps.look_nil true keyedS Tryd.underlying46 (zeroSl w) (keyOf_name hn)⟩⟩
  · obtain ⟨v, ps, hrun, hv⟩ := h3.lookup keyedS Tryd.underlying46 (zeroSl w) (zd := .held (.slice none 0 0)) (zp := []) rfl (keyOf_name hn)
    obtain ⟨v2, ps2, hrun2, hv2⟩ := h3.look_ok keyedS Tryd.underlying46 (zeroSl w) (zd := .held (.slice none 0 0)) (zp := []) rfl (keyOf_name hn)
    constructor
    · intro x hx e
      rw [← e, map_at hr hx] at hv hv2
      rw [← e, has_mem hx] at hrun2
      rw [← e] at hrun ⊢
      rw [hrun, hrun2, slElem_inv hv, slElem_inv hv2]
      exact ⟨rfl, rfl⟩
    · intro hno
      rw [map_none hno] at hv hv2
      rw [has_none hno] at hrun2
      rw [hrun, hrun2, slElem_inv hv, slElem_inv hv2]
      exact ⟨rfl, rfl⟩
theorem apart_of (h : VRow base S w fs) (hx : x ∈ fs) {y : FileP} (hy : y ∈ fs) (hn : y.f.name ≠ x.f.name) : Apart x y := by
  have hp := h.apart
  clear h
  induction fs with
  | nil => cases hx
  | cons a t ih =>
    obtain ⟨h1, h2⟩ := List.pairwise_cons.1 hp
    rcases List.mem_cons.1 hx with ex | hx2
    · rcases List.mem_cons.1 hy with ey | hy2
      · exact absurd (by rw [ex, ey]) hn
      · rw [ex]; exact h1 y hy2
    · rcases List.mem_cons.1 hy with ey | hy2
      · rw [ey]; exact (h1 x hx2).symm
      · exact ih hx2 hy2 h2
end
end Go.Proofs.YtfbdmagonjjjoaaDoor
