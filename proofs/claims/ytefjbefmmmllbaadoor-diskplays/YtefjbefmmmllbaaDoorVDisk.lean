/- The program's own disk in memory: its block, its map of files, each file's block and bytes; what a call on another object leaves of it. No statement of the program is proved here. -/
import Derived.Test.YtefjbefmmmllbaaDoorKeep
import Derived.Test.YtefjbefmmmllbaaDoorDiskMap
import Derived.Test.YtefjbefmmmllbaaDoorProg
namespace Go.Proofs.YtefjbefmmmllbaaDoor
open Go.RowKit Go.Maps

theorem keyedS : Keyed Tryd.prog 9 := string_keyed Tryd.underlying9
theorem zeroPtr (w : World) : (zeroValue 48).run Tryd.prog w = .ok (.pointer none) w := by kernel_rfl
theorem keyOf_name {n : ByteArray} (h : n.size ≤ maxLen) : keyOf Tryd.prog 9 (.string n) = some (keyN n) := Go.WideMaps.keyOf_string_mk Tryd.underlying9 h

/-- The cells of a file's block. -/
def fileCells (x : FileP) : Array Value := #[x.v, .int .i64 ((x.f.b.length - x.f.loose : Nat) : Int)]
/-- A file lies in its block, its bytes in a row of S. -/
structure VFile (base : Nat) (S : Nat → Prop) (w : World) (x : FileP) : Prop where
  inS : S x.g
  block : w.heap[x.g]? = some (.cells (fileCells x) 52 (0, 0))
  own : Own .u8 5 w base x.v x.f.b
  row : ∀ h, x.v.ownBlock = some h → S h
  wf : x.f.wf
/-- Two files have nothing in common. -/
def Apart (x y : FileP) : Prop := x.g ≠ y.g ∧ ∀ h, x.v.ownBlock = some h → y.v.ownBlock ≠ some h
theorem Apart.symm {x y : FileP} (h : Apart x y) : Apart y x := ⟨h.1.symm, fun b hb hx => h.2 b hx hb⟩
/-- The files' map. -/
def MapF (S : Nat → Prop) (w : World) (mo : Option Nat) (fs : List FileP) : Prop :=
  (mo = none ∧ fs = []) ∨ ∃ mb, mo = some mb ∧ S mb ∧ w.ownsMap Tryd.prog 9 ptrElem mb fs.length (mapD fs)
def diskCells (room used : Int) (mo : Option Nat) : Array Value := #[.int .i64 room, .int .i64 used, .map mo]
/-- What is right of files. -/
structure VRow (base : Nat) (S : Nat → Prop) (w : World) (fs : List FileP) : Prop where
  file : ∀ x ∈ fs, VFile base S w x
  apart : fs.Pairwise Apart
  rising : Rising (filesP fs)
/-- A disk of the program's lies at block p; it says that so much of it is used. -/
structure VDiskU (base : Nat) (S : Nat → Prop) (w : World) (p : Nat) (room used : Int) (fs : List FileP) : Prop where
  within : Within base S w
  inS : S p
  block : ∃ mo, w.heap[p]? = some (.cells (diskCells room used mo) 44 (0, 0)) ∧ MapF S w mo fs
  row : VRow base S w fs
abbrev VDisk (base : Nat) (S : Nat → Prop) (w : World) (p : Nat) (room : Int) (fs : List FileP) : Prop := VDiskU base S w p room ((usedM (filesP fs) : Nat) : Int) fs

theorem cells_apart {w : World} {a b : Nat} {c d : Array Value} {s t : TypeId} {e f : Nat × Nat} (h : w.heap[a]? = some (.cells c s e)) (h' : w.heap[b]? = some (.cells d t f)) (hn : s ≠ t) : a ≠ b := by
  rintro rfl
  rw [h] at h'
  injection h' with h'
  injection h' with _ h2 _
  exact hn h2
theorem map_apart {w : World} {a b : Nat} {c : Array Value} {s : TypeId} {e : Nat × Nat} {n : Nat} {D : DataW Unit} (h : w.heap[a]? = some (.cells c s e)) (h' : w.ownsMap Tryd.prog 9 ptrElem b n D) : a ≠ b := by
  rintro rfl
  obtain ⟨es, clock, hb, _⟩ := h'
  rw [h] at hb
  cases hb
theorem own_block {base : Nat} {w : World} {v : Value} {xs : List Int} {g : Nat} (h : Own .u8 5 w base v xs) (hg : v.ownBlock = some g) : ∃ cur, w.heap[g]? = some (.cells cur 5 (0, 0)) := by
  rcases h.2 with ⟨rfl, _⟩ | ⟨g', cap, cur, rfl, _, hc, _⟩
  · simp [Value.ownBlock] at hg
  · have : g' = g := by simpa [Value.ownBlock] using hg
    subst this
    exact ⟨cur, hc⟩
theorem Own.same {base : Nat} {w w' : World} {v : Value} {xs : List Int} (h : Own .u8 5 w base v xs) (hk : ∀ g, v.ownBlock = some g → w'.heap[g]? = w.heap[g]?) : Own .u8 5 w' base v xs := by
  refine ⟨h.1, ?_⟩
  rcases h.2 with h1 | ⟨g, cap, cur, rfl, h2, h3, h4⟩
  · exact .inl h1
  · exact .inr ⟨g, cap, cur, rfl, h2, by rw [hk g (by simp [Value.ownBlock])]; exact h3, h4⟩
theorem ownsMap_same {w w' : World} {b n : Nat} {D : DataW Unit} (h : w.ownsMap Tryd.prog 9 ptrElem b n D) (hk : w'.heap[b]? = w.heap[b]?) : w'.ownsMap Tryd.prog 9 ptrElem b n D := by
  obtain ⟨es, clock, hb, r⟩ := h
  exact ⟨es, clock, by rw [hk]; exact hb, r⟩
theorem ownsMap_size {w : World} {b n : Nat} {fs : List FileP} (h : w.ownsMap Tryd.prog 9 ptrElem b n (mapD fs)) : w.ownsMap Tryd.prog 9 ptrElem b fs.length (mapD fs) := by
  obtain ⟨es, clock, hb, F, hs, hD⟩ := h
  refine ⟨es, clock, hb, F, ?_, hD⟩
  have : Maps.size (mapD fs) = es.size := by rw [hD]; simp [Maps.size, length_sorted]
  rw [mapD_size] at this
  omega

section
variable {base : Nat} {S S' T : Nat → Prop} {w w' : World} {p : Nat} {room u : Int} {fs : List FileP} {x : FileP} {mo : Option Nat}
theorem VFile.same (h : VFile base S w x) (hs : ∀ i, S i → S' i) (hb : w'.heap[x.g]? = w.heap[x.g]?) (hr : ∀ g, x.v.ownBlock = some g → w'.heap[g]? = w.heap[g]?) : VFile base S' w' x :=
  ⟨hs _ h.inS, by rw [hb]; exact h.block, h.own.same hr, fun b hb => hs _ (h.row b hb), h.wf⟩
theorem VFile.keep (h : VFile base S w x) (hs : ∀ i, S i → S' i) (hk : ∀ i, S i → i < w.heap.size → w'.heap[i]? = w.heap[i]?) : VFile base S' w' x :=
  h.same hs (hk _ h.inS (Array.getElem?_eq_some_iff.1 h.block).1) fun g hg => hk g (h.row g hg) (h.own.lt g hg).2
theorem VRow.keep (h : VRow base S w fs) (hs : ∀ i, S i → S' i) (hk : ∀ i, S i → i < w.heap.size → w'.heap[i]? = w.heap[i]?) : VRow base S' w' fs :=
  ⟨fun x hx => (h.file x hx).keep hs hk, h.apart, h.rising⟩
theorem MapF.keep (h : MapF S w mo fs) (hs : ∀ i, S i → S' i) (hk : ∀ i, S i → i < w.heap.size → w'.heap[i]? = w.heap[i]?) : MapF S' w' mo fs := by
  rcases h with h | ⟨mb, h1, h2, h3⟩
  · exact .inl h
  · exact .inr ⟨mb, h1, hs _ h2, ownsMap_same h3 (hk mb h2 h3.lt)⟩
theorem VDiskU.keep' (h : VDiskU base S w p room u fs) (hs : ∀ i, S i → S' i) (hW : Within base S' w') (hk : ∀ i, S i → i < w.heap.size → w'.heap[i]? = w.heap[i]?) : VDiskU base S' w' p room u fs := by
  obtain ⟨mo, hp, hm⟩ := h.block
  exact ⟨hW, hs _ h.inS, ⟨mo, by rw [hk p h.inS (h.within.2 p h.inS).2]; exact hp, hm.keep hs hk⟩, h.row.keep hs hk⟩
theorem VDiskU.keep (h : VDiskU base S w p room u fs) (hk : Keep T w w') (ha : ∀ i, S i → ¬ T i) : VDiskU base S w' p room u fs :=
  h.keep' (fun _ h => h) (h.within.more hk.size) fun i hi hl => hk.block i hl (ha i hi)
theorem VDiskU.below (h : VDiskU base S w p room u fs) (hb : Below w.heap.size w w') : VDiskU base S w' p room u fs :=
  h.keep' (fun _ h => h) (h.within.more hb.size) fun i _ hl => hb.block i hl
theorem VDiskU.mono (h : VDiskU base S w p room u fs) (hs : ∀ i, S i → S' i) (hW : Within base S' w) : VDiskU base S' w p room u fs :=
  h.keep' hs hW fun _ _ _ => rfl

/-- The cells of the disk. -/
theorem VDiskU.cells (h : VDiskU base S w p room u fs) : ∃ mo, w.cell? ⟨p, 0, none⟩ = some (.int .i64 room) ∧ w.cell? ⟨p, 1, none⟩ = some (.int .i64 u) ∧ w.cell? ⟨p, 2, none⟩ = some (.map mo) ∧ MapF S w mo fs := by
  obtain ⟨mo, hp, hm⟩ := h.block
  refine ⟨mo, ?_, ?_, ?_, hm⟩ <;> (unfold World.cell?; rw [hp]; rfl)
theorem VFile.cells (h : VFile base S w x) : w.cell? ⟨x.g, 0, none⟩ = some x.v ∧ w.cell? ⟨x.g, 1, none⟩ = some (.int .i64 ((x.f.b.length - x.f.loose : Nat) : Int)) := by
  have hb := h.block
  constructor <;> (unfold World.cell?; rw [hb]; rfl)
/-- What the map tells of a name. -/
theorem MapF.look (h : MapF S w mo fs) (hr : Rising (filesP fs)) {n : ByteArray} (hn : n.size ≤ maxLen) :
    (∀ x ∈ fs, x.f.name = n → (Instr.lookup 42 (.map mo) (.string n) false).run Tryd.prog w = .ok (.pointer (some ⟨x.g, 0, none⟩)) w) ∧
    ((∀ x ∈ fs, x.f.name ≠ n) → (Instr.lookup 42 (.map mo) (.string n) false).run Tryd.prog w = .ok (.pointer none) w) := by
  rcases h with ⟨rfl, rfl⟩ | ⟨mb, rfl, _, h3⟩
  · exact ⟨fun x hx => (List.not_mem_nil hx).elim, fun _ => Maps.look_nil false keyedS Tryd.underlying42 (zeroPtr w) (keyOf_name hn)⟩
  · obtain ⟨v, ps, hrun, hv⟩ := h3.lookup keyedS Tryd.underlying42 (zeroPtr w) (zd := .nil) (zp := []) rfl (keyOf_name hn)
    constructor
    · intro x hx e
      rw [← e, map_at hr hx] at hv
      rw [hrun, ptrElem_inv hv]
    · intro hno
      rw [map_none hno] at hv
      rw [hrun, ptrElem_nil hv]
/-- A file laid, or written anew, into its place. -/
theorem VDiskU.put {u' : Int} (h : VDiskU base S w p room u fs) (x : FileP) (hk : Keep S w w') (ho : ∀ y ∈ fs, y.f.name ≠ x.f.name → w'.heap[y.g]? = w.heap[y.g]? ∧ ∀ g, y.v.ownBlock = some g → w'.heap[g]? = w.heap[g]?)
    (hx : VFile base (Grow S w w') w' x) (ha : ∀ y ∈ fs, y.f.name ≠ x.f.name → Apart x y)
    (hp : ∃ mo, w'.heap[p]? = some (.cells (diskCells room u' mo) 44 (0, 0)) ∧ MapF (Grow S w w') w' mo (layP fs x)) : VDiskU base (Grow S w w') w' p room u' (layP fs x) := by
  refine ⟨h.within.grow hk.size, .inl h.inS, hp, ?_, layP_pair (fun _ _ => Apart.symm) h.row.rising h.row.apart ha, layP_rising h.row.rising⟩
  have key : ∀ (l : List FileP), Rising (filesP l) → (∀ y ∈ l, y ∈ fs) → ∀ y ∈ layP l x, VFile base (Grow S w w') w' y := by
    intro l
    induction l with
    | nil =>
      intro _ _ y hy
      rw [layP_nil] at hy
      rw [List.mem_singleton.1 hy]
      exact hx
    | cons a t ih =>
      intro hr hl y hy
      rw [filesP_cons] at hr
      obtain ⟨r1, r2⟩ := List.pairwise_cons.1 hr
      have r1' : ∀ y ∈ t, ltS a.f.name y.f.name = true := fun y hy => r1 y.f (List.mem_map.2 ⟨y, hy, rfl⟩)
      have old : ∀ z, z ∈ a :: t → z.f.name ≠ x.f.name → VFile base (Grow S w w') w' z := fun z hz hn =>
        (h.row.file z (hl z hz)).same (fun _ => .inl) (ho z (hl z hz) hn).1 (ho z (hl z hz) hn).2
      rcases ltS_tri a.f.name x.f.name with e | e | e
      · rw [layP_lt e] at hy
        rcases List.mem_cons.1 hy with rfl | hy
        · exact old _ (by simp) (ltS_ne e)
        · exact ih r2 (fun z hz => hl z (List.mem_cons_of_mem _ hz)) y hy
      · rw [layP_eq e] at hy
        rcases List.mem_cons.1 hy with rfl | hy
        · exact hx
        · exact old y (List.mem_cons_of_mem _ hy) (by rw [← e]; exact (ltS_ne (r1' y hy)).symm)
      · rw [layP_gt e] at hy
        rcases List.mem_cons.1 hy with rfl | hy
        · exact hx
        · refine old y hy ?_
          rcases List.mem_cons.1 hy with rfl | hy
          · exact (ltS_ne e).symm
          · exact (ltS_ne (ltS_trans e (r1' y hy))).symm
  exact key fs h.row.rising fun _ h => h
/-- A file struck. -/
theorem VDiskU.del {u' : Int} {n : ByteArray} (h : VDiskU base S w p room u fs) (hk : Keep S w w') (ho : ∀ y ∈ fs, w'.heap[y.g]? = w.heap[y.g]? ∧ ∀ g, y.v.ownBlock = some g → w'.heap[g]? = w.heap[g]?)
    (hp : ∃ mo, w'.heap[p]? = some (.cells (diskCells room u' mo) 44 (0, 0)) ∧ MapF (Grow S w w') w' mo (delP fs n)) : VDiskU base (Grow S w w') w' p room u' (delP fs n) :=
  ⟨h.within.grow hk.size, .inl h.inS, hp, fun x hx => (h.row.file x (mem_delP hx)).same (fun _ => .inl) (ho x (mem_delP hx)).1 (ho x (mem_delP hx)).2, List.Pairwise.sublist (delP_sub fs n) h.row.apart, delP_rising h.row.rising⟩
/-- A file that is written anew in its own block stands in the map as it did. -/
theorem map_same (hr : Rising (filesP fs)) {y : FileP} (hx : x ∈ fs) (hn : y.f.name = x.f.name) (hg : y.g = x.g) : (layP fs y).map entryP = fs.map entryP := by
  induction fs with
  | nil => cases hx
  | cons a t ih =>
    rw [filesP_cons] at hr
    obtain ⟨r1, r2⟩ := List.pairwise_cons.1 hr
    rcases List.mem_cons.1 hx with rfl | hx
    · rw [layP_eq hn.symm, List.map_cons, List.map_cons]
      unfold entryP
      rw [hn, hg]
    · have : ltS a.f.name y.f.name = true := by rw [hn]; exact r1 x.f (List.mem_map.2 ⟨x, hx, rfl⟩)
      rw [layP_lt this, List.map_cons, List.map_cons, ih r2 hx]
theorem MapF.same (h : MapF S w mo fs) (hr : Rising (filesP fs)) {y : FileP} (hx : x ∈ fs) (hn : y.f.name = x.f.name) (hg : y.g = x.g) : MapF S w mo (layP fs y) := by
  have e := map_same hr hx hn hg
  rcases h with ⟨rfl, rfl⟩ | ⟨mb, h1, h2, h3⟩
  · cases hx
  · refine .inr ⟨mb, h1, h2, ?_⟩
    have : mapD (layP fs y) = mapD fs := by unfold mapD; rw [e]
    rw [← this] at h3
    exact ownsMap_size h3
theorem apart_of (h : VRow base S w fs) (hx : x ∈ fs) {y : FileP} (hy : y ∈ fs) (hn : y.f.name ≠ x.f.name) : Apart x y := by
  have hp := h.apart
  clear h
  induction fs with
  | nil => cases hx
  | cons a t ih =>
    obtain ⟨h1, h2⟩ := List.pairwise_cons.1 hp
    rcases List.mem_cons.1 hx with ex | hx2
    · rcases List.mem_cons.1 hy with ey | hy2
      · exact absurd (by rw [ex, ey]) hn
      · rw [ex]; exact h1 y hy2
    · rcases List.mem_cons.1 hy with ey | hy2
      · rw [ey]; exact (h1 x hx2).symm
      · exact ih hx2 hy2 h2
end
end Go.Proofs.YtefjbefmmmllbaaDoor
