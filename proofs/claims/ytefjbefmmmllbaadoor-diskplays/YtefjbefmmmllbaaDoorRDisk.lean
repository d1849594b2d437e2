/- The document's own disk in memory: its block, its row of files, their bytes; append of files. No statement of the program is proved here. -/
import Derived.Test.YtefjbefmmmllbaaDoorKeep
import Derived.Test.YtefjbefmmmllbaaDoorDiskNum
namespace Go.Proofs.YtefjbefmmmllbaaDoor
open Go.RowKit

abbrev FileV := FileM × Value
def fileCs (x : FileV) : List Value := [.string x.1.name, x.2, .int .i64 (x.1.loose : Int)]
def filesCs (fs : List FileV) : List Value := fs.flatMap fileCs
theorem filesCs_length (fs : List FileV) : (filesCs fs).length = fs.length * 3 := by
  induction fs with
  | nil => rfl
  | cons a t ih =>
    unfold filesCs at ih ⊢
    rw [List.flatMap_cons, List.length_append, ih, List.length_cons]
    show 3 + t.length * 3 = (t.length + 1) * 3
    omega
theorem filesCs_at : ∀ (fs : List FileV) (i j : Nat) (hi : i < fs.length), j < 3 → (filesCs fs)[i * 3 + j]? = (fileCs fs[i])[j]?
  | a :: t, 0, j, _, hj => by
    unfold filesCs
    rw [List.flatMap_cons, Nat.zero_mul, Nat.zero_add, List.getElem?_append_left (by exact hj)]
    rfl
  | a :: t, i + 1, j, hi, hj => by
    have ih := filesCs_at t i j (by simpa using hi) hj
    unfold filesCs at ih ⊢
    rw [List.flatMap_cons, List.getElem?_append_right (by show 3 ≤ _; omega)]
    rw [show (i + 1) * 3 + j - (fileCs a).length = i * 3 + j by show (i + 1) * 3 + j - 3 = _; omega, ih]
    rfl
theorem filesCs_append (a b : List FileV) : filesCs (a ++ b) = filesCs a ++ filesCs b := by unfold filesCs; rw [List.flatMap_append]

/-- A file lies from cell o of block g on. -/
def FileAt (w : World) (g o : Nat) (x : FileV) : Prop :=
  w.cell? ⟨g, o, none⟩ = some (.string x.1.name) ∧ w.cell? ⟨g, o + 1, none⟩ = some x.2 ∧ w.cell? ⟨g, o + 2, none⟩ = some (.int .i64 (x.1.loose : Int))
/-- The slice value lv holds the files fs in a row of S, and their bytes lie in S. -/
def RowF (S : Nat → Prop) (w : World) (lv : Value) (fs : List FileV) : Prop :=
  w.ownsRow 0 74 3 lv fs.length (filesCs fs) ∧ (∀ g, lv.ownBlock = some g → S g) ∧ ∀ x ∈ fs, SlIn S w x.2 x.1.b ∧ x.1.wf
/-- A disk of the document's lies at block p. -/
def RDisk (base : Nat) (S : Nat → Prop) (w : World) (p : Nat) (room : Int) (fs : List FileV) : Prop :=
  Within base S w ∧ S p ∧ ∃ lv, w.heap[p]? = some (.cells #[.int .i64 room, lv] 47 (0, 0)) ∧ RowF S w lv fs

section
variable {S : Nat → Prop} {w w' : World} {lv : Value} {fs : List FileV}
theorem RowF.nil : RowF S w (.slice none 0 0) [] := ⟨World.ownsRow_nil w 0 _ 3, fun g h => by simp [Value.ownBlock] at h, fun _ h => by cases h⟩
theorem RowF.parts (h : RowF S w lv fs) : ∃ A c, lv = .slice A fs.length c ∧ fs.length ≤ c ∧ c ≤ maxLen ∧ (A = none → c = 0) ∧
    (fs ≠ [] → ∃ g off, A = some ⟨g, off, none⟩ ∧ g < w.heap.size ∧ ∀ i (h : i < fs.length), FileAt w g (off + i * 3) fs[i]) := by
  have h' := h.1
  rcases h.1.2 with ⟨rfl, h0⟩ | ⟨g, cap, cur, rfl, hbg, hg, hc, hm, _⟩
  · have : fs = [] := List.eq_nil_of_length_eq_zero h0
    subst this
    exact ⟨none, 0, rfl, by simp, by simp [maxLen], fun _ => rfl, fun h => absurd rfl h⟩
  · refine ⟨_, _, rfl, hc, hm, by simp, fun _ => ⟨g, 0, rfl, (Array.getElem?_eq_some_iff.1 hg).1, fun i hi => ?_⟩⟩
    have f : ∀ j u, j < 3 → (fileCs fs[i])[j]? = some u → w.cell? ⟨g, 0 + i * 3 + j, none⟩ = some u := fun j u hj hu => by
      have := World.ownsRow.cells (g := g) h' rfl (i * 3 + j) u (by rw [filesCs_at fs i j hi hj, hu])
      rw [add_lit] at this
      rw [Nat.add_assoc]
      exact this
    exact ⟨f 0 _ (by omega) rfl, f 1 _ (by omega) rfl, f 2 _ (by omega) rfl⟩
theorem RowF.below (h : RowF S w lv fs) (hb : Below w.heap.size w w') : RowF S w' lv fs :=
  ⟨World.ownsRow.kept (row := none) h.1 ⟨hb.os, hb.tape, hb.output, hb.size, fun i hi _ => hb.block i hi⟩ (by cases lv.ownBlock <;> simp), h.2.1, fun x hx => ⟨(h.2.2 x hx).1.below hb, (h.2.2 x hx).2⟩⟩
theorem RowF.mono {S' : Nat → Prop} (h : RowF S w lv fs) (hs : ∀ i, S i → S' i) : RowF S' w lv fs :=
  ⟨h.1, fun g hg => hs g (h.2.1 g hg), fun x hx => ⟨(h.2.2 x hx).1.mono hs, (h.2.2 x hx).2⟩⟩
end
section
variable {base : Nat} {S : Nat → Prop} {w w' : World} {p : Nat} {room : Int} {fs : List FileV}
/-- The disk's own cells. -/
theorem RDisk.cells (h : RDisk base S w p room fs) : ∃ A c, w.cell? ⟨p, 0, none⟩ = some (.int .i64 room) ∧ w.cell? ⟨p, 1, none⟩ = some (.slice A fs.length c) ∧ fs.length ≤ c ∧ c ≤ maxLen ∧ (A = none → c = 0) ∧
    (fs ≠ [] → ∃ g off, A = some ⟨g, off, none⟩ ∧ g < w.heap.size ∧ ∀ i (h : i < fs.length), FileAt w g (off + i * 3) fs[i]) := by
  obtain ⟨_, _, lv, hp, hr⟩ := h
  obtain ⟨A, c, rfl, h1⟩ := hr.parts
  refine ⟨A, c, ?_, ?_, h1⟩ <;> (unfold World.cell?; rw [hp]; rfl)
theorem RDisk.below (h : RDisk base S w p room fs) (hb : Below w.heap.size w w') : RDisk base S w' p room fs := by
  obtain ⟨h1, h2, lv, hp, hr⟩ := h
  exact ⟨h1.more hb.size, h2, lv, by rw [hb.block p (h1.2 p h2).2]; exact hp, hr.below hb⟩
theorem RDisk.drewN (h : RDisk base S w p room fs) (n : Nat) : RDisk base S (w.drewN n) p room fs := h
theorem RDisk.mono {S' : Nat → Prop} (h : RDisk base S w p room fs) (hs : ∀ i, S i → S' i) (hW : Within base S' w) : RDisk base S' w p room fs := by
  obtain ⟨h1, h2, lv, hp, hr⟩ := h
  exact ⟨hW, hs p h2, lv, hp, hr.mono hs⟩
/-- Calls on another object. -/
theorem RDisk.keep {T : Nat → Prop} (h : RDisk base S w p room fs) (hk : Keep T w w') (ha : ∀ i, S i → ¬ T i) : RDisk base S w' p room fs := by
  obtain ⟨h1, h2, lv, hp, hr⟩ := h
  refine ⟨h1.more hk.size, h2, lv, by rw [hk.block p (h1.2 p h2).2 (ha p h2)]; exact hp, ?_, hr.2.1, fun x hx => ⟨(hr.2.2 x hx).1.keep hk ha, (hr.2.2 x hx).2⟩⟩
  refine ⟨hr.1.1, ?_⟩
  rcases hr.1.2 with h3 | ⟨g, cap, cur, rfl, h4, hg, h5⟩
  · exact .inl h3
  · refine .inr ⟨g, cap, cur, rfl, h4, ?_, h5⟩
    have hS := hr.2.1 g rfl
    rw [hk.block g (h1.2 g hS).2 (ha g hS)]
    exact hg
end

/-- The files, without where their bytes lie. -/
def filesOf (fs : List FileV) : List FileM := fs.map Prod.fst
theorem filesOf_length (fs : List FileV) : (filesOf fs).length = fs.length := by simp [filesOf]
theorem filesOf_at (fs : List FileV) (i : Nat) (h : i < fs.length) : (filesOf fs)[i]'(by rw [filesOf_length]; exact h) = fs[i].1 := by simp [filesOf]
end Go.Proofs.YtefjbefmmmllbaaDoor
