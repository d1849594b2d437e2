/- Words of my own for objects that live over many calls: the blocks that an object is made of (its footprint), what a call on another object leaves of it, bytes that lie in it. No statement of the program is proved here. -/
import Derived.Test.YtmghlfhdjdlkbaaDoorBytes
namespace Go.Proofs.YtmghlfhdjdlkbaaDoor
open Go.RowKit

/-- Of the blocks that were there only those of S may have been written. -/
structure Keep (S : Nat → Prop) (w w' : World) : Prop where
  os : w'.os = w.os
  tape : w'.tape = w.tape
  output : w'.output = w.output
  size : w.heap.size ≤ w'.heap.size
  block : ∀ i, i < w.heap.size → ¬ S i → w'.heap[i]? = w.heap[i]?

/-- A footprint, and all blocks that are new. -/
def Grow (S : Nat → Prop) (w w' : World) (i : Nat) : Prop := S i ∨ (w.heap.size ≤ i ∧ i < w'.heap.size)
def Nobody (_ : Nat) : Prop := False
/-- A footprint of blocks that are there, none of them below base. -/
def Within (base : Nat) (S : Nat → Prop) (w : World) : Prop := base ≤ w.heap.size ∧ ∀ i, S i → base ≤ i ∧ i < w.heap.size

section
variable {S S' : Nat → Prop} {w w' w'' : World} {B base : Nat}
theorem Keep.refl (S : Nat → Prop) (w : World) : Keep S w w := ⟨rfl, rfl, rfl, Nat.le_refl _, fun _ _ _ => rfl⟩
theorem Keep.trans (h : Keep S w w') (h' : Keep S' w' w'') (hs : ∀ i, i < w.heap.size → S' i → S i) : Keep S w w'' :=
  ⟨h'.os.trans h.os, h'.tape.trans h.tape, h'.output.trans h.output, Nat.le_trans h.size h'.size,
   fun i hi hn => (h'.block i (Nat.lt_of_lt_of_le hi h.size) fun h0 => hn (hs i hi h0)).trans (h.block i hi hn)⟩
theorem Keep.mono (h : Keep S w w') (hs : ∀ i, S i → S' i) : Keep S' w w' := ⟨h.os, h.tape, h.output, h.size, fun i hi hn => h.block i hi fun h0 => hn (hs i h0)⟩
theorem Keep.of_below (h : Below w.heap.size w w') : Keep S w w' := ⟨h.os, h.tape, h.output, h.size, fun i hi _ => h.block i hi⟩
theorem Keep.below (h : Keep S w w') (hW : Within base S w) : Below base w w' :=
  ⟨h.os, h.tape, h.output, h.size, fun i hi => h.block i (Nat.lt_of_lt_of_le hi hW.1) fun h0 => by have := (hW.2 i h0).1; omega⟩
theorem Keep.drew (h : Keep S w w') : Keep S w w'.drew := ⟨h.os, h.tape, h.output, h.size, h.block⟩
theorem Keep.drewN (h : Keep S w w') (n : Nat) : Keep S w (w'.drewN n) := ⟨h.os, h.tape, h.output, h.size, h.block⟩
theorem Keep.alloc (h : Keep S w w') (o : Obj) : Keep S w (w'.alloc o) :=
  h.trans (S' := S) (Keep.of_below ((Below.refl _ _).alloc (Nat.le_refl _) o)) fun _ _ h => h
theorem Keep.setCell (h : Keep S w w') {p : Addr} (hp : S p.block ∨ w.heap.size ≤ p.block) (u : Value) : Keep S w (w'.setCell p u) := by
  refine ⟨h.os, h.tape, h.output, by simpa using h.size, fun i hi hn => ?_⟩
  rw [Below.heap_setCell _ _ _ _ (by rintro rfl; rcases hp with h1 | h1; exact hn h1; omega)]
  exact h.block i hi hn
theorem Keep.grown {row : Option Nat} (h : Keep S w w') (hg : w'.grownBy w'' row) (hr : ∀ k, row = some k → S k ∨ w.heap.size ≤ k) : Keep S w w'' :=
  ⟨hg.os.trans h.os, hg.tape.trans h.tape, hg.output.trans h.output, Nat.le_trans h.size hg.size, fun i hi hn => by
    rw [hg.block i (Nat.lt_of_lt_of_le hi h.size) (fun e => by rcases hr i e.symm with h1 | h1; exact hn h1; omega)]
    exact h.block i hi hn⟩
theorem Within.grow (h : Within base S w) (hs : w.heap.size ≤ w'.heap.size) : Within base (Grow S w w') w' :=
  ⟨Nat.le_trans h.1 hs, fun i hi => by
    rcases hi with h1 | h1
    · have := h.2 i h1; omega
    · have := h.1; omega⟩
theorem Within.more (h : Within base S w) (hs : w.heap.size ≤ w'.heap.size) : Within base S w' := ⟨Nat.le_trans h.1 hs, fun i hi => ⟨(h.2 i hi).1, Nat.lt_of_lt_of_le (h.2 i hi).2 hs⟩⟩
end

theorem below_drewN {B : Nat} {a w : World} (h : Below B a w) (n : Nat) : Below B a (w.drewN n) := ⟨h.os, h.tape, h.output, h.size, h.block⟩
/-- A struct of three cells stored into a block of the call's own. -/
theorem below_store3 {B : Nat} {a w : World} (h : Below B a w) {g : Nat} (hg : B ≤ g) (o : Nat) (x y z : Value) : Below B a (((w.setCell ⟨g, o, none⟩ x).setCell ⟨g, o + 1, none⟩ y).setCell ⟨g, o + 2, none⟩ z) :=
  ((h.setCell (p := ⟨g, o, none⟩) hg x).setCell (p := ⟨g, o + 1, none⟩) hg y).setCell (p := ⟨g, o + 2, none⟩) hg z

/-- Bytes lie from A on in a block of S that holds bytes. -/
def LiesIn (S : Nat → Prop) (w : World) (A : Option Addr) (xs : List Int) : Prop :=
  xs ≠ [] → ∃ b off cur fr, A = some ⟨b, off, none⟩ ∧ S b ∧ w.heap[b]? = some (.cells cur 5 fr) ∧ ∀ j (h : j < xs.length), cur[off + j]? = some (.int .u8 xs[j])
/-- The slice value v holds bytes in blocks of S. -/
def SlIn (S : Nat → Prop) (w : World) (v : Value) (xs : List Int) : Prop :=
  ∃ A c, v = .slice A xs.length c ∧ xs.length ≤ c ∧ c ≤ maxLen ∧ (A = none → c = 0) ∧ LiesIn S w A xs
section
variable {S S' : Nat → Prop} {w w' : World} {A : Option Addr} {xs : List Int} {v : Value}
theorem LiesIn.nil : LiesIn S w A [] := fun h => absurd rfl h
theorem LiesIn.lies (h : LiesIn S w A xs) : Lies .u8 w w.heap.size A xs := fun hn => by
  obtain ⟨b, off, cur, fr, e, _, hg, hc⟩ := h hn
  refine ⟨b, off, e, (Array.getElem?_eq_some_iff.1 hg).1, fun j hj => ?_⟩
  unfold World.cell?
  rw [hg]
  exact hc j hj
theorem LiesIn.same (h : LiesIn S w A xs) (hk : ∀ b cur fr, S b → w.heap[b]? = some (.cells cur 5 fr) → S' b ∧ w'.heap[b]? = some (.cells cur 5 fr)) : LiesIn S' w' A xs := fun hn => by
  obtain ⟨b, off, cur, fr, e, hs, hg, hc⟩ := h hn
  obtain ⟨h1, h2⟩ := hk b cur fr hs hg
  exact ⟨b, off, cur, fr, e, h1, h2, hc⟩
theorem LiesIn.take (h : LiesIn S w A xs) (n : Nat) : LiesIn S w A (xs.take n) := fun hn => by
  obtain ⟨b, off, cur, fr, e, hs, hg, hc⟩ := h (by rintro rfl; simp at hn)
  refine ⟨b, off, cur, fr, e, hs, hg, fun j hj => ?_⟩
  rw [hc j (by simp at hj; omega)]
  simp
theorem SlIn.same (h : SlIn S w v xs) (hk : ∀ b cur fr, S b → w.heap[b]? = some (.cells cur 5 fr) → S' b ∧ w'.heap[b]? = some (.cells cur 5 fr)) : SlIn S' w' v xs := by
  obtain ⟨A, c, rfl, h1, h2, h3, h4⟩ := h
  exact ⟨A, c, rfl, h1, h2, h3, h4.same hk⟩
theorem SlIn.mono (h : SlIn S w v xs) (hs : ∀ i, S i → S' i) : SlIn S' w v xs := h.same fun b _ _ h1 h2 => ⟨hs b h1, h2⟩
theorem SlIn.below (h : SlIn S w v xs) (hb : Below w.heap.size w w') : SlIn S w' v xs :=
  h.same fun b _ _ h1 h2 => ⟨h1, by rw [hb.block b (Array.getElem?_eq_some_iff.1 h2).1]; exact h2⟩
theorem SlIn.keep {T : Nat → Prop} (h : SlIn S w v xs) (hb : Keep T w w') (ha : ∀ i, S i → ¬ T i) : SlIn S w' v xs :=
  h.same fun b _ _ h1 h2 => ⟨h1, by rw [hb.block b (Array.getElem?_eq_some_iff.1 h2).1 (ha b h1)]; exact h2⟩
/-- A write into a block that holds no bytes. -/
theorem SlIn.written {g : Nat} {cur : Array Value} {t : TypeId} {fr : Nat × Nat} (h : SlIn S w v xs) (hg : w.heap[g]? = some (.cells cur t fr)) (ht : t ≠ 5) (hk : ∀ i, i ≠ g → i < w.heap.size → w'.heap[i]? = w.heap[i]?) : SlIn S w' v xs :=
  h.same fun b _ _ h1 h2 => ⟨h1, by
    by_cases e : b = g
    · subst e
      rw [hg] at h2
      injection h2 with h2
      injection h2 with _ h3 _
      exact absurd h3 ht
    · rw [hk b e (Array.getElem?_eq_some_iff.1 h2).1]; exact h2⟩
theorem SlIn.nil : SlIn S w (.slice none 0 0) [] := ⟨none, 0, rfl, by simp, by simp [maxLen], fun _ => rfl, LiesIn.nil⟩
theorem SlIn.take {c : Nat} (h : SlIn S w (.slice A xs.length c) xs) {n : Nat} (hn : n ≤ xs.length) : SlIn S w (.slice A n c) (xs.take n) := by
  obtain ⟨A', c', e, h1, h2, h3, h4⟩ := h
  injection e with e1 e2 e3
  subst e1 e3
  have hl : (xs.take n).length = n := by rw [List.length_take]; omega
  exact ⟨A, c, by rw [hl], by omega, h2, h3, h4.take n⟩
/-- Bytes of the call's own. -/
theorem Own.slIn {base : Nat} (h : Own .u8 5 w base v xs) (hs : ∀ i, base ≤ i → i < w.heap.size → S i) : SlIn S w v xs := by
  rcases h.2 with ⟨rfl, h0⟩ | ⟨g, cap, cur, rfl, hb, hg, hc, hm, hl, ht⟩
  · obtain rfl : xs = [] := List.eq_nil_of_length_eq_zero h0
    exact SlIn.nil
  · refine ⟨_, _, rfl, hc, hm, by simp, fun _ => ⟨g, 0, cur, (0, 0), rfl, hs g hb (Array.getElem?_eq_some_iff.1 hg).1, hg, fun j hj => ?_⟩⟩
    have : (cur.toList.take (xs.length * 1))[j]? = (xs.map (Value.int .u8))[j]? := by rw [ht]
    rw [List.getElem?_take_of_lt (by omega)] at this
    rw [Nat.zero_add, ← Array.getElem?_toList, this]
    simp [hj]
end
end Go.Proofs.YtmghlfhdjdlkbaaDoor
