/- How segments of a log lie in memory. No statement of the program is proved here. -/
import Derived.Test.YtoienjlpncphgaaLSegNum
import Derived.Test.YtoienjlpncphgaaRecs
import Derived.Test.YtoienjlpncphgaaRep
namespace Go.Proofs.Ytoienjlpncphgaa
open Go.RowKit

/-- A segment's cells, its records' slice being v. -/
def segCells (v : Value) (s : LSeg) : List Value := [.int .i64 s.base, .int .i64 s.next, .int .i64 s.time, .int .i64 s.gen, v, .bool s.shut, .bool s.clean, .bool s.remote, .int .i64 s.size, .int .u32 s.sum]
/-- Its block. -/
abbrev segO (v : Value) (s : LSeg) : Obj := .cells #[.int .i64 s.base, .int .i64 s.next, .int .i64 s.time, .int .i64 s.gen, v, .bool s.shut, .bool s.clean, .bool s.remote, .int .i64 s.size, .int .u32 s.sum] 31
/-- Its records lie somewhere in blocks of S. -/
def RecsIn (w : World) (S : Nat → Prop) (A : Option Addr) (rs : List Rec) (cap : Nat) : Prop := RecsLie w A rs cap ∧ (rs ≠ [] → ∃ b off, A = some ⟨b, off, none⟩ ∧ S b)
theorem RecsIn.keep {w w' : World} {S : Nat → Prop} {A : Option Addr} {rs : List Rec} {cap : Nat} (h : RecsIn w S A rs cap) (hz : w.heap.size ≤ w'.heap.size) (hk : ∀ b, S b → w'.heap[b]? = w.heap[b]?) : RecsIn w' S A rs cap := by
  refine ⟨⟨fun hn => ?_, h.1.2⟩, h.2⟩
  obtain ⟨b, off, e, hb, hc⟩ := h.1.1 hn
  obtain ⟨b', off', e', hs⟩ := h.2 hn
  obtain ⟨rfl, rfl⟩ : b = b' ∧ off = off' := by rw [e] at e'; injection e' with e'; injection e' with x1 x2; exact ⟨x1, x2⟩
  exact ⟨b, off, e, by omega, fun i hi => (hc i hi).keep fun j => World.cell?_of_block (a := ⟨b, j, none⟩) (hk b hs)⟩
theorem RecsIn.mono {w : World} {S T : Nat → Prop} {A : Option Addr} {rs : List Rec} {cap : Nat} (h : RecsIn w S A rs cap) (hs : ∀ b, S b → T b) : RecsIn w T A rs cap :=
  ⟨h.1, fun hn => by obtain ⟨b, off, e, h2⟩ := h.2 hn; exact ⟨b, off, e, hs b h2⟩⟩
theorem RecsIn.nil {w : World} {S : Nat → Prop} : RecsIn w S none [] 0 := ⟨⟨fun h => absurd rfl h, Nat.le_refl _, Nat.zero_le _, fun _ h => by cases h⟩, fun h => absurd rfl h⟩
def segRep : Rep LSeg where
  n := 10
  pos := by decide
  holds := fun w S s cs => ∃ A cap, cs = segCells (.slice A s.recs.length cap) s ∧ RecsIn w S A s.recs cap
  len := by rintro w S x cs ⟨A, cap, rfl, _⟩; rfl
  one := by
    rintro w S x cs ⟨A, cap, rfl, _⟩ u hu
    simp only [segCells, List.mem_cons, List.not_mem_nil, or_false] at hu
    rcases hu with rfl | rfl | rfl | rfl | rfl | rfl | rfl | rfl | rfl | rfl <;> rfl
  keep := by rintro w w' S x cs ⟨A, cap, rfl, h⟩ hz hk; exact ⟨A, cap, rfl, h.keep hz hk⟩
  mono := by rintro w S T x cs ⟨A, cap, rfl, h⟩ hs; exact ⟨A, cap, rfl, h.mono hs⟩
/-- Its ten cells, from cell o of block b on. -/
def TenAt (w : World) (b o : Nat) (v : Value) (s : LSeg) : Prop :=
  w.cell? ⟨b, o, none⟩ = some (.int .i64 s.base) ∧ w.cell? ⟨b, o + 1, none⟩ = some (.int .i64 s.next) ∧ w.cell? ⟨b, o + 2, none⟩ = some (.int .i64 s.time) ∧ w.cell? ⟨b, o + 3, none⟩ = some (.int .i64 s.gen) ∧ w.cell? ⟨b, o + 4, none⟩ = some v ∧ w.cell? ⟨b, o + 5, none⟩ = some (.bool s.shut) ∧ w.cell? ⟨b, o + 6, none⟩ = some (.bool s.clean) ∧ w.cell? ⟨b, o + 7, none⟩ = some (.bool s.remote) ∧ w.cell? ⟨b, o + 8, none⟩ = some (.int .i64 s.size) ∧ w.cell? ⟨b, o + 9, none⟩ = some (.int .u32 s.sum)
theorem seg_cells {w : World} {S : Nat → Prop} {b o : Nat} {s : LSeg} (h : RowAt segRep w S b o s) : ∃ A cap, TenAt w b o (.slice A s.recs.length cap) s ∧ RecsIn w S A s.recs cap := by
  obtain ⟨cs, ⟨A, cap, rfl, hr⟩, h2⟩ := h
  exact ⟨A, cap, ⟨h2 0 _ rfl, h2 1 _ rfl, h2 2 _ rfl, h2 3 _ rfl, h2 4 _ rfl, h2 5 _ rfl, h2 6 _ rfl, h2 7 _ rfl, h2 8 _ rfl, h2 9 _ rfl⟩, hr⟩
theorem TenAt.keep {w w' : World} {b o : Nat} {v : Value} {s : LSeg} (h : TenAt w b o v s) (hk : ∀ j, w'.cell? ⟨b, j, none⟩ = w.cell? ⟨b, j, none⟩) : TenAt w' b o v s :=
  ⟨(hk _).trans h.1, (hk _).trans h.2.1, (hk _).trans h.2.2.1, (hk _).trans h.2.2.2.1, (hk _).trans h.2.2.2.2.1, (hk _).trans h.2.2.2.2.2.1, (hk _).trans h.2.2.2.2.2.2.1, (hk _).trans h.2.2.2.2.2.2.2.1, (hk _).trans h.2.2.2.2.2.2.2.2.1, (hk _).trans h.2.2.2.2.2.2.2.2.2⟩
theorem SegsLie.at_ {w : World} {S : Nat → Prop} {A : Option Addr} {ss : List LSeg} {cap : Nat} (h : RowsLie segRep w S A ss cap) {i : Nat} (hi : i < ss.length) :
    ∃ b off B c, A = some ⟨b, off, none⟩ ∧ b < w.heap.size ∧ S b ∧ TenAt w b (off + i * 10) (.slice B ss[i].recs.length c) ss[i] ∧ RecsIn w S B ss[i].recs c := by
  obtain ⟨b, off, e, hb, hs, hr⟩ := h.more hi
  obtain ⟨B, c, h1, h2⟩ := seg_cells hr
  exact ⟨b, off, B, c, e, hb, hs, h1, h2⟩
/-- A segment of which one knows the block: its cells. -/
theorem seg_load {w : World} {b : Nat} {v : Value} {s : LSeg} (h : w.heap[b]? = some (segO v s)) : TenAt w b 0 v s := by
  refine ⟨?_, ?_, ?_, ?_, ?_, ?_, ?_, ?_, ?_, ?_⟩ <;> (unfold World.cell?; rw [h]; rfl)
/-- What a slice expression 's[j:]' leaves. -/
theorem SegsLie.drop {w : World} {S : Nat → Prop} {b off : Nat} {ss : List LSeg} {cap : Nat} (h : RowsLie segRep w S (some ⟨b, off, none⟩) ss cap) (j : Nat) (hj : j ≤ ss.length) : RowsLie segRep w S (some ⟨b, off + j * 10, none⟩) (ss.drop j) (cap - j) := by
  refine ⟨fun hn => ?_, by rw [List.length_drop]; have := h.2.1; omega, by have := h.2.2; omega⟩
  obtain ⟨b', off', e, hb, hs, hc⟩ := h.1 (by rintro rfl; simp at hn)
  obtain ⟨rfl, rfl⟩ : b = b' ∧ off = off' := by injection e with e; injection e with x1 x2; exact ⟨x1, x2⟩
  refine ⟨b, _, rfl, hb, hs, fun i hi => ?_⟩
  rw [List.length_drop] at hi
  have := hc (j + i) (by omega)
  rw [List.getElem_drop]
  have e2 : off + j * 10 + i * segRep.n = off + (j + i) * segRep.n := by show off + j * 10 + i * 10 = off + (j + i) * 10; omega
  rw [e2]
  exact this
end Go.Proofs.Ytoienjlpncphgaa
