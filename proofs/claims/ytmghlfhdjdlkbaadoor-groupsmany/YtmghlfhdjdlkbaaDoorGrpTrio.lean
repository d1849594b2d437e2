/- The program's table, the document's and, if there is one, another one of the program's, side by side; whole blocks beside them. -/
import Derived.Test.YtmghlfhdjdlkbaaDoorGrpAlive
import Derived.Test.YtmghlfhdjdlkbaaDoorSameRowsG
namespace Go.Proofs.YtmghlfhdjdlkbaaDoor
open Go.RowKit

def OTabG (base : Nat) (O : Nat → Prop) (w : World) : Option (Nat × List PlaceM) → Prop
  | none => ∀ i, ¬ O i
  | some (o, lo) => GTab base O w o lo
theorem OTabG.lt {base : Nat} {O : Nat → Prop} {w : World} {oo : Option (Nat × List PlaceM)} (h : OTabG base O w oo) : ∀ i, O i → i < w.heap.size := fun i hi => by
  cases oo with
  | none => exact absurd hi (h i)
  | some p =>
    obtain ⟨o, lo⟩ := p
    have h' : GTab base O w o lo := h
    exact (h'.within.2 i hi).2
theorem OTabG.keep {base : Nat} {O U : Nat → Prop} {w w' : World} {oo : Option (Nat × List PlaceM)} (h : OTabG base O w oo) (hk : Keep U w w') (ha : ∀ i, O i → ¬ U i) : OTabG base O w' oo := by
  cases oo with
  | none => exact h
  | some p =>
    obtain ⟨o, lo⟩ := p
    have h' : GTab base O w o lo := h
    exact h'.keep hk ha
/-- All of them, since w0. -/
def TrioG (w0 w : World) (g q : Nat) (l m : List PlaceM) (oo : Option (Nat × List PlaceM)) (X : Nat → Option Obj) : Prop :=
  Below w0.heap.size w0 w ∧ ∃ S T O, GTab w0.heap.size S w g l ∧ RPl w0.heap.size T w q m ∧ OTabG w0.heap.size O w oo ∧ ((∀ i, S i → ¬ T i) ∧ (∀ i, S i → ¬ O i) ∧ (∀ i, T i → ¬ O i)) ∧
    ∀ b ob, X b = some ob → w.heap[b]? = some ob ∧ ¬ S b ∧ ¬ T b ∧ ¬ O b
theorem apart_grow {S S' T : Nat → Prop} {w w' : World} (h : ∀ i, S i → ¬ T i) (hs : ∀ i, S' i → Grow S w w' i) (hT : ∀ i, T i → i < w.heap.size) : ∀ i, S' i → ¬ T i := fun i hi ht => by
  rcases hs i hi with h1 | h1
  · exact h i h1 ht
  · have := hT i ht; omega
theorem heap_lt2 {w : World} {g : Nat} {o : Obj} (h : w.heap[g]? = some o) : g < w.heap.size := (Array.getElem?_eq_some_iff.1 h).1
section
variable {w0 w w' : World} {g q : Nat} {l m : List PlaceM} {oo : Option (Nat × List PlaceM)} {X : Nat → Option Obj}
theorem TrioG.since (h : TrioG w0 w g q l m oo X) : Below w0.heap.size w0 w := h.1
theorem TrioG.held (h : TrioG w0 w g q l m oo X) {b : Nat} {ob : Obj} (hb : X b = some ob) : w.heap[b]? = some ob := by
  obtain ⟨_, _, _, _, _, _, _, _, hx⟩ := h
  exact (hx b ob hb).1
theorem TrioG.below (h : TrioG w0 w g q l m oo X) (hb : Below w.heap.size w w') : TrioG w0 w' g q l m oo X := by
  obtain ⟨h1, S, T, O, hp, hr, ho, ha, hx⟩ := h
  have hk : Keep Nobody w w' := Keep.of_below hb
  exact ⟨h1.trans (hb.mono h1.size), S, T, O, hp.below hb, hr.below hb, ho.keep hk fun _ _ h => h, ha, fun b ob e => ⟨(hb.block b (heap_lt2 (hx b ob e).1)).trans (hx b ob e).1, (hx b ob e).2⟩⟩
theorem TrioG.alloc (h : TrioG w0 w g q l m oo X) (o : Obj) : TrioG w0 (w.alloc o) g q l m oo (fun b => if b = w.heap.size then some o else X b) := by
  have hb : Below w.heap.size w (w.alloc o) := (Below.refl w.heap.size w).alloc (Nat.le_refl _) o
  obtain ⟨h1, S, T, O, hp, hr, ho, ha, hx⟩ := h
  have hk : Keep Nobody w (w.alloc o) := Keep.of_below hb
  refine ⟨h1.trans (hb.mono h1.size), S, T, O, hp.below hb, hr.below hb, ho.keep hk fun _ _ h => h, ha, fun b ob e => ?_⟩
  by_cases hbe : b = w.heap.size
  · dsimp only at e
    rw [if_pos hbe] at e
    cases e
    subst hbe
    exact ⟨heap_alloc_new w _, fun hs => Nat.lt_irrefl _ (hp.within.2 _ hs).2, fun hs => Nat.lt_irrefl _ (hr.within.2 _ hs).2, fun hs => Nat.lt_irrefl _ (ho.lt _ hs)⟩
  · dsimp only at e
    rw [if_neg hbe] at e
    exact ⟨(hb.block b (heap_lt2 (hx b ob e).1)).trans (hx b ob e).1, (hx b ob e).2⟩
theorem TrioG.pget (h : TrioG w0 w g q l m oo X) (n : ByteArray) (hn : n.size ≤ maxLen) :
    Calls Tryd.prog 9 #[.pointer (some ⟨g, 0, none⟩), .string n] w (fun e w' => e = .returned (.tuple #[.int .i64 (getN l n).1, .bool (getN l n).2]) ∧ TrioG w0 w' g q l m oo X) := by
  obtain ⟨_, S, T, O, h2, _⟩ := id h
  exact (gget_any h2 n hn).mono fun e w' ⟨h3, h4⟩ => ⟨h3, h.below h4⟩
theorem TrioG.rget (h : TrioG w0 w g q l m oo X) (n : ByteArray) :
    Calls Tryd.prog 10 #[.pointer (some ⟨q, 0, none⟩), .string n] w (fun e w' => e = .returned (.tuple #[.int .i64 (getN m n).1, .bool (getN m n).2]) ∧ TrioG w0 w' g q l m oo X) := by
  obtain ⟨_, S, T, O, _, h2, _⟩ := id h
  exact (rget_any h2 n).mono fun e w' ⟨h3, h4⟩ => ⟨h3, h.below h4⟩
theorem TrioG.pset (hT : Tabs w0) (h : TrioG w0 w g q l m oo X) (x : PlaceM) (hx : x.wf) :
    Calls Tryd.prog 6 #[.pointer (some ⟨g, 0, none⟩), .string x.name, .int .i64 x.off] w (fun e w' => e = .returned (.int .i64 (setN l x).2) ∧ TrioG w0 w' g q (setN l x).1 m oo X) := by
  obtain ⟨h1, S, T, O, hp, hr, ho, ⟨a1, a2, a3⟩, hX⟩ := h
  refine (gset_any (hT.below h1) hp x hx).mono fun e w' ⟨h3, S', hs, hk, hp'⟩ => ⟨h3, h1.trans (hk.below hp.within), S', T, O, hp', hr.keep hk fun i hi hs => a1 i hs hi, ho.keep hk fun i hi hs => a2 i hs hi,
    ⟨apart_grow a1 hs fun i hi => (hr.within.2 i hi).2, apart_grow a2 hs ho.lt, a3⟩, fun b ob e => ?_⟩
  obtain ⟨x1, x2, x3, x4⟩ := hX b ob e
  exact ⟨(hk.block b (heap_lt2 x1) x2).trans x1, fun hb => by
    rcases hs b hb with h | h
    · exact x2 h
    · have := heap_lt2 x1; omega, x3, x4⟩
theorem TrioG.rset (h : TrioG w0 w g q l m oo X) (x : PlaceM) (hx : x.wf) :
    Calls Tryd.prog 8 #[.pointer (some ⟨q, 0, none⟩), .string x.name, .int .i64 x.off] w (fun e w' => e = .returned (.int .i64 (setN m x).2) ∧ TrioG w0 w' g q l (setN m x).1 oo X) := by
  obtain ⟨h1, S, T, O, hp, hr, ho, ⟨a1, a2, a3⟩, hX⟩ := h
  refine (rgset_any hr x hx).mono fun e w' ⟨h3, T', hs, hk, hr'⟩ => ⟨h3, h1.trans (hk.below hr.within), S, T', O, hp.keep hk a1, hr', ho.keep hk fun i hi hs => a3 i hs hi,
    ⟨fun i hi ht => apart_grow (fun i h1 h2 => a1 i h2 h1) hs (fun i hi => (hp.within.2 i hi).2) i ht hi, a2, apart_grow a3 hs ho.lt⟩, fun b ob e => ?_⟩
  obtain ⟨x1, x2, x3, x4⟩ := hX b ob e
  exact ⟨(hk.block b (heap_lt2 x1) x3).trans x1, x2, fun hb => by
    rcases hs b hb with h | h
    · exact x3 h
    · have := heap_lt2 x1; omega, x4⟩
theorem TrioG.oset (hT : Tabs w0) {o : Nat} {lo : List PlaceM} (h : TrioG w0 w g q l m (some (o, lo)) X) (x : PlaceM) (hx : x.wf) :
    Calls Tryd.prog 6 #[.pointer (some ⟨o, 0, none⟩), .string x.name, .int .i64 x.off] w (fun e w' => (∃ n, e = .returned (.int .i64 n)) ∧ TrioG w0 w' g q l m (some (o, (setN lo x).1)) X) := by
  obtain ⟨h1, S, T, O, hp, hr, ho, ⟨a1, a2, a3⟩, hX⟩ := h
  have ho' : GTab w0.heap.size O w o lo := ho
  refine (gset_any (hT.below h1) ho' x hx).mono fun e w' ⟨h3, O', hs, hk, hp'⟩ => ⟨⟨_, h3⟩, h1.trans (hk.below ho'.within), S, T, O', hp.keep hk a2, hr.keep hk a3, hp',
    ⟨a1, fun i hi ht => apart_grow (fun i h1 h2 => a2 i h2 h1) hs (fun i hi => (hp.within.2 i hi).2) i ht hi, fun i hi ht => apart_grow (fun i h1 h2 => a3 i h2 h1) hs (fun i hi => (hr.within.2 i hi).2) i ht hi⟩, fun b ob e => ?_⟩
  obtain ⟨x1, x2, x3, x4⟩ := hX b ob e
  exact ⟨(hk.block b (heap_lt2 x1) x4).trans x1, x2, x3, fun hb => by
    rcases hs b hb with h | h
    · exact x4 h
    · have := heap_lt2 x1; omega⟩
theorem TrioG.prows (h : TrioG w0 w g q l m oo X) :
    Calls Tryd.prog 12 #[.pointer (some ⟨g, 0, none⟩)] w (fun e w' => ∃ v, e = .returned v ∧ OwnG 25 w' w.heap.size v l ∧ Below w.heap.size w w' ∧ TrioG w0 w' g q l m oo X) := by
  obtain ⟨_, S, T, O, h2, _⟩ := id h
  exact (grows_any h2).mono fun e w' ⟨v, h3, h4, h5⟩ => ⟨v, h3, h4, h5, h.below h5⟩
/-- The document's rows, where they lie. -/
theorem TrioG.rl (h : TrioG w0 w g q l m oo X) : ∃ T A cap, w.cell? ⟨q, 0, none⟩ = some (.slice A m.length cap) ∧ RowsLie placeRep w T A m cap := by
  obtain ⟨_, S, T, O, _, ⟨_, _, _, A, cap, hb, _, hl⟩, _⟩ := h
  exact ⟨_, A, cap, by unfold World.cell?; rw [hb]; rfl, hl⟩
end
/-- Two new tables, one behind the other: the program's, and the document's. -/
theorem TrioG.new2 (w0 : World) {w : World} (hb : Below w0.heap.size w0 w) :
    TrioG w0 ((w.alloc gtabO).alloc (.cells #[.slice none 0 0] 32)) w.heap.size (w.heap.size + 1) [] [] none (fun _ => none) := by
  have h1 := gtab_new w hb.size
  have h2 := rpl_new (w.alloc gtabO) (base := w0.heap.size) (by simp; have := hb.size; omega)
  have hs : (w.alloc gtabO).heap.size = w.heap.size + 1 := by simp
  rw [hs] at h2
  refine ⟨(hb.alloc hb.size _).alloc (by rw [hs]; have := hb.size; omega) _, _, _, fun _ => False, h1.below ((Below.refl _ _).alloc (Nat.le_refl _) _), h2, fun _ h => h, ⟨fun i hi ht => by omega, fun _ _ h => h, fun _ _ h => h⟩, fun _ _ e => by cases e⟩
/-- Three new tables: two of the program's, then the document's. -/
theorem TrioG.new3 (w0 : World) {w : World} (hb : Below w0.heap.size w0 w) :
    TrioG w0 (((w.alloc gtabO).alloc gtabO).alloc (.cells #[.slice none 0 0] 32)) w.heap.size (w.heap.size + 1 + 1) [] [] (some (w.heap.size + 1, [])) (fun _ => none) := by
  have hs : (w.alloc gtabO).heap.size = w.heap.size + 1 := by simp
  have hs2 : ((w.alloc gtabO).alloc gtabO).heap.size = w.heap.size + 1 + 1 := by simp
  have hz := hb.size
  have h1 := gtab_new w hz
  have h2 := gtab_new (w.alloc gtabO) (base := w0.heap.size) (by rw [hs]; omega)
  have h3 := rpl_new ((w.alloc gtabO).alloc gtabO) (base := w0.heap.size) (by rw [hs2]; omega)
  rw [hs] at h2
  rw [hs2] at h3
  refine ⟨((hb.alloc hz _).alloc (by rw [hs]; omega) _).alloc (by rw [hs2]; omega) _, _, _, _, (h1.below ((Below.refl _ _).alloc (Nat.le_refl _) _)).below ((Below.refl _ _).alloc (Nat.le_refl _) _), h3, h2.below ((Below.refl _ _).alloc (Nat.le_refl _) (.cells #[.slice none 0 0] 32)),
    ⟨fun i hi ht => by omega, fun i hi ht => by omega, fun i hi ht => by omega⟩, fun _ _ e => by cases e⟩
end Go.Proofs.YtmghlfhdjdlkbaaDoor
