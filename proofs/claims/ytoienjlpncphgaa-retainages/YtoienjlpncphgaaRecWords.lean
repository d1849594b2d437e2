/- Words for what the program's own functions on records answer. No statement of the program is proved here. -/
import Derived.Test.YtoienjlpncphgaaAppendText
import Derived.Test.YtoienjlpncphgaaNums
namespace Go.Proofs.Ytoienjlpncphgaa
open Go.RowKit

/-- What a reading of a text answers; the world stays. -/
def TellsText (p : ByteArray × Int × Int) (w : World) (e : Ending) (w' : World) : Prop := e = .returned (.tuple #[.string p.1, .int .i64 p.2.1, .int .i64 p.2.2]) ∧ w = w'
theorem TellsText.mk {p : ByteArray × Int × Int} {w : World} {s : ByteArray} {b c : Int} (h : p = (s, b, c)) : TellsText p w (.returned (.tuple #[.string s, .int .i64 b, .int .i64 c])) w := by subst h; exact ⟨rfl, rfl⟩

/-- A number that is read: as plain numbers, within the bytes that there are. -/
theorem getR_nat {bs : List Int} {x k : Int} (hb : IsBytes bs) (h : getR bs = (x, k, 0)) : ∃ n m : Nat, x = n ∧ k = m ∧ m ≤ bs.length ∧ 1 ≤ m ∧ (n : Int) ≤ 18446744073709551615 := by
  obtain ⟨h0, h1, hk, rest, hd⟩ := getR_back hb h
  have hl := putL_length x
  refine ⟨x.toNat, (putL x).length, by omega, by omega, ?_, hl.1, by omega⟩
  have := congrArg List.length hd
  rw [List.length_append] at this
  omega

/-- What a reading of a record answers; nothing that was there is turned. -/
def TellsRec (p : Rec × Int × Int) (w : World) (e : Ending) (w' : World) : Prop := e = .returned (.tuple #[recV p.1, .int .i64 p.2.1, .int .i64 p.2.2]) ∧ Below w.heap.size w w'
theorem TellsRec.mk {p : Rec × Int × Int} {w w' : World} {r : Rec} {b c : Int} (h : p = (r, b, c)) (hb : Below w.heap.size w w') : TellsRec p w (.returned (.tuple #[.agg #[.int .i64 r.off, .int .i64 r.time, .string r.key, .string r.val, .bool r.dead], .int .i64 b, .int .i64 c])) w' := by subst h; exact ⟨rfl, hb⟩
theorem TellsRec.none {p : Rec × Int × Int} {w w' : World} {c : Int} (h : p = (zeroR, 0, c)) (hb : Below w.heap.size w w') : TellsRec p w (.returned (.tuple #[.agg #[.int .i64 0, .int .i64 0, .string ⟨#[]⟩, .string ⟨#[]⟩, .bool false], .int .i64 0, .int .i64 c])) w' := by subst h; exact ⟨rfl, hb⟩

theorem part_nat {bs : List Int} {i : Nat} {most : Int} {s : ByteArray} {j : Int} (hb : IsBytes bs) (hi : i ≤ bs.length) (h : partR bs i most = (s, j, 0)) : ∃ n : Nat, j = n ∧ n ≤ bs.length := by
  obtain ⟨hj, rest, hd⟩ := part_back hb hi h
  refine ⟨_, hj, ?_⟩
  have := congrArg List.length hd
  simp only [List.length_drop, List.length_append, ints_length] at this
  omega

/-- A record whose numbers fit their kinds and whose texts are no longer than texts may be. -/
def Rec.wf (r : Rec) : Prop := -9223372036854775808 ≤ r.off ∧ r.off ≤ 9223372036854775807 ∧ -9223372036854775808 ≤ r.time ∧ r.time ≤ 9223372036854775807 ∧ r.key.size ≤ maxLen ∧ r.val.size ≤ maxLen
theorem Rec.right.wf {r : Rec} (h : r.right) : r.wf := by
  obtain ⟨h1, h2, h3, h4, h5, h6, h7, _⟩ := h
  unfold Rec.wf maxLen
  omega

/-- A call that answers bytes, new ones or such that were there, and turns nothing that was there. -/
def Gives (w : World) (ys : List Int) (e : Ending) (w' : World) : Prop :=
  ∃ A c, e = .returned (.slice A ys.length c) ∧ ys.length ≤ c ∧ c ≤ maxLen ∧ (A = none → c = 0) ∧ Lies .u8 w' w'.heap.size A ys ∧ Below w.heap.size w w'
theorem NewBytes.gives {w : World} {ys : List Int} {e : Ending} {w' : World} (h : NewBytes w ys e w') : Gives w ys e w' := by
  obtain ⟨v, rfl, hown, hb⟩ := h
  obtain ⟨A, c, rfl, hc, hm, hl, hn⟩ := hown.parts2
  exact ⟨A, c, rfl, hc, hm, hn, hl, hb⟩
/-- The same, and besides: the bytes are those that were handed in (A0, c0), or new ones. -/
def Gives2 (w : World) (A0 : Option Addr) (c0 : Nat) (ys : List Int) (e : Ending) (w' : World) : Prop :=
  ∃ A c, e = .returned (.slice A ys.length c) ∧ ys.length ≤ c ∧ c ≤ maxLen ∧ (A = none → c = 0) ∧ Lies .u8 w' w'.heap.size A ys ∧ Below w.heap.size w w' ∧ ((A = A0 ∧ c = c0) ∨ ∀ x, A = some x → w.heap.size ≤ x.block)
theorem Gives2.gives {w : World} {A0 : Option Addr} {c0 : Nat} {ys : List Int} {e : Ending} {w' : World} (h : Gives2 w A0 c0 ys e w') : Gives w ys e w' := by
  obtain ⟨A, c, h1, h2, h3, h4, h5, h6, _⟩ := h
  exact ⟨A, c, h1, h2, h3, h4, h5, h6⟩
theorem NewBytes.gives2 {w : World} {A0 : Option Addr} {c0 : Nat} {ys : List Int} {e : Ending} {w' : World} (h : NewBytes w ys e w') : Gives2 w A0 c0 ys e w' := by
  obtain ⟨v, rfl, hown, hb⟩ := h
  have hlt := hown.lt
  obtain ⟨A, c, rfl, hc, hm, hl, hn⟩ := hown.parts2
  refine ⟨A, c, rfl, hc, hm, hn, hl, hb, .inr fun x hx => ?_⟩
  subst hx
  exact (hlt x.block rfl).1
theorem putR_right {r : Rec} (h : r.right) : putR r = recL r := if_pos h
theorem putR_wrong {r : Rec} (h : ¬ r.right) : putR r = [] := if_neg h
theorem putR_range (r : Rec) : IsBytes (putR r) := by
  by_cases h : r.right
  · rw [putR_right h]; exact recL_range r h
  · rw [putR_wrong h]; exact fun _ h => by cases h
theorem putR_length (r : Rec) : (putR r).length ≤ 2300 := by
  by_cases h : r.right
  · rw [putR_right h]; exact (recL_length r h).2
  · rw [putR_wrong h]; simp
theorem wrap_len (n : Nat) (h : n ≤ 1000000) : IntKind.i64.wrap (n : Int) = (n : Int) := by
  simp only [IntKind.wrap, IntKind.signed, IntKind.bits]
  simp
  omega
theorem text_ne {a b : ByteArray} (h : ¬ a = b) : (a.toList == b.toList) = false := by
  refine beq_eq_false_iff_ne.2 fun hh => h ?_
  rw [ByteArray.toList_eq, ByteArray.toList_eq] at hh
  exact bytes_eq hh
end Go.Proofs.Ytoienjlpncphgaa
