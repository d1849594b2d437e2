/- The document's own way to tell the first rune, at the tail of a text. -/
import Derived.Test.YtmghlfhdjdlkbaaDoorRune1
namespace Go.Proofs.YtmghlfhdjdlkbaaDoor
open Go.RowKit

theorem rune_tail (s : ByteArray) (i : Nat) (w : World) (h : i < s.size) (hs : s.size ≤ maxLen) :
    Calls Tryd.prog 24 #[.string (s.extract i s.size)] w (fun e w' => e = .returned (.tuple #[.int .i64 ((runeAt s i).1 : Nat), .int .i64 ((Utf8.decode s i).2 : Nat), .bool (runeAt s i).2.2]) ∧ w = w') := by
  have hz : (s.extract i s.size).size = s.size - i := Go.Lib.tail_size s i
  have := rune1_any (s.extract i s.size) w (by omega) (by omega)
  unfold RuneTells at this
  rw [runeAt_tail, runeAt_width] at this
  exact this
end Go.Proofs.YtmghlfhdjdlkbaaDoor
