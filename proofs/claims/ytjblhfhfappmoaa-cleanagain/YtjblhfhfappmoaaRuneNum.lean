/- The runes of a text as plain numbers, over the model's own decoding: how many there are, where the first ones end, that a text cut between two of them has its runes on either side; and the document's own way to tell the first one. No word of the program. -/
import Derived.Lib.RuneCountTail
import Derived.Lib.MapLaws
namespace Go.Proofs.Ytjblhfhfappmoaa
open Go.Lib

theorem byte_lt (s : ByteArray) (i : Nat) : (s.get! i).toNat < 256 := (s.get! i).toNat_lt

theorem decodeN_fits (n b0 b1 b2 b3 : Nat) (hn : 1 ≤ n) : (decodeN n b0 b1 b2 b3).2 ≤ n := by
  rcases decodeN_shape n b0 b1 b2 b3 with ⟨_, e⟩ | ⟨_, _, _, _, e⟩ | ⟨_, _, _, _, _, _, e⟩ | ⟨_, _, _, _, _, _, _, e⟩ | e <;> rw [e] <;> simp only <;> omega
theorem decode_fits (s : ByteArray) (p : Nat) (h : p < s.size) : p + (Utf8.decode s p).2 ≤ s.size := by
  rw [decode_at]
  have := decodeN_fits (s.size - p) (s.get! p).toNat (s.get! (p + 1)).toNat (s.get! (p + 2)).toNat (s.get! (p + 3)).toNat (by omega)
  omega
theorem decode_four (s : ByteArray) (p : Nat) : (Utf8.decode s p).2 ≤ 4 := by
  rw [decode_at]
  rcases decodeN_shape (s.size - p) (s.get! p).toNat (s.get! (p + 1)).toNat (s.get! (p + 2)).toNat (s.get! (p + 3)).toNat with ⟨_, e⟩ | ⟨_, _, _, _, e⟩ | ⟨_, _, _, _, _, _, e⟩ | ⟨_, _, _, _, _, _, _, e⟩ | e <;> rw [e] <;> simp only <;> omega

set_option maxRecDepth 100000 in
set_option maxHeartbeats 4000000 in
/-- What follows behind the first rune does not matter to it. -/
theorem decodeN_head (n m b0 b1 b2 b3 c1 c2 c3 : Nat) (hmn : m ≤ n) (hw : (decodeN n b0 b1 b2 b3).2 ≤ m) (e1 : 1 < m → c1 = b1) (e2 : 2 < m → c2 = b2) (e3 : 3 < m → c3 = b3) :
    decodeN m b0 c1 c2 c3 = decodeN n b0 b1 b2 b3 := by
  rcases decodeN_shape m b0 c1 c2 c3 with ⟨h, e⟩ | ⟨h0, h1, h2, h3, e⟩ | ⟨h0, h1, h2, h3, h4, h5, e⟩ | ⟨h0, h1, h2, h3, h4, h5, h6, e⟩ | e
  · rw [e, decodeN, if_pos h]
  · have E1 := e1 (by omega)
    subst E1
    rw [e, decodeN, if_neg (by omega), if_pos ⟨h0, by omega, h2⟩, if_pos h3]
  · have E1 := e1 (by omega)
    have E2 := e2 (by omega)
    subst E1 E2
    rw [e, decodeN, if_neg (by omega), if_neg (by omega), if_pos ⟨h0, ⟨by omega, h2⟩, by omega, h3⟩, if_pos ⟨h4, by omega⟩]
  · have E1 := e1 (by omega)
    have E2 := e2 (by omega)
    have E3 := e3 (by omega)
    subst E1 E2 E3
    rw [e, decodeN, if_neg (by omega), if_neg (by omega), if_neg (by omega), if_pos ⟨h0, ⟨by omega, h2⟩, ⟨by omega, h3⟩, by omega, h4⟩, if_pos ⟨h5, by omega⟩]
  · rw [e]
    rcases decodeN_shape n b0 b1 b2 b3 with ⟨h, e'⟩ | ⟨h0, h1, h2, h3, e'⟩ | ⟨h0, h1, h2, h3, h4, h5, e'⟩ | ⟨h0, h1, h2, h3, h4, h5, h6, e'⟩ | e'
    · rw [decodeN, if_pos h] at e
      rw [e', ← e]
    · rw [e'] at hw
      simp only at hw
      have E1 := e1 (by omega)
      subst E1
      rw [decodeN, if_neg (by omega), if_pos ⟨h0, by omega, h2⟩, if_pos h3] at e
      rw [e', e]
    · rw [e'] at hw
      simp only at hw
      have E1 := e1 (by omega)
      have E2 := e2 (by omega)
      subst E1 E2
      rw [decodeN, if_neg (by omega), if_neg (by omega), if_pos ⟨h0, ⟨by omega, h2⟩, by omega, h3⟩, if_pos ⟨h4, by omega⟩] at e
      rw [e', e]
    · rw [e'] at hw
      simp only at hw
      have E1 := e1 (by omega)
      have E2 := e2 (by omega)
      have E3 := e3 (by omega)
      subst E1 E2 E3
      rw [decodeN, if_neg (by omega), if_neg (by omega), if_neg (by omega), if_pos ⟨h0, ⟨by omega, h2⟩, ⟨by omega, h3⟩, by omega, h4⟩, if_pos ⟨h5, by omega⟩] at e
      rw [e', e]
    · rw [e']

theorem front_size (s : ByteArray) (e : Nat) (he : e ≤ s.size) : (s.extract 0 e).size = e := by
  rw [size_eq, extract_data, List.length_take, List.length_drop, ← size_eq]
  omega
theorem front_get (s : ByteArray) (e j : Nat) (hj : j < e) : (s.extract 0 e).get! j = s.get! j := by
  rw [← getD_get!', ← getD_get!', extract_data]
  simp [List.getD, hj]
theorem front_decode (s : ByteArray) (e p : Nat) (he : e ≤ s.size) (hp : p + (Utf8.decode s p).2 ≤ e) : Utf8.decode (s.extract 0 e) p = Utf8.decode s p := by
  rw [decode_at] at hp
  rcases Nat.lt_or_ge p e with hlt | hge
  · rw [decode_at, decode_at s, front_size s e he, front_get s e p hlt]
    refine decodeN_head (s.size - p) (e - p) _ _ _ _ _ _ _ (by omega) (by omega) ?_ ?_ ?_
    · intro h; rw [front_get s e _ (by omega)]
    · intro h; rw [front_get s e _ (by omega)]
    · intro h; rw [front_get s e _ (by omega)]
  · have := decodeN_ge1 (s.size - p) (s.get! p).toNat (s.get! (p + 1)).toNat (s.get! (p + 2)).toNat (s.get! (p + 3)).toNat
    omega

/-- Where the first n runes from p on end. -/
def upTo (s : ByteArray) : Nat → Nat → Nat
  | 0, p => p
  | n + 1, p => if p < s.size then upTo s n (p + (Utf8.decode s p).2) else p
theorem upTo_ge (s : ByteArray) : ∀ n p, p ≤ upTo s n p
  | 0, _ => Nat.le_refl _
  | n + 1, p => by
    unfold upTo
    split
    · have := upTo_ge s n (p + (Utf8.decode s p).2); omega
    · exact Nat.le_refl _
theorem upTo_le (s : ByteArray) : ∀ n p, p ≤ s.size → upTo s n p ≤ s.size
  | 0, _, h => h
  | n + 1, p, h => by
    unfold upTo
    split
    · rename_i hlt
      exact upTo_le s n _ (decode_fits s p hlt)
    · exact h
theorem upTo_end (s : ByteArray) (n p : Nat) (h : ¬ p < s.size) : upTo s n p = p := by cases n <;> simp [upTo, h]
theorem upTo_step (s : ByteArray) (n p : Nat) (h : p < s.size) : upTo s (n + 1) p = upTo s n (p + (Utf8.decode s p).2) := by simp [upTo, h]

/-- How many runes there are from p on. -/
def cntFrom (s : ByteArray) (p : Nat) : Nat := runeCountFrom s (s.size - p) p
theorem cnt_end (s : ByteArray) (p : Nat) (h : ¬ p < s.size) : cntFrom s p = 0 := runeCountFrom_end s _ p h
theorem cnt_step (s : ByteArray) (p : Nat) (h : p < s.size) : cntFrom s p = 1 + cntFrom s (p + (Utf8.decode s p).2) := by
  unfold cntFrom
  obtain ⟨f, hf⟩ : ∃ f, s.size - p = f + 1 := ⟨s.size - p - 1, by omega⟩
  have hw := decode_width_pos s p h
  rw [hf, runeCountFrom, if_pos h, fuel_enough s f (s.size - (p + (Utf8.decode s p).2)) _ (by omega) (by omega)]
theorem cnt_le (s : ByteArray) (p : Nat) : cntFrom s p ≤ s.size - p := runeCountFrom_le s _ p
theorem cnt_zero {s : ByteArray} {p : Nat} (h : cntFrom s p = 0) : ¬ p < s.size := by
  intro hp
  rw [cnt_step s p hp] at h
  omega

/-- Behind the first n runes all the others stand. -/
theorem cnt_rest (s : ByteArray) : ∀ n p, cntFrom s (upTo s n p) = cntFrom s p - n
  | 0, p => by simp [upTo]
  | n + 1, p => by
    by_cases h : p < s.size
    · rw [upTo_step s n p h, cnt_rest s n, cnt_step s p h]; omega
    · rw [upTo_end s _ p h, cnt_end s p h]; omega
/-- Where there are fewer, the end. -/
theorem upTo_all (s : ByteArray) (n p : Nat) (hp : p ≤ s.size) (h : cntFrom s p ≤ n) : upTo s n p = s.size := by
  have h1 := cnt_rest s n p
  have h2 := cnt_zero (s := s) (p := upTo s n p) (by omega)
  have h3 := upTo_le s n p hp
  omega
/-- The text up to the end of its first n runes has just these. -/
theorem cnt_front (s : ByteArray) : ∀ n p, p ≤ s.size → cntFrom (s.extract 0 (upTo s n p)) p = min n (cntFrom s p)
  | 0, p, hp => by
    rw [cnt_end _ _ (by rw [front_size s _ (upTo_le s 0 p hp)]; simp [upTo])]
    omega
  | n + 1, p, hp => by
    by_cases h : p < s.size
    · have hw := decode_width_pos s p h
      have hf := decode_fits s p h
      have ih := cnt_front s n (p + (Utf8.decode s p).2) hf
      have hge := upTo_ge s n (p + (Utf8.decode s p).2)
      have hle := upTo_le s n (p + (Utf8.decode s p).2) hf
      rw [upTo_step s n p h]
      generalize upTo s n (p + (Utf8.decode s p).2) = e at *
      rw [cnt_step _ p (by rw [front_size s e hle]; omega), front_decode s e p hle hge, ih, cnt_step s p h]
      omega
    · rw [upTo_end s _ p h, cnt_end s p h, cnt_end _ p (by rw [front_size s p hp]; omega)]
      omega
/-- Behind p the rest counts as it did. -/
theorem cnt_tail (s : ByteArray) (p : Nat) : cntFrom (s.extract p s.size) 0 = cntFrom s p := by
  unfold cntFrom
  rw [tail_count, tail_size, Nat.add_zero, Nat.sub_zero]
theorem upTo_front (s : ByteArray) (n p : Nat) (hp : p ≤ s.size) : upTo (s.extract 0 (upTo s n p)) n p = upTo s n p := by
  have hle := upTo_le s n p hp
  have hs := front_size s (upTo s n p) hle
  have := upTo_all (s.extract 0 (upTo s n p)) n p (by rw [hs]; exact upTo_ge s n p) (by rw [cnt_front s n p hp]; omega)
  rw [this, hs]

/-! ### The document's own way to tell the first rune -/
/-- The rune, how many bytes, whether it is right. -/
def runeN (n b0 b1 b2 b3 : Nat) : Nat × Nat × Bool :=
  let d := decodeN n b0 b1 b2 b3
  if d = (65533, 1) then (0, 1, false) else (d.1, d.2, true)
def runeAt (s : ByteArray) (p : Nat) : Nat × Nat × Bool :=
  if Utf8.decode s p = (65533, 1) then (0, 1, false) else ((Utf8.decode s p).1, (Utf8.decode s p).2, true)
theorem runeAt_eq (s : ByteArray) (p : Nat) : runeAt s p = runeN (s.size - p) (s.get! p).toNat (s.get! (p + 1)).toNat (s.get! (p + 2)).toNat (s.get! (p + 3)).toNat := by
  unfold runeAt runeN
  rw [decode_at]
theorem runeAt_width (s : ByteArray) (p : Nat) : (runeAt s p).2.1 = (Utf8.decode s p).2 := by
  unfold runeAt
  split
  · rename_i h; rw [h]
  · rfl
theorem runeAt_tail (s : ByteArray) (p : Nat) : runeAt (s.extract p s.size) 0 = runeAt s p := by
  unfold runeAt
  rw [tail_decode, Nat.add_zero]

theorem bad_head (n b0 b1 b2 b3 : Nat) (h : (128 ≤ b0 ∧ b0 < 194) ∨ 245 ≤ b0) (h0 : b0 < 256) (_ : b1 < 256) (_ : b2 < 256) (_ : b3 < 256) : runeN n b0 b1 b2 b3 = (0, 1, false) := by
  unfold runeN
  rcases decodeN_shape n b0 b1 b2 b3 with ⟨_, e⟩ | ⟨_, _, _, _, e⟩ | ⟨_, _, _, _, _, _, e⟩ | ⟨_, _, _, _, _, _, _, e⟩ | e
  · omega
  · omega
  · omega
  · omega
  · simp only [e, if_true]
theorem one_head (n b0 b1 b2 b3 : Nat) (h : b0 < 128) : runeN n b0 b1 b2 b3 = (b0, 1, true) := by
  unfold runeN
  rw [decodeN, if_pos h]
  rw [if_neg (by intro e; injection e; omega)]
/-- Two bytes: right if the second is one that goes on. -/
theorem two_head (n b0 b1 b2 b3 : Nat) (h : 194 ≤ b0 ∧ b0 < 224) : runeN n b0 b1 b2 b3 = if 2 ≤ n ∧ 128 ≤ b1 ∧ b1 ≤ 191 then (b0 % 32 * 64 + b1 % 64, 2, true) else (0, 1, false) := by
  unfold runeN
  split
  · rename_i hc
    have e : decodeN n b0 b1 b2 b3 = (b0 % 32 * 64 + b1 % 64, 2) := by
      rw [decodeN, if_neg (by omega), if_pos ⟨by omega, by omega, by omega⟩, if_pos (by omega)]
    simp only [e]
    rw [if_neg (by intro e; injection e; omega)]
  · rename_i hc
    have e : decodeN n b0 b1 b2 b3 = (65533, 1) := by
      rw [decodeN, if_neg (by omega), if_neg (by omega), if_neg (by omega), if_neg (by omega)]
    simp only [e, if_true]
theorem three_head (n b0 b1 b2 b3 : Nat) (h : 224 ≤ b0 ∧ b0 < 240) :
    runeN n b0 b1 b2 b3 = if (3 ≤ n ∧ 128 ≤ b1 ∧ b1 ≤ 191 ∧ 128 ≤ b2 ∧ b2 ≤ 191) ∧ 2048 ≤ b0 % 16 * 4096 + b1 % 64 * 64 + b2 % 64 ∧ ¬ (55296 ≤ b0 % 16 * 4096 + b1 % 64 * 64 + b2 % 64 ∧ b0 % 16 * 4096 + b1 % 64 * 64 + b2 % 64 ≤ 57343)
      then (b0 % 16 * 4096 + b1 % 64 * 64 + b2 % 64, 3, true) else (0, 1, false) := by
  unfold runeN
  split
  · rename_i hc
    have e : decodeN n b0 b1 b2 b3 = (b0 % 16 * 4096 + b1 % 64 * 64 + b2 % 64, 3) := by
      rw [decodeN, if_neg (by omega), if_neg (by omega), if_pos ⟨by omega, ⟨by omega, by omega⟩, by omega, by omega⟩, if_pos ⟨by omega, by omega⟩]
    simp only [e]
    rw [if_neg (by intro e; injection e; omega)]
  · rename_i hc
    have e : decodeN n b0 b1 b2 b3 = (65533, 1) := by
      rcases decodeN_shape n b0 b1 b2 b3 with ⟨_, e⟩ | ⟨_, _, _, _, e⟩ | ⟨h0, h1, h2, h3, h4, h5, e⟩ | ⟨_, _, _, _, _, _, _, e⟩ | e
      · omega
      · omega
      · exfalso; apply hc; omega
      · omega
      · exact e
    simp only [e, if_true]
theorem four_head (n b0 b1 b2 b3 : Nat) (h : 240 ≤ b0 ∧ b0 < 245) :
    runeN n b0 b1 b2 b3 = if (4 ≤ n ∧ 128 ≤ b1 ∧ b1 ≤ 191 ∧ 128 ≤ b2 ∧ b2 ≤ 191 ∧ 128 ≤ b3 ∧ b3 ≤ 191) ∧ 65536 ≤ b0 % 8 * 262144 + b1 % 64 * 4096 + b2 % 64 * 64 + b3 % 64 ∧ b0 % 8 * 262144 + b1 % 64 * 4096 + b2 % 64 * 64 + b3 % 64 ≤ 1114111
      then (b0 % 8 * 262144 + b1 % 64 * 4096 + b2 % 64 * 64 + b3 % 64, 4, true) else (0, 1, false) := by
  unfold runeN
  split
  · rename_i hc
    have e : decodeN n b0 b1 b2 b3 = (b0 % 8 * 262144 + b1 % 64 * 4096 + b2 % 64 * 64 + b3 % 64, 4) := by
      rw [decodeN, if_neg (by omega), if_neg (by omega), if_neg (by omega), if_pos ⟨by omega, ⟨by omega, by omega⟩, ⟨by omega, by omega⟩, by omega, by omega⟩, if_pos ⟨by omega, by omega⟩]
    simp only [e]
    rw [if_neg (by intro e; injection e; omega)]
  · rename_i hc
    have e : decodeN n b0 b1 b2 b3 = (65533, 1) := by
      rcases decodeN_shape n b0 b1 b2 b3 with ⟨_, e⟩ | ⟨_, _, _, _, e⟩ | ⟨_, _, _, _, _, _, e⟩ | ⟨h0, h1, h2, h3, h4, h5, h6, e⟩ | e
      · omega
      · omega
      · omega
      · exfalso; apply hc; omega
      · exact e
    simp only [e, if_true]

/-! ### Which texts are names -/
def plainR (c : Nat) : Bool := (97 ≤ c && c ≤ 122) || (48 ≤ c && c ≤ 57)
def farR (c : Nat) : Bool := 161 ≤ c && c ≤ 65535 && c != 173 && c != 65279
def markR (c : Nat) : Bool := c == 45 || c == 95 || c == 46
/-- The rune at p may stand there. -/
def signAt (s : ByteArray) (p : Nat) : Bool := (runeAt s p).2.2 && (plainR (runeAt s p).1 || farR (runeAt s p).1 || (markR (runeAt s p).1 && decide (0 < p)))
def goodFrom (s : ByteArray) : Nat → Nat → Bool
  | 0, _ => true
  | f + 1, p => if p < s.size then signAt s p && goodFrom s f (p + (Utf8.decode s p).2) else true
def good (s : ByteArray) (p : Nat) : Bool := goodFrom s (s.size - p) p
theorem goodFrom_end (s : ByteArray) (f p : Nat) (h : ¬ p < s.size) : goodFrom s f p = true := by cases f <;> simp [goodFrom, h]
theorem goodFrom_fuel (s : ByteArray) : ∀ f g p, s.size - p ≤ f → s.size - p ≤ g → goodFrom s f p = goodFrom s g p
  | 0, g, p, hf, _ => by rw [goodFrom_end s g p (by omega)]; rfl
  | f + 1, 0, p, _, hg => by rw [goodFrom_end s (f + 1) p (by omega)]; rfl
  | f + 1, g + 1, p, hf, hg => by
    unfold goodFrom
    by_cases h : p < s.size
    · have hw := decode_width_pos s p h
      rw [if_pos h, if_pos h, goodFrom_fuel s f g _ (by omega) (by omega)]
    · rw [if_neg h, if_neg h]
theorem good_end (s : ByteArray) (p : Nat) (h : ¬ p < s.size) : good s p = true := goodFrom_end s _ p h
theorem good_step (s : ByteArray) (p : Nat) (h : p < s.size) : good s p = (signAt s p && good s (p + (Utf8.decode s p).2)) := by
  unfold good
  obtain ⟨f, hf⟩ : ∃ f, s.size - p = f + 1 := ⟨s.size - p - 1, by omega⟩
  have hw := decode_width_pos s p h
  rw [hf, goodFrom, if_pos h, goodFrom_fuel s f (s.size - (p + (Utf8.decode s p).2)) _ (by omega) (by omega)]
/-- The text is a name. -/
def validS (s : ByteArray) : Bool := good s 0 && decide (0 < cntFrom s 0) && decide (cntFrom s 0 ≤ 40)

/-! ### A rune that was written is read -/
theorem app_list (a b : ByteArray) : (a ++ b).data.toList = a.data.toList ++ b.data.toList := by
  rw [ByteArray.data_append, Array.toList_append]
theorem app_size (a b : ByteArray) : (a ++ b).size = a.size + b.size := by
  rw [size_eq, app_list, List.length_append, ← size_eq, ← size_eq]
theorem app_front (a b : ByteArray) (j : Nat) (h : j < a.size) : (a ++ b).get! j = a.get! j := by
  rw [← getD_get!', ← getD_get!', app_list]
  simp [List.getD, List.getElem?_append, h]
theorem app_back (a b : ByteArray) (j : Nat) : (a ++ b).get! (a.size + j) = b.get! j := by
  rw [← getD_get!', ← getD_get!', app_list]
  have h : ¬ a.size + j < a.size := by omega
  simp [List.getD, List.getElem?_append, h]
theorem app_decode (a b : ByteArray) (p : Nat) : Utf8.decode (a ++ b) (a.size + p) = Utf8.decode b p := by
  rw [decode_at, decode_at, app_size, app_back, Nat.add_assoc, app_back, Nat.add_assoc, app_back, Nat.add_assoc, app_back]
  congr 1
  omega

theorem ofNat_byte (n : Nat) (h : n < 256) : (UInt8.ofNat n).toNat = n := by
  simp; omega

set_option maxHeartbeats 1000000 in
theorem enc_dec (c : Nat) (hv : Utf8.valid (c : Int) = true) (t : ByteArray) : Utf8.decode (Utf8.encode (c : Int) ++ t) 0 = (c, (Utf8.encode (c : Int)).size) := by
  have hc : c < 55296 ∨ (57344 ≤ c ∧ c ≤ 1114111) := by
    simp only [Utf8.valid, Bool.or_eq_true, Bool.and_eq_true, decide_eq_true_eq] at hv
    omega
  have he : Utf8.encode (c : Int) = (if c < 0x80 then ⟨#[UInt8.ofNat c]⟩
      else if c < 0x800 then ⟨#[UInt8.ofNat (0xC0 + c / 64), UInt8.ofNat (0x80 + c % 64)]⟩
      else if c < 0x10000 then ⟨#[UInt8.ofNat (0xE0 + c / 4096), UInt8.ofNat (0x80 + c / 64 % 64), UInt8.ofNat (0x80 + c % 64)]⟩
      else ⟨#[UInt8.ofNat (0xF0 + c / 262144), UInt8.ofNat (0x80 + c / 4096 % 64), UInt8.ofNat (0x80 + c / 64 % 64), UInt8.ofNat (0x80 + c % 64)]⟩) := by
    simp only [Utf8.encode, hv, if_true, Int.toNat_natCast]
  have g : ∀ (l : List UInt8) (j : Nat) (h : j < l.length), ((⟨l.toArray⟩ : ByteArray) ++ t).get! j = l[j] := fun l j h => by
    rw [← getD_get!', app_list]
    simp [List.getD, List.getElem?_append, h]
  rw [decode_at, app_size]
  by_cases h1 : c < 0x80
  · rw [if_pos h1] at he
    rw [he]
    have g0 := g [UInt8.ofNat c] 0 (by simp)
    simp only [List.getElem_cons_zero] at g0
    rw [g0, ofNat_byte _ (by omega), decodeN, if_pos h1]
    rfl
  · by_cases h2 : c < 0x800
    · rw [if_neg h1, if_pos h2] at he
      rw [he]
      have g0 := g [UInt8.ofNat (0xC0 + c / 64), UInt8.ofNat (0x80 + c % 64)] 0 (by simp)
      have g1 := g [UInt8.ofNat (0xC0 + c / 64), UInt8.ofNat (0x80 + c % 64)] 1 (by simp)
      simp only [List.getElem_cons_zero, List.getElem_cons_succ] at g0 g1
      rw [g0, g1, ofNat_byte _ (by omega), ofNat_byte _ (by omega), show (⟨#[UInt8.ofNat (0xC0 + c / 64), UInt8.ofNat (0x80 + c % 64)]⟩ : ByteArray).size = 2 from rfl]
      rw [decodeN, if_neg (by omega), if_pos ⟨by omega, by omega, by omega⟩, if_pos (by omega)]
      exact Prod.ext (by simp only; omega) rfl
    · by_cases h3 : c < 0x10000
      · rw [if_neg h1, if_neg h2, if_pos h3] at he
        rw [he]
        have g0 := g [UInt8.ofNat (0xE0 + c / 4096), UInt8.ofNat (0x80 + c / 64 % 64), UInt8.ofNat (0x80 + c % 64)] 0 (by simp)
        have g1 := g [UInt8.ofNat (0xE0 + c / 4096), UInt8.ofNat (0x80 + c / 64 % 64), UInt8.ofNat (0x80 + c % 64)] 1 (by simp)
        have g2 := g [UInt8.ofNat (0xE0 + c / 4096), UInt8.ofNat (0x80 + c / 64 % 64), UInt8.ofNat (0x80 + c % 64)] 2 (by simp)
        simp only [List.getElem_cons_zero, List.getElem_cons_succ] at g0 g1 g2
        rw [g0, g1, g2, ofNat_byte _ (by omega), ofNat_byte _ (by omega), ofNat_byte _ (by omega), show (⟨#[UInt8.ofNat (0xE0 + c / 4096), UInt8.ofNat (0x80 + c / 64 % 64), UInt8.ofNat (0x80 + c % 64)]⟩ : ByteArray).size = 3 from rfl]
        rw [decodeN, if_neg (by omega), if_neg (by omega), if_pos ⟨by omega, ⟨by omega, by omega⟩, by omega, by omega⟩, if_pos ⟨by omega, by omega⟩]
        exact Prod.ext (by simp only; omega) rfl
      · rw [if_neg h1, if_neg h2, if_neg h3] at he
        rw [he]
        have g0 := g [UInt8.ofNat (0xF0 + c / 262144), UInt8.ofNat (0x80 + c / 4096 % 64), UInt8.ofNat (0x80 + c / 64 % 64), UInt8.ofNat (0x80 + c % 64)] 0 (by simp)
        have g1 := g [UInt8.ofNat (0xF0 + c / 262144), UInt8.ofNat (0x80 + c / 4096 % 64), UInt8.ofNat (0x80 + c / 64 % 64), UInt8.ofNat (0x80 + c % 64)] 1 (by simp)
        have g2 := g [UInt8.ofNat (0xF0 + c / 262144), UInt8.ofNat (0x80 + c / 4096 % 64), UInt8.ofNat (0x80 + c / 64 % 64), UInt8.ofNat (0x80 + c % 64)] 2 (by simp)
        have g3 := g [UInt8.ofNat (0xF0 + c / 262144), UInt8.ofNat (0x80 + c / 4096 % 64), UInt8.ofNat (0x80 + c / 64 % 64), UInt8.ofNat (0x80 + c % 64)] 3 (by simp)
        simp only [List.getElem_cons_zero, List.getElem_cons_succ] at g0 g1 g2 g3
        rw [g0, g1, g2, g3, ofNat_byte _ (by omega), ofNat_byte _ (by omega), ofNat_byte _ (by omega), ofNat_byte _ (by omega), show (⟨#[UInt8.ofNat (0xF0 + c / 262144), UInt8.ofNat (0x80 + c / 4096 % 64), UInt8.ofNat (0x80 + c / 64 % 64), UInt8.ofNat (0x80 + c % 64)]⟩ : ByteArray).size = 4 from rfl]
        rw [decodeN, if_neg (by omega), if_neg (by omega), if_neg (by omega), if_pos ⟨by omega, ⟨by omega, by omega⟩, ⟨by omega, by omega⟩, by omega, by omega⟩, if_pos ⟨by omega, by omega⟩]
        exact Prod.ext (by simp only; omega) rfl

/-! ### Many alike, one behind the other -/
def repB (u : ByteArray) : Nat → ByteArray
  | 0 => ⟨#[]⟩
  | n + 1 => repB u n ++ u
theorem repB_size (u : ByteArray) : ∀ n, (repB u n).size = n * u.size
  | 0 => by rw [Nat.zero_mul]; rfl
  | n + 1 => by rw [repB, app_size, repB_size u n, Nat.succ_mul]
theorem bytes_ext {a b : ByteArray} (h : a.data.toList = b.data.toList) : a = b := by
  cases a; cases b
  simp only [ByteArray.mk.injEq]
  exact Array.toList_inj.1 h
theorem app_assoc (a b c : ByteArray) : a ++ b ++ c = a ++ (b ++ c) := bytes_ext (by rw [app_list, app_list, app_list, app_list, List.append_assoc])
theorem app_none (a : ByteArray) : a ++ ⟨#[]⟩ = a := bytes_ext (by rw [app_list]; simp)
theorem none_app (a : ByteArray) : (⟨#[]⟩ : ByteArray) ++ a = a := bytes_ext (by rw [app_list]; simp)
theorem repB_split (u : ByteArray) (k : Nat) : ∀ m, repB u (k + m) = repB u k ++ repB u m
  | 0 => by rw [repB, app_none]; rfl
  | m + 1 => by rw [← Nat.add_assoc, repB, repB_split u k m, app_assoc]; rfl
theorem repB_cons (u : ByteArray) (m : Nat) : repB u (m + 1) = u ++ repB u m := by
  rw [Nat.add_comm, repB_split u 1 m]
  show (⟨#[]⟩ ++ u) ++ _ = _
  rw [none_app]
/-- Right runes, all alike: each is read. -/
theorem rep_decode (c : Nat) (hv : Utf8.valid (c : Int) = true) (n k : Nat) (hk : k < n) : Utf8.decode (repB (Utf8.encode c) n) (k * (Utf8.encode c).size) = (c, (Utf8.encode c).size) := by
  obtain ⟨m, rfl⟩ : ∃ m, n = k + (m + 1) := ⟨n - k - 1, by omega⟩
  have := app_decode (repB (Utf8.encode c) k) (repB (Utf8.encode c) (m + 1)) 0
  rw [repB_split, ← repB_size, ← Nat.add_zero (repB (Utf8.encode c) k).size, this, repB_cons]
  exact enc_dec c hv _
theorem enc_pos (c : Nat) (hv : Utf8.valid (c : Int) = true) : 0 < (Utf8.encode (c : Int)).size := by
  have h2 : 1 ≤ (Utf8.decode (Utf8.encode (c : Int) ++ ⟨#[]⟩) 0).2 := by
    rw [decode_at]
    exact decodeN_ge1 _ _ _ _ _
  rw [enc_dec c hv] at h2
  generalize (Utf8.encode (c : Int)).size = z at h2 ⊢
  exact h2
theorem rep_cnt (c : Nat) (hv : Utf8.valid (c : Int) = true) (n : Nat) : ∀ m k, k + m = n → cntFrom (repB (Utf8.encode c) n) (k * (Utf8.encode c).size) = m
  | 0, k, h => by
    obtain rfl : k = n := by omega
    exact cnt_end _ _ (by rw [repB_size]; omega)
  | m + 1, k, h => by
    have hp := enc_pos c hv
    have hlt : k * (Utf8.encode (c : Int)).size < n * (Utf8.encode (c : Int)).size := Nat.mul_lt_mul_of_pos_right (by omega) hp
    rw [cnt_step _ _ (by rw [repB_size]; exact hlt), rep_decode c hv n k (by omega)]
    have := rep_cnt c hv n m (k + 1) (by omega)
    rw [Nat.succ_mul] at this
    rw [this]; omega
theorem rep_good (c : Nat) (hv : Utf8.valid (c : Int) = true) (hf : plainR c = true ∨ farR c = true) (n : Nat) : ∀ m k, k + m = n → good (repB (Utf8.encode c) n) (k * (Utf8.encode c).size) = true
  | 0, k, h => by
    obtain rfl : k = n := by omega
    exact good_end _ _ (by rw [repB_size]; omega)
  | m + 1, k, h => by
    have hp := enc_pos c hv
    have hlt : k * (Utf8.encode (c : Int)).size < n * (Utf8.encode (c : Int)).size := Nat.mul_lt_mul_of_pos_right (by omega) hp
    have hd := rep_decode c hv n k (by omega)
    rw [good_step _ _ (by rw [repB_size]; exact hlt), hd]
    have := rep_good c hv hf n m (k + 1) (by omega)
    rw [Nat.succ_mul] at this
    rw [this, Bool.and_true]
    have hne : ¬ ((c, (Utf8.encode (c : Int)).size) = (65533, 1)) := by
      intro e
      injection e with e1 e2
      subst e1
      revert e2
      decide
    unfold signAt runeAt
    rw [hd, if_neg hne]
    rcases hf with h | h <;> simp [h]
/-- Names of n runes alike. -/
theorem rep_valid (c : Nat) (hv : Utf8.valid (c : Int) = true) (hf : plainR c = true ∨ farR c = true) (n : Nat) : validS (repB (Utf8.encode c) n) = (decide (0 < n) && decide (n ≤ 40)) := by
  have h1 := rep_cnt c hv n n 0 (by omega)
  have h2 := rep_good c hv hf n n 0 (by omega)
  rw [Nat.zero_mul] at h1 h2
  unfold validS
  rw [h1, h2]
  rfl

/-- One rune: as a text, behind an 'a', ahead of other bytes. -/
theorem one_cnt (c : Nat) (hv : Utf8.valid (c : Int) = true) : cntFrom (Utf8.encode c) 0 = 1 := by
  have h := enc_dec c hv ⟨#[]⟩
  rw [app_none] at h
  rw [cnt_step _ 0 (enc_pos c hv), h, cnt_end _ _ (by simp)]
theorem one_upTo (c : Nat) (hv : Utf8.valid (c : Int) = true) (t : ByteArray) : upTo (Utf8.encode c ++ t) 1 0 = (Utf8.encode (c : Int)).size := by
  have h := enc_dec c hv t
  have hp := enc_pos c hv
  rw [upTo_step _ 0 0 (by rw [app_size]; omega), h, upTo, Nat.zero_add]
theorem not_bad (c : Nat) (hv : Utf8.valid (c : Int) = true) : ¬ ((c, (Utf8.encode (c : Int)).size) = (65533, 1)) := by
  intro e
  injection e with e1 e2
  subst e1
  revert e2
  decide
theorem one_valid (c : Nat) (hv : Utf8.valid (c : Int) = true) : validS (Utf8.encode c) = (plainR c || farR c) := by
  have h := enc_dec c hv ⟨#[]⟩
  rw [app_none] at h
  have hg : good (Utf8.encode c) 0 = (plainR c || farR c) := by
    rw [good_step _ 0 (enc_pos c hv), h, good_end _ _ (by simp)]
    unfold signAt runeAt
    rw [h, if_neg (not_bad c hv)]
    simp
  unfold validS
  rw [hg, one_cnt c hv]
  simp
theorem a_valid (c : Nat) (hv : Utf8.valid (c : Int) = true) (a : ByteArray) (ha : a = ⟨#[97]⟩) : validS (a ++ Utf8.encode c) = (plainR c || farR c || markR c) := by
  have h := enc_dec c hv ⟨#[]⟩
  rw [app_none] at h
  have hp := enc_pos c hv
  have hs : a.size = 1 := by rw [ha]; rfl
  have h97 : (a ++ Utf8.encode c).get! 0 = 97 := by
    rw [app_front _ _ _ (by omega), ha]; rfl
  have h0 : Utf8.decode (a ++ Utf8.encode c) 0 = (97, 1) := by
    rw [decode_at, h97, decodeN, if_pos (by decide)]; rfl
  have h1 : Utf8.decode (a ++ Utf8.encode c) 1 = (c, (Utf8.encode (c : Int)).size) := by
    have := app_decode a (Utf8.encode c) 0
    rw [hs] at this
    rw [this, h]
  have hz : (a ++ Utf8.encode (c : Int)).size = 1 + (Utf8.encode (c : Int)).size := by rw [app_size, hs]
  have hc : cntFrom (a ++ Utf8.encode c) 0 = 2 := by
    rw [cnt_step _ 0 (by omega), h0]
    simp only [Nat.zero_add]
    rw [cnt_step _ 1 (by omega), h1, cnt_end _ _ (by simp only; omega)]
  have hg : good (a ++ Utf8.encode c) 0 = (plainR c || farR c || markR c) := by
    rw [good_step _ 0 (by omega), h0]
    simp only [Nat.zero_add]
    rw [good_step _ 1 (by omega), h1, good_end _ _ (by simp only; omega)]
    unfold signAt runeAt
    rw [h0, h1, if_neg (by decide), if_neg (not_bad c hv)]
    simp [plainR]
  unfold validS
  rw [hg, hc]
  simp
end Go.Proofs.Ytjblhfhfappmoaa
