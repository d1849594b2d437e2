/- The sum of bytes as plain numbers: bit by bit, four bits at a time, that it is linear, that no step forgets anything. No word of the program. -/
import Derived.Laws.BitsAllLaws
import Derived.IntWalk
namespace Go.Proofs.YtaoflfdpagpgaaaDoor

/-- One bit driven out. -/
def bitN (c : Nat) : Nat := if c % 2 = 1 then c / 2 ^^^ 3988292384 else c / 2
def itN : Nat → Nat → Nat
  | 0, c => c
  | n + 1, c => itN n (bitN c)

theorem xor_half (a b : Nat) : (a ^^^ b) / 2 = a / 2 ^^^ b / 2 := by
  have := Nat.shiftRight_xor_distrib (a := a) (b := b) (i := 1)
  simpa [Nat.shiftRight_eq_div_pow] using this
theorem xor_odd (a b : Nat) : (a ^^^ b) % 2 = (a % 2) ^^^ (b % 2) := by
  have := Nat.xor_mod_two_pow (a := a) (b := b) (n := 1)
  simpa using this
theorem bitN_xor (a b : Nat) : bitN (a ^^^ b) = bitN a ^^^ bitN b := by
  unfold bitN
  rw [xor_half, xor_odd]
  rcases Nat.mod_two_eq_zero_or_one a with ha | ha <;> rcases Nat.mod_two_eq_zero_or_one b with hb | hb <;> rw [ha, hb]
  · simp
  · simp [Nat.xor_assoc]
  · simp only [Nat.xor_zero, if_true, Nat.zero_ne_one, if_false]
    rw [Nat.xor_assoc, Nat.xor_assoc, Nat.xor_comm (b / 2)]
  · simp only [Nat.xor_self, if_true, Nat.zero_ne_one, if_false]
    rw [Nat.xor_assoc, Nat.xor_comm (b / 2), ← Nat.xor_assoc 3988292384, Nat.xor_self, Nat.zero_xor]
theorem itN_xor (n : Nat) : ∀ a b, itN n (a ^^^ b) = itN n a ^^^ itN n b := by
  induction n with
  | zero => intro a b; rfl
  | succ n ih => intro a b; rw [itN, bitN_xor, ih]; rfl
theorem itN_add (n m c : Nat) : itN (n + m) c = itN m (itN n c) := by
  induction n generalizing c with
  | zero => simp [itN]
  | succ n ih => rw [Nat.succ_add, itN, ih]; rfl
theorem itN_succ (n c : Nat) : itN (n + 1) c = bitN (itN n c) := by
  rw [itN_add n 1]; rfl
theorem xor_lt {a b : Nat} (ha : a < 4294967296) (hb : b < 4294967296) : a ^^^ b < 4294967296 :=
  Nat.xor_lt_two_pow (n := 32) ha hb
theorem bitN_lt {c : Nat} (h : c < 4294967296) : bitN c < 4294967296 := by
  unfold bitN
  split
  · exact xor_lt (by omega) (by omega)
  · omega
theorem itN_lt (n : Nat) {c : Nat} (h : c < 4294967296) : itN n c < 4294967296 := by
  induction n generalizing c with
  | zero => exact h
  | succ n ih => exact ih (bitN_lt h)
theorem xor_eq_zero {a b : Nat} (h : a ^^^ b = 0) : a = b := by
  have : a ^^^ b ^^^ b = 0 ^^^ b := by rw [h]
  rw [Nat.xor_assoc, Nat.xor_self, Nat.xor_zero, Nat.zero_xor] at this
  exact this
theorem bitN_zero {c : Nat} (h : c < 4294967296) (h0 : bitN c = 0) : c = 0 := by
  unfold bitN at h0
  split at h0
  · have := xor_eq_zero h0; omega
  · omega
theorem itN_zero (n : Nat) {c : Nat} (h : c < 4294967296) (h0 : itN n c = 0) : c = 0 := by
  induction n generalizing c with
  | zero => exact h0
  | succ n ih => exact bitN_zero h (ih (bitN_lt h) h0)
theorem itN_inj (n : Nat) {a b : Nat} (ha : a < 4294967296) (hb : b < 4294967296) (h : itN n a = itN n b) : a = b := by
  apply xor_eq_zero
  apply itN_zero n (xor_lt ha hb)
  rw [itN_xor, h, Nat.xor_self]

/-- What four bits at the low end come to. -/
def halfL : List Nat := [0, 498536548, 997073096, 651767980, 1994146192, 1802195444, 1303535960, 1342533948, 3988292384, 4027552580, 3604390888, 3412177804, 2607071920, 2262029012, 2685067896, 3183342108]
def nibN (c : Nat) : Nat := halfL.getD (c % 16) 0 ^^^ c / 16
theorem bitN_double (m : Nat) : bitN (2 * m) = m := by
  unfold bitN
  rw [if_neg (by omega)]
  omega
theorem itN_16 (m : Nat) : itN 4 (16 * m) = m := by
  have e : 16 * m = 2 * (2 * (2 * (2 * m))) := by omega
  rw [e]
  simp only [itN, bitN_double]
theorem split16 (c : Nat) : (c % 16) ^^^ (16 * (c / 16)) = c := by
  apply Nat.eq_of_testBit_eq
  intro i
  have e1 : c % 16 = c % 2 ^ 4 := rfl
  have e2 : 16 * (c / 16) = 2 ^ 4 * (c / 2 ^ 4) := rfl
  rw [Nat.testBit_xor, e1, e2, Nat.testBit_mod_two_pow, Nat.testBit_two_pow_mul, Nat.testBit_div_two_pow]
  by_cases h : i < 4
  · have : ¬ 4 ≤ i := by omega
    simp [h, this]
  · have h2 : 4 ≤ i := by omega
    simp [h, h2]
theorem low16 : ∀ k : Fin 16, itN 4 k.val = halfL.getD k.val 0 := by decide
theorem nib_eq (c : Nat) : nibN c = itN 4 c := by
  have := itN_xor 4 (c % 16) (16 * (c / 16))
  rw [split16, itN_16, low16 ⟨c % 16, Nat.mod_lt _ (by decide)⟩] at this
  rw [this]; rfl
theorem nib_lt {c : Nat} (h : c < 4294967296) : nibN c < 4294967296 := by rw [nib_eq]; exact itN_lt 4 h

/-- One byte. -/
def byteN (r : Nat) (x : Int) : Nat := itN 8 (r ^^^ x.toNat)
theorem byte_nib (r : Nat) (x : Int) : nibN (nibN (r ^^^ x.toNat)) = byteN r x := by
  rw [nib_eq, nib_eq, ← itN_add]; rfl
def runN (r : Nat) (xs : List Int) : Nat := xs.foldl byteN r
/-- The sum that goes on behind the sum s. -/
def moreN (s : Nat) (xs : List Int) : Nat := 4294967295 - runN (4294967295 - s) xs

def Bytes (xs : List Int) : Prop := ∀ c ∈ xs, 0 ≤ c ∧ c ≤ 255
theorem byteN_lt {r : Nat} {x : Int} (h : r < 4294967296) (hx : x ≤ 255) : byteN r x < 4294967296 :=
  itN_lt 8 (xor_lt h (by omega))
theorem runN_lt {r : Nat} {xs : List Int} (h : r < 4294967296) (hx : Bytes xs) : runN r xs < 4294967296 := by
  induction xs generalizing r with
  | nil => exact h
  | cons x xs ih => exact ih (byteN_lt h (hx x (by simp)).2) fun c hc => hx c (by simp [hc])
theorem moreN_lt (s : Nat) (xs : List Int) : moreN s xs < 4294967296 := by unfold moreN; omega
theorem runN_append (r : Nat) (xs ys : List Int) : runN r (xs ++ ys) = runN (runN r xs) ys := by simp [runN]
theorem moreN_nil {s : Nat} (h : s < 4294967296) : moreN s [] = s := by simp [moreN, runN]; omega
theorem moreN_more {s : Nat} {xs ys : List Int} (hx : Bytes xs) : moreN (moreN s xs) ys = moreN s (xs ++ ys) := by
  have h : runN (4294967295 - s) xs < 4294967296 := runN_lt (by omega) hx
  unfold moreN
  rw [runN_append, show 4294967295 - (4294967295 - runN (4294967295 - s) xs) = runN (4294967295 - s) xs from by omega]
theorem byteN_inj {r r' : Nat} {x : Int} (h : r < 4294967296) (h' : r' < 4294967296) (hx : x ≤ 255) (e : byteN r x = byteN r' x) : r = r' := by
  have := itN_inj 8 (xor_lt h (by omega)) (xor_lt h' (by omega)) e
  have e2 : r ^^^ x.toNat ^^^ x.toNat = r' ^^^ x.toNat ^^^ x.toNat := by rw [this]
  rw [Nat.xor_assoc, Nat.xor_assoc, Nat.xor_self, Nat.xor_zero, Nat.xor_zero] at e2
  exact e2
theorem runN_inj {xs : List Int} (hx : Bytes xs) : ∀ {r r' : Nat}, r < 4294967296 → r' < 4294967296 → runN r xs = runN r' xs → r = r' := by
  induction xs with
  | nil => intro r r' _ _ e; exact e
  | cons x xs ih =>
    intro r r' h h' e
    have hb := (hx x (by simp)).2
    exact byteN_inj h h' hb (ih (fun c hc => hx c (by simp [hc])) (byteN_lt h hb) (byteN_lt h' hb) e)
theorem byteN_other {r : Nat} {x y : Int} (h : r < 4294967296) (hx : 0 ≤ x ∧ x ≤ 255) (hy : 0 ≤ y ∧ y ≤ 255) (e : byteN r x = byteN r y) : x = y := by
  have := itN_inj 8 (xor_lt h (by omega)) (xor_lt h (by omega)) e
  have e2 : r ^^^ (r ^^^ x.toNat) = r ^^^ (r ^^^ y.toNat) := by rw [this]
  rw [← Nat.xor_assoc, ← Nat.xor_assoc, Nat.xor_self, Nat.zero_xor, Nat.zero_xor] at e2
  omega

theorem moreN_inj {s : Nat} {xs ys : List Int} (hx : Bytes xs) (hy : Bytes ys) (e : moreN s xs = moreN s ys) : runN (4294967295 - s) xs = runN (4294967295 - s) ys := by
  have h1 : runN (4294967295 - s) xs < 4294967296 := runN_lt (by omega) hx
  have h2 : runN (4294967295 - s) ys < 4294967296 := runN_lt (by omega) hy
  unfold moreN at e
  omega

theorem bytes_set {xs : List Int} {k : Nat} {y : Int} (hx : Bytes xs) (hy : 0 ≤ y ∧ y ≤ 255) : Bytes (xs.set k y) := fun c hc => by
  rcases List.mem_or_eq_of_mem_set hc with h | h
  · exact hx c h
  · subst h; exact hy

/-- One byte that is turned is seen. -/
theorem turned (s : Nat) (xs : List Int) (hx : Bytes xs) (k : Nat) (hk : k < xs.length) (y : Int) (hy : 0 ≤ y ∧ y ≤ 255) (hne : y ≠ xs[k]) : moreN s (xs.set k y) ≠ moreN s xs := by
  intro e
  have e1 := moreN_inj (bytes_set hx hy) hx e
  rw [List.set_eq_take_append_cons_drop, if_pos hk] at e1
  conv at e1 => rhs; rw [← List.take_append_drop k xs, List.drop_eq_getElem_cons hk]
  rw [runN_append, runN_append] at e1
  have ht : Bytes (xs.take k) := fun c hc => hx c (List.mem_of_mem_take hc)
  have hd : Bytes (xs.drop (k + 1)) := fun c hc => hx c (List.mem_of_mem_drop hc)
  have hr : runN (4294967295 - s) (xs.take k) < 4294967296 := runN_lt (by omega) ht
  have hxk := hx xs[k] (List.getElem_mem hk)
  exact hne (byteN_other hr hy hxk (runN_inj hd (byteN_lt hr hy.2) (byteN_lt hr hxk.2) e1))

theorem no_fix : ∀ d : Fin 256, itN 8 d.val = d.val → d.val = 0 := by decide +kernel
theorem byteN_swap {r : Nat} {x y : Int} (h : r < 4294967296) (hx : 0 ≤ x ∧ x ≤ 255) (hy : 0 ≤ y ∧ y ≤ 255) (e : byteN (byteN r x) y = byteN (byteN r y) x) : x = y := by
  obtain ⟨a, rfl⟩ := Int.eq_ofNat_of_zero_le hx.1
  obtain ⟨b, rfl⟩ := Int.eq_ofNat_of_zero_le hy.1
  unfold byteN at e
  simp only [Int.toNat_natCast] at e
  have e1 := itN_inj 8 (xor_lt (itN_lt 8 (xor_lt h (by omega))) (by omega)) (xor_lt (itN_lt 8 (xor_lt h (by omega))) (by omega)) e
  rw [itN_xor, itN_xor] at e1
  have e2 : itN 8 (a ^^^ b) = a ^^^ b := by
    rw [itN_xor]
    apply xor_eq_zero
    have e3 : (itN 8 r ^^^ itN 8 a ^^^ b) ^^^ (itN 8 r ^^^ itN 8 b ^^^ a) = 0 := by rw [e1, Nat.xor_self]
    rw [← e3]
    apply Nat.eq_of_testBit_eq
    intro i
    simp only [Nat.testBit_xor]
    cases (itN 8 a).testBit i <;> cases (itN 8 b).testBit i <;> cases (itN 8 r).testBit i <;> cases a.testBit i <;> cases b.testBit i <;> rfl
  have hlt : a ^^^ b < 256 := Nat.xor_lt_two_pow (n := 8) (by omega) (by omega)
  have := xor_eq_zero (no_fix ⟨a ^^^ b, hlt⟩ e2)
  omega

/-- Two bytes that change places are seen just if they differ. -/
theorem swapped (s : Nat) (xs : List Int) (hx : Bytes xs) (k : Nat) (hk : k + 1 < xs.length) :
    moreN s ((xs.set k xs[k + 1]).set (k + 1) xs[k]) = moreN s xs ↔ xs[k] = xs[k + 1] := by
  have hxa := hx xs[k] (List.getElem_mem (by omega))
  have hxb := hx xs[k + 1] (List.getElem_mem hk)
  constructor
  · intro e
    have e1 := moreN_inj (bytes_set (bytes_set hx hxb) hxa) hx e
    have hs : (xs.set k xs[k + 1]).set (k + 1) xs[k] = xs.take k ++ xs[k + 1] :: xs[k] :: xs.drop (k + 2) := by
      apply List.ext_getElem
      · simp; omega
      · intro i h1 h2
        simp only [List.getElem_set, List.getElem_append, List.length_take, List.getElem_take, List.getElem_cons, List.getElem_drop]
        have hm : min k xs.length = k := by omega
        simp only [hm]
        repeat' split
        all_goals (first | rfl | omega | (congr 1; omega))
    rw [hs] at e1
    conv at e1 => rhs; rw [← List.take_append_drop k xs, List.drop_eq_getElem_cons (show k < xs.length by omega), List.drop_eq_getElem_cons hk]
    rw [runN_append, runN_append] at e1
    have ht : Bytes (xs.take k) := fun c hc => hx c (List.mem_of_mem_take hc)
    have hd : Bytes (xs.drop (k + 2)) := fun c hc => hx c (List.mem_of_mem_drop hc)
    have hr : runN (4294967295 - s) (xs.take k) < 4294967296 := runN_lt (by omega) ht
    have e2 := runN_inj hd (byteN_lt (byteN_lt hr hxb.2) hxa.2) (byteN_lt (byteN_lt hr hxa.2) hxb.2) e1
    exact (byteN_swap hr hxb hxa e2).symm
  · intro e
    congr 1
    apply List.ext_getElem
    · simp
    · intro i h1 h2
      simp only [List.getElem_set]
      split
      · subst i; exact e
      · split
        · subst i; exact e.symm
        · rfl

/-- In the walk's own words. -/
theorem u32_not (s : Nat) (h : s < 4294967296) : bits .xor .u32 IntKind.u32.max (s : Int) = ((4294967295 - s : Nat) : Int) := by
  have e : IntKind.u32.max = ((4294967295 : Nat) : Int) := by decide
  rw [e, u32_xor_nat _ _ (by decide) (by omega)]
  congr 1
  apply Nat.eq_of_testBit_eq
  intro i
  have e2 : 4294967295 - s = 2 ^ 32 - (s + 1) := by omega
  rw [e2, Nat.testBit_two_pow_sub_succ (by omega), Nat.testBit_xor, show (4294967295 : Nat) = 2 ^ 32 - 1 from rfl, Nat.testBit_two_pow_sub_one]
  by_cases hi : i < 32
  · simp [hi]
  · have : s.testBit i = false := Nat.testBit_lt_two_pow (Nat.lt_of_lt_of_le (show s < 2 ^ 32 by omega) (Nat.pow_le_pow_right (by decide) (by omega)))
    simp [hi, this]

theorem i64_and7 (y : Int) : bits .and .i64 y 7 = y % 8 := by
  have h7 : (BitVec.ofInt 64 7).toNat = 7 := by decide
  show IntKind.i64.wrap ((BitVec.ofInt 64 y &&& BitVec.ofInt 64 7).toNat : Int) = _
  rw [BitVec.toNat_and, h7, show (7 : Nat) = 2 ^ 3 - 1 from rfl, Nat.and_two_pow_sub_one_eq_mod, BitVec.toNat_ofInt]
  rw [IntWalk.i64_in _ (by omega)]
  omega
/-- A byte one of whose bits is turned, in the walk's own words: another byte. -/
theorem turn_bit (q : Int) (hq : 0 ≤ q ∧ q ≤ 255) (m : Nat) (hm : m ≤ 7) :
    ∃ y : Int, bits .xor .u8 q (IntKind.u8.wrap (2 ^ min (IntKind.u64.wrap (m : Int)).toNat 8)) = y ∧ (0 ≤ y ∧ y ≤ 255) ∧ y ≠ q := by
  have e1 : IntKind.u64.wrap (m : Int) = (m : Int) := IntWalk.u64_in _ (by omega)
  have e2 : min (m : Int).toNat 8 = m := by omega
  rw [e1, e2]
  have hp : (2 : Int) ^ m = ((2 ^ m : Nat) : Int) := by rw [Int.natCast_pow]; rfl
  have hlt : 2 ^ m ≤ 2 ^ 7 := Nat.pow_le_pow_right (by decide) hm
  have hpos : 0 < 2 ^ m := Nat.pow_pos (by decide)
  obtain ⟨a, rfl⟩ := Int.eq_ofNat_of_zero_le hq.1
  rw [hp, IntWalk.u8_in _ (by omega), u8_xor_nat _ _ (by omega) (by omega)]
  refine ⟨_, rfl, ⟨by omega, ?_⟩, ?_⟩
  · have : a ^^^ 2 ^ m < 2 ^ 8 := Nat.xor_lt_two_pow (by omega) (by omega)
    omega
  · intro e
    have e3 : a ^^^ 2 ^ m = a := by omega
    have e4 : a ^^^ (a ^^^ 2 ^ m) = a ^^^ a := by rw [e3]
    rw [← Nat.xor_assoc, Nat.xor_self, Nat.zero_xor] at e4
    omega
end Go.Proofs.YtaoflfdpagpgaaaDoor
