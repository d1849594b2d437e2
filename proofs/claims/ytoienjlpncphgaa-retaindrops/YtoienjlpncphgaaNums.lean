/- Plain mathematics of numbers written by seven bits a byte: how a number is written, how it is read, that it comes back. No program is spoken of here. · More mathematics of numbers written by seven bits a byte: a front is short; bytes that are read as a number begin with its own. No program is spoken of here. · The sum of bytes as plain numbers: bit by bit, four bits at a time, that it is linear, that no step forgets anything. No word of the program. · Plain mathematics of frames: how a piece is framed, how frames are read one by one, that they come back, that a torn or turned one does not. No program is spoken of here. · Plain mathematics of ints turned into numbers without a sign, and back. · Plain mathematics of records: how one is written, how it is read, that it comes back, that a front of it is short, that no other bytes are it. No program is spoken of here. · More mathematics of records: a front of one is short; bytes that are read as one are its own. No program is spoken of here. · Plain mathematics of segments: the bytes of records, which records bytes begin with, that what was written is read, torn or whole; which records stand from an offset on. No program is spoken of here. · Plain mathematics of marks: which there are, which place they tell, and that with them the first record is found as it is without. No program is spoken of here. -/
import Derived.Laws.BitsAllLaws
import Derived.Laws.BitsLemmas
import Derived.Laws.Bits128
import Derived.IntWalk
import Derived.Test.YtoienjlpncphgaaBase
namespace Go.Proofs.Ytoienjlpncphgaa

/-- x by seven bits a byte, the low ones first; f: how many bytes may still follow the first. -/
def putF : Nat → Int → List Int
  | 0, x => [x]
  | f + 1, x => if x < 128 then [x] else (x % 128 + 128) :: putF f (x / 128)
def putL (x : Int) : List Int := putF 9 x

theorem putF_small (f : Nat) (x : Int) (h : x < 128) : putF f x = [x] := by
  cases f with
  | zero => rfl
  | succ f => simp [putF, h]
theorem putF_big (f : Nat) (x : Int) (h : 128 ≤ x) : putF (f + 1) x = (x % 128 + 128) :: putF f (x / 128) := by
  have h' : ¬ x < 128 := by omega
  simp [putF, h']
theorem putF_length (f : Nat) (x : Int) : 1 ≤ (putF f x).length ∧ (putF f x).length ≤ f + 1 := by
  induction f generalizing x with
  | zero => simp [putF]
  | succ f ih =>
    by_cases h : x < 128
    · rw [putF_small _ _ h]; simp
    · rw [putF_big _ _ (by omega)]
      have := ih (x / 128)
      simp only [List.length_cons]
      omega
theorem putL_length (x : Int) : 1 ≤ (putL x).length ∧ (putL x).length ≤ 10 := putF_length 9 x

/-- The number that bytes begin with, read from the i-th byte on, acc gathered so far: the number, how many bytes, the error. -/
def getF : Nat → Int → List Int → Int × Int × Int
  | _, _, [] => (0, 0, 4)
  | i, acc, c :: t =>
    if i = 9 ∧ 1 < c then (0, 0, 3)
    else if 128 ≤ c then getF (i + 1) (acc + c % 128 * 128 ^ i) t
    else if c = 0 ∧ 0 < i then (0, 0, 2)
    else (acc + c % 128 * 128 ^ i, (i : Int) + 1, 0)
def getR (bs : List Int) : Int × Int × Int := getF 0 0 bs

theorem pow_pos128 (i : Nat) : (0 : Int) < 128 ^ i := Int.pow_pos (by decide)

/-- What was written is read, whatever stands behind. -/
theorem getF_putF (f : Nat) : ∀ (i : Nat) (acc y : Int) (more : List Int), i + f = 9 → 0 ≤ y → y < 2 * 128 ^ f → (0 < i → 0 < y) →
    getF i acc (putF f y ++ more) = (acc + y * 128 ^ i, (i : Int) + (putF f y).length, 0) := by
  induction f with
  | zero =>
    intro i acc y more hi h0 h1 hp
    obtain rfl : i = 9 := by omega
    have h1' : y < 2 := by simpa using h1
    have hy : 0 < y := hp (by omega)
    obtain rfl : y = 1 := by omega
    simp [putF, getF]
  | succ f ih =>
    intro i acc y more hi h0 h1 hp
    by_cases hs : y < 128
    · rw [putF_small _ _ hs]
      have hi9 : ¬ i = 9 := by omega
      have hc : ¬ 128 ≤ y := by omega
      have hz : ¬ (y = 0 ∧ 0 < i) := by omega
      have hm : y % 128 = y := by omega
      simp [getF, hi9, hc, hz, hm]
    · rw [putF_big _ _ (by omega)]
      have hi9 : ¬ i = 9 := by omega
      have hc : (128 : Int) ≤ y % 128 + 128 := by omega
      have hm : (y % 128 + 128) % 128 = y % 128 := by omega
      have hlt : y / 128 < 2 * 128 ^ f := by
        rw [Int.pow_succ] at h1
        omega
      rw [List.cons_append, getF, if_neg (by simp [hi9]), if_pos hc, hm, ih (i + 1) _ (y / 128) more (by omega) (by omega) hlt (by omega)]
      have he : acc + y % 128 * 128 ^ i + y / 128 * 128 ^ (i + 1) = acc + y * 128 ^ i := by
        have hy : y = 128 * (y / 128) + y % 128 := by omega
        generalize y / 128 = q at hy ⊢
        generalize y % 128 = r at hy ⊢
        subst hy
        rw [Int.pow_succ, Int.add_mul, Int.mul_comm (128 ^ i) 128, ← Int.mul_assoc, Int.mul_comm q 128]
        omega
      rw [he]
      simp only [List.length_cons, Prod.mk.injEq, true_and, and_true]
      omega

theorem getR_putL (x : Int) (more : List Int) (h0 : 0 ≤ x) (h1 : x ≤ 18446744073709551615) : getR (putL x ++ more) = (x, ((putL x).length : Int), 0) := by
  have := getF_putF 9 0 0 x more rfl h0 (by have e : (2 : Int) * 128 ^ 9 = 18446744073709551616 := by decide
                                            rw [e]; omega) (by omega)
  simpa [getR, putL] using this

/-- No byte less is it. -/
theorem getF_short (f : Nat) : ∀ (i : Nat) (acc y : Int), i + f = 9 → 0 ≤ y → getF i acc ((putF f y).take ((putF f y).length - 1)) = (0, 0, 4) := by
  induction f with
  | zero => intro i acc y _ _; simp [putF, getF]
  | succ f ih =>
    intro i acc y hi h0
    by_cases hs : y < 128
    · rw [putF_small _ _ hs]; simp [getF]
    · rw [putF_big _ _ (by omega)]
      have hi9 : ¬ i = 9 := by omega
      have hc : (128 : Int) ≤ y % 128 + 128 := by omega
      have hl := (putF_length f (y / 128)).1
      have e : ((y % 128 + 128) :: putF f (y / 128)).take (((y % 128 + 128) :: putF f (y / 128)).length - 1) = (y % 128 + 128) :: (putF f (y / 128)).take ((putF f (y / 128)).length - 1) := by
        have : ((y % 128 + 128) :: putF f (y / 128)).length - 1 = ((putF f (y / 128)).length - 1) + 1 := by simp only [List.length_cons]; omega
        rw [this, List.take_succ_cons]
      rw [e, getF, if_neg (by simp [hi9]), if_pos hc]
      exact ih (i + 1) _ (y / 128) (by omega) (by omega)

theorem getR_short (x : Int) (h0 : 0 ≤ x) : getR ((putL x).take ((putL x).length - 1)) = (0, 0, 4) := getF_short 9 0 0 x rfl h0

/-- Every byte is one. -/
theorem putF_range (f : Nat) : ∀ y : Int, 0 ≤ y → y < 2 * 128 ^ f → ∀ c ∈ putF f y, 0 ≤ c ∧ c ≤ 255 := by
  induction f with
  | zero => intro y h0 h1 c hc; simp [putF] at hc; simp at h1; omega
  | succ f ih =>
    intro y h0 h1 c hc
    by_cases hs : y < 128
    · rw [putF_small _ _ hs] at hc; simp at hc; omega
    · rw [putF_big _ _ (by omega)] at hc
      rcases List.mem_cons.1 hc with rfl | hc
      · omega
      · exact ih (y / 128) (by omega) (by rw [Int.pow_succ] at h1; omega) c hc
theorem putL_range (x : Int) (h0 : 0 ≤ x) (h1 : x ≤ 18446744073709551615) : ∀ c ∈ putL x, 0 ≤ c ∧ c ≤ 255 :=
  putF_range 9 x h0 (by have e : (2 : Int) * 128 ^ 9 = 18446744073709551616 := by decide
                        rw [e]; omega)
/-- How far the writing of a number has come: pre is written, y is left, zs is the whole. -/
def PutAt (zs pre : List Int) (y : Int) : Prop := ∃ f, f ≤ 9 ∧ y < 2 * 128 ^ f ∧ pre ++ putF f y = zs
theorem PutAt.start (xs : List Int) (x : Int) (h1 : x ≤ 18446744073709551615) : PutAt (xs ++ putL x) xs x :=
  ⟨9, Nat.le_refl _, by have e : (2 : Int) * 128 ^ 9 = 18446744073709551616 := by decide
                        rw [e]; omega, rfl⟩
theorem PutAt.step {zs pre : List Int} {y : Int} (h : PutAt zs pre y) (hy : 128 ≤ y) : PutAt zs (pre ++ [y % 128 + 128]) (y / 128) := by
  obtain ⟨f, hf, hlt, he⟩ := h
  cases f with
  | zero => simp at hlt; omega
  | succ f =>
    refine ⟨f, by omega, by rw [Int.pow_succ] at hlt; omega, ?_⟩
    rw [putF_big _ _ hy] at he
    rw [← he]; simp
theorem PutAt.done {zs pre : List Int} {y : Int} (h : PutAt zs pre y) (hy : y < 128) : pre ++ [y] = zs := by
  obtain ⟨f, _, _, he⟩ := h
  rwa [putF_small _ _ hy] at he
theorem PutAt.len {zs pre : List Int} {y : Int} (h : PutAt zs pre y) : pre.length + 1 ≤ zs.length := by
  obtain ⟨f, _, _, he⟩ := h
  rw [← he, List.length_append]
  have := (putF_length f y).1
  omega
theorem u64_and127 (y : Int) (h0 : 0 ≤ y) (h1 : y ≤ 18446744073709551615) : bits .and .u64 y 127 = y % 128 :=
  bits_mask .u64 64 (by decide) (fun n h h' => by rw [IntKind.wrap_u64]; exact Int.emod_eq_of_lt h (by simpa using h')) 7 (by decide) y h0 (by rw [show (2 : Int) ^ 64 = 18446744073709551616 from by decide]; omega)
theorem u8_and127 (y : Int) (h0 : 0 ≤ y) (h1 : y ≤ 255) : bits .and .u8 y 127 = y % 128 :=
  bits_mask .u8 8 (by decide) (fun n h h' => by rw [IntKind.wrap_u8]; exact Int.emod_eq_of_lt h (by simpa using h')) 7 (by decide) y h0 (by rw [show (2 : Int) ^ 8 = 256 from by decide]; omega)
theorem pow7 (k : Nat) : (2 : Int) ^ (7 * k) = 128 ^ k := by rw [Int.pow_mul]; rfl
theorem pow128_mono {a b : Nat} (h : a ≤ b) : (128 : Int) ^ a ≤ 128 ^ b := by
  have := Nat.pow_le_pow_right (show 0 < 128 by decide) h
  have h2 : ((128 ^ a : Nat) : Int) ≤ ((128 ^ b : Nat) : Int) := by omega
  rwa [Int.natCast_pow, Int.natCast_pow] at h2
theorem pow128_le (k : Nat) (h : k ≤ 9) : (128 : Int) ^ k ≤ 9223372036854775808 := by
  have := pow128_mono h
  rw [show (128 : Int) ^ 9 = 9223372036854775808 from by decide] at this
  exact this
/-- The next seven bits, laid over those that are there. -/
theorem or_join (k : Nat) (hk : k ≤ 9) (acc t : Int) (h0 : 0 ≤ acc) (h1 : acc < 128 ^ k) (t0 : 0 ≤ t) (t1 : t * 128 ^ k ≤ 18446744073709551615) :
    bits .or .u64 acc (IntKind.u64.wrap (t * 2 ^ (7 * k))) = acc + t * 128 ^ k := by
  have hp := pow128_le k hk
  have hM0 : 0 ≤ t * 128 ^ k := Int.mul_nonneg t0 (Int.le_of_lt (pow_pos128 k))
  rw [pow7, IntKind.wrap_u64, Int.emod_eq_of_lt hM0 (by omega)]
  obtain ⟨a, rfl⟩ := Int.eq_ofNat_of_zero_le h0
  obtain ⟨b, rfl⟩ := Int.eq_ofNat_of_zero_le t0
  have hb : ((b : Int) * 128 ^ k) = ((2 ^ (7 * k) * b : Nat) : Int) := by
    rw [Nat.mul_comm, Int.natCast_mul, Int.natCast_pow, ← pow7]; rfl
  have ha : a < 2 ^ (7 * k) := by
    have : ((a : Nat) : Int) < ((2 ^ (7 * k) : Nat) : Int) := by rw [Int.natCast_pow]; exact (pow7 k).symm ▸ h1
    omega
  rw [hb] at t1 ⊢
  rw [u64_or_nat _ _ (by omega) (by omega), Nat.or_comm, ← Nat.two_pow_add_eq_or_of_lt ha b]
  omega

/-- How far the reading has come: of the bytes xs the first k are read, acc is gathered; r is what comes out. -/
def GetAt (r : Int × Int × Int) (xs : List Int) (k : Nat) (acc : Int) : Prop := k ≤ 9 ∧ 0 ≤ acc ∧ acc < 128 ^ k ∧ r = getF k acc (xs.drop k)
theorem GetAt.start (xs : List Int) : GetAt (getR xs) xs 0 0 := ⟨by omega, by omega, by simp, by simp [getR]⟩
theorem GetAt.over {r : Int × Int × Int} {xs : List Int} {k : Nat} {acc : Int} (h : GetAt r xs k acc) (hk : xs.length ≤ k) : r = (0, 0, 4) := by
  obtain ⟨_, _, _, he⟩ := h
  rw [he, List.drop_eq_nil_of_le hk, getF]
section
variable {r : Int × Int × Int} {xs : List Int} {k : Nat} {acc q : Int}
theorem GetAt.long (h : GetAt r xs k acc) (hk : k < xs.length) (hq : xs[k] = q) (h9 : k = 9) (h1 : 1 < q) : r = (0, 0, 3) := by
  obtain ⟨_, _, _, he⟩ := h
  rw [he, List.drop_eq_getElem_cons hk, getF, hq, if_pos ⟨h9, h1⟩]
theorem GetAt.step (h : GetAt r xs k acc) (hk : k < xs.length) (hq : xs[k] = q) (h9 : k ≠ 9) (h1 : 128 ≤ q) : GetAt r xs (k + 1) (acc + q % 128 * 128 ^ k) := by
  obtain ⟨hk9, h0, hlt, he⟩ := h
  have hp := pow_pos128 k
  have hm0 : 0 ≤ q % 128 * 128 ^ k := Int.mul_nonneg (by omega) (Int.le_of_lt hp)
  have hm1 : q % 128 * 128 ^ k ≤ 127 * 128 ^ k := Int.mul_le_mul_of_nonneg_right (by omega) (Int.le_of_lt hp)
  refine ⟨by omega, by omega, by rw [Int.pow_succ]; omega, ?_⟩
  rw [he, List.drop_eq_getElem_cons hk, getF, hq, if_neg (by omega), if_pos h1]
theorem GetAt.zero (h : GetAt r xs k acc) (hk : k < xs.length) (hq : xs[k] = 0) (h1 : 0 < k) : r = (0, 0, 2) := by
  obtain ⟨_, _, _, he⟩ := h
  rw [he, List.drop_eq_getElem_cons hk, getF, hq, if_neg (by omega), if_neg (by omega), if_pos ⟨rfl, h1⟩]
theorem GetAt.fin (h : GetAt r xs k acc) (hk : k < xs.length) (hq : xs[k] = q) (h1 : q < 128) (h2 : ¬ (k = 9 ∧ 1 < q)) (h3 : ¬ (q = 0 ∧ 0 < k)) : r = (acc + q % 128 * 128 ^ k, (k : Int) + 1, 0) := by
  obtain ⟨_, _, _, he⟩ := h
  rw [he, List.drop_eq_getElem_cons hk, getF, hq, if_neg h2, if_neg (by omega), if_neg h3]
theorem GetAt.joined (h : GetAt r xs k acc) (h0 : 0 ≤ q) (h2 : ¬ (k = 9 ∧ 1 < q)) : bits .or .u64 acc (IntKind.u64.wrap (q % 128 * 2 ^ (7 * k))) = acc + q % 128 * 128 ^ k := by
  obtain ⟨hk9, ha, hlt, _⟩ := h
  refine or_join k hk9 acc (q % 128) ha hlt (by omega) ?_
  by_cases h9 : k = 9
  · subst h9
    rw [show (128 : Int) ^ 9 = 9223372036854775808 from by decide]
    omega
  · have h8 := pow128_mono (show k ≤ 8 by omega)
    rw [show (128 : Int) ^ 8 = 72057594037927936 from by decide] at h8
    have := Int.mul_le_mul (show q % 128 ≤ 127 by omega) h8 (Int.le_of_lt (pow_pos128 k)) (by decide)
    omega
theorem GetAt.bounds (h : GetAt r xs k acc) : k ≤ 9 ∧ 0 ≤ acc ∧ acc ≤ 9223372036854775807 := by
  obtain ⟨hk9, ha, hlt, _⟩ := h
  have := pow128_le k hk9
  omega
end

/-- Numbers one behind the other. -/
def rowL (l : List Int) : List Int := l.flatMap putL
theorem rowL_snoc (l : List Int) (k : Nat) (h : k < l.length) : rowL (l.take (k + 1)) = rowL (l.take k) ++ putL l[k] := by
  unfold rowL
  rw [List.take_succ_eq_append_getElem h, List.flatMap_append]
  simp
theorem rowL_length (l : List Int) : (rowL l).length ≤ 10 * l.length := by
  induction l with
  | nil => simp [rowL]
  | cons a t ih =>
    have := (putL_length a).2
    unfold rowL at ih ⊢
    rw [List.flatMap_cons, List.length_append, List.length_cons]
    omega
theorem rowL_drop (l : List Int) (k : Nat) (h : k < l.length) : (rowL l).drop (rowL (l.take k)).length = putL l[k] ++ rowL (l.drop (k + 1)) := by
  have e : rowL l = rowL (l.take k) ++ (putL l[k] ++ rowL (l.drop (k + 1))) := by
    have h1 : l = l.take k ++ (l[k] :: l.drop (k + 1)) := by rw [← List.drop_eq_getElem_cons h, List.take_append_drop]
    have h2 : rowL l = rowL (l.take k ++ (l[k] :: l.drop (k + 1))) := congrArg rowL h1
    rw [h2]
    unfold rowL
    rw [List.flatMap_append, List.flatMap_cons]
  rw [e, List.drop_left]
theorem rowL_range (l : List Int) (h : ∀ x ∈ l, 0 ≤ x ∧ x ≤ 18446744073709551615) : ∀ c ∈ rowL l, 0 ≤ c ∧ c ≤ 255 := by
  intro c hc
  unfold rowL at hc
  obtain ⟨x, hx, hc⟩ := List.mem_flatMap.1 hc
  exact putL_range x (h x hx).1 (h x hx).2 c hc
end Go.Proofs.Ytoienjlpncphgaa

namespace Go.Proofs.Ytoienjlpncphgaa

/-! ### A front is short -/
theorem getF_front (f : Nat) : ∀ (i : Nat) (acc y : Int) (n : Nat), i + f = 9 → 0 ≤ y → n < (putF f y).length → getF i acc ((putF f y).take n) = (0, 0, 4) := by
  induction f with
  | zero =>
    intro i acc y n _ _ hn
    simp [putF] at hn
    subst hn
    simp [getF]
  | succ f ih =>
    intro i acc y n hi h0 hn
    by_cases hs : y < 128
    · rw [putF_small _ _ hs] at hn ⊢
      simp at hn
      subst hn
      simp [getF]
    · rw [putF_big _ _ (by omega)] at hn ⊢
      cases n with
      | zero => simp [getF]
      | succ n =>
        have hi9 : ¬ i = 9 := by omega
        have hc : (128 : Int) ≤ y % 128 + 128 := by omega
        rw [List.take_succ_cons, getF, if_neg (by simp [hi9]), if_pos hc]
        exact ih (i + 1) _ (y / 128) n (by omega) (by omega) (by simpa using hn)
theorem getR_front (x : Int) (n : Nat) (h0 : 0 ≤ x) (hn : n < (putL x).length) : getR ((putL x).take n) = (0, 0, 4) := getF_front 9 0 0 x n rfl h0 hn

theorem getF_back : ∀ (bs : List Int) (i : Nat) (acc x k : Int), (∀ c ∈ bs, 0 ≤ c ∧ c ≤ 255) → i ≤ 9 → getF i acc bs = (x, k, 0) →
    ∃ y : Int, 0 ≤ y ∧ x = acc + y * 128 ^ i ∧ y < 2 * 128 ^ (9 - i) ∧ (0 < i → 0 < y) ∧ k = i + (putF (9 - i) y).length ∧ ∃ rest, bs = putF (9 - i) y ++ rest := by
  intro bs
  induction bs with
  | nil => intro i acc x k _ _ h; simp [getF] at h
  | cons c t ih =>
    intro i acc x k hb hi h
    obtain ⟨hc0, hc1⟩ := hb c (List.mem_cons_self ..)
    rw [getF] at h
    by_cases h1 : i = 9 ∧ 1 < c
    · rw [if_pos h1] at h; simp at h
    rw [if_neg h1] at h
    by_cases h2 : 128 ≤ c
    · rw [if_pos h2] at h
      have hi8 : i < 9 := by omega
      obtain ⟨y, hy0, hx, hlt, hp, hk, rest, ht⟩ := ih (i + 1) _ x k (fun d hd => hb d (List.mem_cons_of_mem _ hd)) (by omega) h
      have hy := hp (by omega)
      have e9 : 9 - i = (9 - (i + 1)) + 1 := by omega
      have hput : putF (9 - i) (c % 128 + 128 * y) = c :: putF (9 - (i + 1)) y := by
        rw [e9, putF_big _ _ (by omega), show (c % 128 + 128 * y) % 128 + 128 = c by omega, show (c % 128 + 128 * y) / 128 = y by omega]
      refine ⟨c % 128 + 128 * y, by omega, ?_, ?_, by omega, ?_, rest, ?_⟩
      · rw [hx, Int.pow_succ]
        generalize (128 : Int) ^ i = p
        generalize c % 128 = d
        rw [Int.add_mul, Int.mul_comm p 128, ← Int.mul_assoc, Int.mul_comm y 128, Int.add_assoc]
      · rw [e9, Int.pow_succ]; omega
      · rw [hput, hk, List.length_cons]; omega
      · rw [hput, ht]; rfl
    · rw [if_neg h2] at h
      by_cases h3 : c = 0 ∧ 0 < i
      · rw [if_pos h3] at h; simp at h
      rw [if_neg h3] at h
      simp only [Prod.mk.injEq, and_true] at h
      have hput := putF_small (9 - i) c (by omega)
      refine ⟨c, hc0, ?_, ?_, by omega, ?_, t, ?_⟩
      · rw [← h.1, show c % 128 = c by omega]
      · by_cases h9 : i = 9
        · subst h9
          simp
          omega
        · have := pow128_mono (show 1 ≤ 9 - i by omega)
          rw [show (128 : Int) ^ 1 = 128 from by decide] at this
          omega
      · rw [hput, ← h.2]; simp
      · rw [hput]; rfl
theorem getR_back {bs : List Int} {x k : Int} (hb : ∀ c ∈ bs, 0 ≤ c ∧ c ≤ 255) (h : getR bs = (x, k, 0)) :
    0 ≤ x ∧ x ≤ 18446744073709551615 ∧ k = (putL x).length ∧ ∃ rest, bs = putL x ++ rest := by
  obtain ⟨y, hy, hx, hlt, _, hk, rest, hbs⟩ := getF_back bs 0 0 x k hb (by omega) h
  obtain rfl : x = y := by rw [hx]; simp
  have e : (2 : Int) * 128 ^ (9 - 0) = 18446744073709551616 := by decide
  rw [e] at hlt
  exact ⟨hy, by omega, by rw [hk]; simp [putL], rest, hbs⟩
end Go.Proofs.Ytoienjlpncphgaa

namespace Go.Proofs.Ytoienjlpncphgaa

/-- One bit driven out. -/
def bitN (c : Nat) : Nat := if c % 2 = 1 then c / 2 ^^^ 3988292384 else c / 2
def itN : Nat → Nat → Nat
  | 0, c => c
  | n + 1, c => itN n (bitN c)

theorem xor_half (a b : Nat) : (a ^^^ b) / 2 = a / 2 ^^^ b / 2 := by
  have := Nat.shiftRight_xor_distrib (a := a) (b := b) (i := 1)
  simpa [Nat.shiftRight_eq_div_pow] using this
theorem xor_odd (a b : Nat) : (a ^^^ b) % 2 = (a % 2) ^^^ (b % 2) := by
  have := Nat.xor_mod_two_pow (a := a) (b := b) (n := 1)
  simpa using this
theorem bitN_xor (a b : Nat) : bitN (a ^^^ b) = bitN a ^^^ bitN b := by
  unfold bitN
  rw [xor_half, xor_odd]
  rcases Nat.mod_two_eq_zero_or_one a with ha | ha <;> rcases Nat.mod_two_eq_zero_or_one b with hb | hb <;> rw [ha, hb]
  · simp
  · simp [Nat.xor_assoc]
  · simp only [Nat.xor_zero, if_true, Nat.zero_ne_one, if_false]
    rw [Nat.xor_assoc, Nat.xor_assoc, Nat.xor_comm (b / 2)]
  · simp only [Nat.xor_self, if_true, Nat.zero_ne_one, if_false]
    rw [Nat.xor_assoc, Nat.xor_comm (b / 2), ← Nat.xor_assoc 3988292384, Nat.xor_self, Nat.zero_xor]
theorem itN_xor (n : Nat) : ∀ a b, itN n (a ^^^ b) = itN n a ^^^ itN n b := by
  induction n with
  | zero => intro a b; rfl
  | succ n ih => intro a b; rw [itN, bitN_xor, ih]; rfl
theorem itN_add (n m c : Nat) : itN (n + m) c = itN m (itN n c) := by
  induction n generalizing c with
  | zero => simp [itN]
  | succ n ih => rw [Nat.succ_add, itN, ih]; rfl
theorem itN_succ (n c : Nat) : itN (n + 1) c = bitN (itN n c) := by
  rw [itN_add n 1]; rfl
theorem xor_lt {a b : Nat} (ha : a < 4294967296) (hb : b < 4294967296) : a ^^^ b < 4294967296 :=
  Nat.xor_lt_two_pow (n := 32) ha hb
theorem bitN_lt {c : Nat} (h : c < 4294967296) : bitN c < 4294967296 := by
  unfold bitN
  split
  · exact xor_lt (by omega) (by omega)
  · omega
theorem itN_lt (n : Nat) {c : Nat} (h : c < 4294967296) : itN n c < 4294967296 := by
  induction n generalizing c with
  | zero => exact h
  | succ n ih => exact ih (bitN_lt h)
theorem xor_eq_zero {a b : Nat} (h : a ^^^ b = 0) : a = b := by
  have : a ^^^ b ^^^ b = 0 ^^^ b := by rw [h]
  rw [Nat.xor_assoc, Nat.xor_self, Nat.xor_zero, Nat.zero_xor] at this
  exact this
theorem bitN_zero {c : Nat} (h : c < 4294967296) (h0 : bitN c = 0) : c = 0 := by
  unfold bitN at h0
  split at h0
  · have := xor_eq_zero h0; omega
  · omega
theorem itN_zero (n : Nat) {c : Nat} (h : c < 4294967296) (h0 : itN n c = 0) : c = 0 := by
  induction n generalizing c with
  | zero => exact h0
  | succ n ih => exact bitN_zero h (ih (bitN_lt h) h0)
theorem itN_inj (n : Nat) {a b : Nat} (ha : a < 4294967296) (hb : b < 4294967296) (h : itN n a = itN n b) : a = b := by
  apply xor_eq_zero
  apply itN_zero n (xor_lt ha hb)
  rw [itN_xor, h, Nat.xor_self]

/-- What four bits at the low end come to. -/
def halfL : List Nat := [0, 498536548, 997073096, 651767980, 1994146192, 1802195444, 1303535960, 1342533948, 3988292384, 4027552580, 3604390888, 3412177804, 2607071920, 2262029012, 2685067896, 3183342108]
def nibN (c : Nat) : Nat := halfL.getD (c % 16) 0 ^^^ c / 16
theorem bitN_double (m : Nat) : bitN (2 * m) = m := by
  unfold bitN
  rw [if_neg (by omega)]
  omega
theorem itN_16 (m : Nat) : itN 4 (16 * m) = m := by
  have e : 16 * m = 2 * (2 * (2 * (2 * m))) := by omega
  rw [e]
  simp only [itN, bitN_double]
theorem split16 (c : Nat) : (c % 16) ^^^ (16 * (c / 16)) = c := by
  apply Nat.eq_of_testBit_eq
  intro i
  have e1 : c % 16 = c % 2 ^ 4 := rfl
  have e2 : 16 * (c / 16) = 2 ^ 4 * (c / 2 ^ 4) := rfl
  rw [Nat.testBit_xor, e1, e2, Nat.testBit_mod_two_pow, Nat.testBit_two_pow_mul, Nat.testBit_div_two_pow]
  by_cases h : i < 4
  · have : ¬ 4 ≤ i := by omega
    simp [h, this]
  · have h2 : 4 ≤ i := by omega
    simp [h, h2]
theorem low16 : ∀ k : Fin 16, itN 4 k.val = halfL.getD k.val 0 := by decide
theorem nib_eq (c : Nat) : nibN c = itN 4 c := by
  have := itN_xor 4 (c % 16) (16 * (c / 16))
  rw [split16, itN_16, low16 ⟨c % 16, Nat.mod_lt _ (by decide)⟩] at this
  rw [this]; rfl
theorem nib_lt {c : Nat} (h : c < 4294967296) : nibN c < 4294967296 := by rw [nib_eq]; exact itN_lt 4 h

/-- One byte. -/
def byteN (r : Nat) (x : Int) : Nat := itN 8 (r ^^^ x.toNat)
theorem byte_nib (r : Nat) (x : Int) : nibN (nibN (r ^^^ x.toNat)) = byteN r x := by
  rw [nib_eq, nib_eq, ← itN_add]; rfl
def runN (r : Nat) (xs : List Int) : Nat := xs.foldl byteN r
/-- The sum that goes on behind the sum s. -/
def moreN (s : Nat) (xs : List Int) : Nat := 4294967295 - runN (4294967295 - s) xs

def Bytes (xs : List Int) : Prop := ∀ c ∈ xs, 0 ≤ c ∧ c ≤ 255
theorem byteN_lt {r : Nat} {x : Int} (h : r < 4294967296) (hx : x ≤ 255) : byteN r x < 4294967296 :=
  itN_lt 8 (xor_lt h (by omega))
theorem runN_lt {r : Nat} {xs : List Int} (h : r < 4294967296) (hx : Bytes xs) : runN r xs < 4294967296 := by
  induction xs generalizing r with
  | nil => exact h
  | cons x xs ih => exact ih (byteN_lt h (hx x (by simp)).2) fun c hc => hx c (by simp [hc])
theorem moreN_lt (s : Nat) (xs : List Int) : moreN s xs < 4294967296 := by unfold moreN; omega
theorem runN_append (r : Nat) (xs ys : List Int) : runN r (xs ++ ys) = runN (runN r xs) ys := by simp [runN]
theorem moreN_nil {s : Nat} (h : s < 4294967296) : moreN s [] = s := by simp [moreN, runN]; omega
theorem moreN_more {s : Nat} {xs ys : List Int} (hx : Bytes xs) : moreN (moreN s xs) ys = moreN s (xs ++ ys) := by
  have h : runN (4294967295 - s) xs < 4294967296 := runN_lt (by omega) hx
  unfold moreN
  rw [runN_append, show 4294967295 - (4294967295 - runN (4294967295 - s) xs) = runN (4294967295 - s) xs from by omega]
theorem byteN_inj {r r' : Nat} {x : Int} (h : r < 4294967296) (h' : r' < 4294967296) (hx : x ≤ 255) (e : byteN r x = byteN r' x) : r = r' := by
  have := itN_inj 8 (xor_lt h (by omega)) (xor_lt h' (by omega)) e
  have e2 : r ^^^ x.toNat ^^^ x.toNat = r' ^^^ x.toNat ^^^ x.toNat := by rw [this]
  rw [Nat.xor_assoc, Nat.xor_assoc, Nat.xor_self, Nat.xor_zero, Nat.xor_zero] at e2
  exact e2
theorem runN_inj {xs : List Int} (hx : Bytes xs) : ∀ {r r' : Nat}, r < 4294967296 → r' < 4294967296 → runN r xs = runN r' xs → r = r' := by
  induction xs with
  | nil => intro r r' _ _ e; exact e
  | cons x xs ih =>
    intro r r' h h' e
    have hb := (hx x (by simp)).2
    exact byteN_inj h h' hb (ih (fun c hc => hx c (by simp [hc])) (byteN_lt h hb) (byteN_lt h' hb) e)
theorem byteN_other {r : Nat} {x y : Int} (h : r < 4294967296) (hx : 0 ≤ x ∧ x ≤ 255) (hy : 0 ≤ y ∧ y ≤ 255) (e : byteN r x = byteN r y) : x = y := by
  have := itN_inj 8 (xor_lt h (by omega)) (xor_lt h (by omega)) e
  have e2 : r ^^^ (r ^^^ x.toNat) = r ^^^ (r ^^^ y.toNat) := by rw [this]
  rw [← Nat.xor_assoc, ← Nat.xor_assoc, Nat.xor_self, Nat.zero_xor, Nat.zero_xor] at e2
  omega

theorem moreN_inj {s : Nat} {xs ys : List Int} (hx : Bytes xs) (hy : Bytes ys) (e : moreN s xs = moreN s ys) : runN (4294967295 - s) xs = runN (4294967295 - s) ys := by
  have h1 : runN (4294967295 - s) xs < 4294967296 := runN_lt (by omega) hx
  have h2 : runN (4294967295 - s) ys < 4294967296 := runN_lt (by omega) hy
  unfold moreN at e
  omega

theorem bytes_set {xs : List Int} {k : Nat} {y : Int} (hx : Bytes xs) (hy : 0 ≤ y ∧ y ≤ 255) : Bytes (xs.set k y) := fun c hc => by
  rcases List.mem_or_eq_of_mem_set hc with h | h
  · exact hx c h
  · subst h; exact hy

/-- One byte that is turned is seen. -/
theorem turned (s : Nat) (xs : List Int) (hx : Bytes xs) (k : Nat) (hk : k < xs.length) (y : Int) (hy : 0 ≤ y ∧ y ≤ 255) (hne : y ≠ xs[k]) : moreN s (xs.set k y) ≠ moreN s xs := by
  intro e
  have e1 := moreN_inj (bytes_set hx hy) hx e
  rw [List.set_eq_take_append_cons_drop, if_pos hk] at e1
  conv at e1 => rhs; rw [← List.take_append_drop k xs, List.drop_eq_getElem_cons hk]
  rw [runN_append, runN_append] at e1
  have ht : Bytes (xs.take k) := fun c hc => hx c (List.mem_of_mem_take hc)
  have hd : Bytes (xs.drop (k + 1)) := fun c hc => hx c (List.mem_of_mem_drop hc)
  have hr : runN (4294967295 - s) (xs.take k) < 4294967296 := runN_lt (by omega) ht
  have hxk := hx xs[k] (List.getElem_mem hk)
  exact hne (byteN_other hr hy hxk (runN_inj hd (byteN_lt hr hy.2) (byteN_lt hr hxk.2) e1))

theorem no_fix : ∀ d : Fin 256, itN 8 d.val = d.val → d.val = 0 := by decide +kernel
theorem byteN_swap {r : Nat} {x y : Int} (h : r < 4294967296) (hx : 0 ≤ x ∧ x ≤ 255) (hy : 0 ≤ y ∧ y ≤ 255) (e : byteN (byteN r x) y = byteN (byteN r y) x) : x = y := by
  obtain ⟨a, rfl⟩ := Int.eq_ofNat_of_zero_le hx.1
  obtain ⟨b, rfl⟩ := Int.eq_ofNat_of_zero_le hy.1
  unfold byteN at e
  simp only [Int.toNat_natCast] at e
  have e1 := itN_inj 8 (xor_lt (itN_lt 8 (xor_lt h (by omega))) (by omega)) (xor_lt (itN_lt 8 (xor_lt h (by omega))) (by omega)) e
  rw [itN_xor, itN_xor] at e1
  have e2 : itN 8 (a ^^^ b) = a ^^^ b := by
    rw [itN_xor]
    apply xor_eq_zero
    have e3 : (itN 8 r ^^^ itN 8 a ^^^ b) ^^^ (itN 8 r ^^^ itN 8 b ^^^ a) = 0 := by rw [e1, Nat.xor_self]
    rw [← e3]
    apply Nat.eq_of_testBit_eq
    intro i
    simp only [Nat.testBit_xor]
    cases (itN 8 a).testBit i <;> cases (itN 8 b).testBit i <;> cases (itN 8 r).testBit i <;> cases a.testBit i <;> cases b.testBit i <;> rfl
  have hlt : a ^^^ b < 256 := Nat.xor_lt_two_pow (n := 8) (by omega) (by omega)
  have := xor_eq_zero (no_fix ⟨a ^^^ b, hlt⟩ e2)
  omega

/-- Two bytes that change places are seen just if they differ. -/
theorem swapped (s : Nat) (xs : List Int) (hx : Bytes xs) (k : Nat) (hk : k + 1 < xs.length) :
    moreN s ((xs.set k xs[k + 1]).set (k + 1) xs[k]) = moreN s xs ↔ xs[k] = xs[k + 1] := by
  have hxa := hx xs[k] (List.getElem_mem (by omega))
  have hxb := hx xs[k + 1] (List.getElem_mem hk)
  constructor
  · intro e
    have e1 := moreN_inj (bytes_set (bytes_set hx hxb) hxa) hx e
    have hs : (xs.set k xs[k + 1]).set (k + 1) xs[k] = xs.take k ++ xs[k + 1] :: xs[k] :: xs.drop (k + 2) := by
      apply List.ext_getElem
      · simp; omega
      · intro i h1 h2
        simp only [List.getElem_set, List.getElem_append, List.length_take, List.getElem_take, List.getElem_cons, List.getElem_drop]
        have hm : min k xs.length = k := by omega
        simp only [hm]
        repeat' split
        all_goals (first | rfl | omega | (congr 1; omega))
    rw [hs] at e1
    conv at e1 => rhs; rw [← List.take_append_drop k xs, List.drop_eq_getElem_cons (show k < xs.length by omega), List.drop_eq_getElem_cons hk]
    rw [runN_append, runN_append] at e1
    have ht : Bytes (xs.take k) := fun c hc => hx c (List.mem_of_mem_take hc)
    have hd : Bytes (xs.drop (k + 2)) := fun c hc => hx c (List.mem_of_mem_drop hc)
    have hr : runN (4294967295 - s) (xs.take k) < 4294967296 := runN_lt (by omega) ht
    have e2 := runN_inj hd (byteN_lt (byteN_lt hr hxb.2) hxa.2) (byteN_lt (byteN_lt hr hxa.2) hxb.2) e1
    exact (byteN_swap hr hxb hxa e2).symm
  · intro e
    congr 1
    apply List.ext_getElem
    · simp
    · intro i h1 h2
      simp only [List.getElem_set]
      split
      · subst i; exact e
      · split
        · subst i; exact e.symm
        · rfl

/-- In the walk's own words. -/
theorem u32_not (s : Nat) (h : s < 4294967296) : bits .xor .u32 IntKind.u32.max (s : Int) = ((4294967295 - s : Nat) : Int) := by
  have e : IntKind.u32.max = ((4294967295 : Nat) : Int) := by decide
  rw [e, u32_xor_nat _ _ (by decide) (by omega)]
  congr 1
  apply Nat.eq_of_testBit_eq
  intro i
  have e2 : 4294967295 - s = 2 ^ 32 - (s + 1) := by omega
  rw [e2, Nat.testBit_two_pow_sub_succ (by omega), Nat.testBit_xor, show (4294967295 : Nat) = 2 ^ 32 - 1 from rfl, Nat.testBit_two_pow_sub_one]
  by_cases hi : i < 32
  · simp [hi]
  · have : s.testBit i = false := Nat.testBit_lt_two_pow (Nat.lt_of_lt_of_le (show s < 2 ^ 32 by omega) (Nat.pow_le_pow_right (by decide) (by omega)))
    simp [hi, this]

theorem i64_and7 (y : Int) : bits .and .i64 y 7 = y % 8 := by
  have h7 : (BitVec.ofInt 64 7).toNat = 7 := by decide
  show IntKind.i64.wrap ((BitVec.ofInt 64 y &&& BitVec.ofInt 64 7).toNat : Int) = _
  rw [BitVec.toNat_and, h7, show (7 : Nat) = 2 ^ 3 - 1 from rfl, Nat.and_two_pow_sub_one_eq_mod, BitVec.toNat_ofInt]
  rw [IntWalk.i64_in _ (by omega)]
  omega
/-- A byte one of whose bits is turned, in the walk's own words: another byte. -/
theorem turn_bit (q : Int) (hq : 0 ≤ q ∧ q ≤ 255) (m : Nat) (hm : m ≤ 7) :
    ∃ y : Int, bits .xor .u8 q (IntKind.u8.wrap (2 ^ min (IntKind.u64.wrap (m : Int)).toNat 8)) = y ∧ (0 ≤ y ∧ y ≤ 255) ∧ y ≠ q := by
  have e1 : IntKind.u64.wrap (m : Int) = (m : Int) := IntWalk.u64_in _ (by omega)
  have e2 : min (m : Int).toNat 8 = m := by omega
  rw [e1, e2]
  have hp : (2 : Int) ^ m = ((2 ^ m : Nat) : Int) := by rw [Int.natCast_pow]; rfl
  have hlt : 2 ^ m ≤ 2 ^ 7 := Nat.pow_le_pow_right (by decide) hm
  have hpos : 0 < 2 ^ m := Nat.pow_pos (by decide)
  obtain ⟨a, rfl⟩ := Int.eq_ofNat_of_zero_le hq.1
  rw [hp, IntWalk.u8_in _ (by omega), u8_xor_nat _ _ (by omega) (by omega)]
  refine ⟨_, rfl, ⟨by omega, ?_⟩, ?_⟩
  · have : a ^^^ 2 ^ m < 2 ^ 8 := Nat.xor_lt_two_pow (by omega) (by omega)
    omega
  · intro e
    have e3 : a ^^^ 2 ^ m = a := by omega
    have e4 : a ^^^ (a ^^^ 2 ^ m) = a ^^^ a := by rw [e3]
    rw [← Nat.xor_assoc, Nat.xor_self, Nat.zero_xor] at e4
    omega
end Go.Proofs.Ytoienjlpncphgaa

namespace Go.Proofs.Ytoienjlpncphgaa

/-- The four bytes of a sum, the great ones first. -/
def sumL (n : Nat) : List Int := [((n / 16777216 % 256 : Nat) : Int), ((n / 65536 % 256 : Nat) : Int), ((n / 256 % 256 : Nat) : Int), ((n % 256 : Nat) : Int)]
/-- The number that bytes are, the great ones first. -/
def sumOf (xs : List Int) : Int := xs.foldl (fun s c => s * 256 + c) 0
theorem sumL_length (n : Nat) : (sumL n).length = 4 := rfl
theorem sumOf_sumL {n : Nat} (h : n < 4294967296) : sumOf (sumL n) = (n : Int) := by
  simp only [sumOf, sumL, List.foldl_cons, List.foldl_nil]
  omega
theorem sumL_range (n : Nat) : ∀ c ∈ sumL n, 0 ≤ c ∧ c ≤ 255 := by
  intro c hc
  simp only [sumL, List.mem_cons, List.not_mem_nil, or_false] at hc
  omega
theorem sumOf_snoc (xs : List Int) (c : Int) : sumOf (xs ++ [c]) = sumOf xs * 256 + c := by simp [sumOf]
/-- Four bytes one of which is another one are another number. -/
theorem sumOf_turned (a b c d y : Int) (j : Nat) (hj : j < 4)
    (hne : y ≠ ([a, b, c, d].getD j 0)) : sumOf ([a, b, c, d].set j y) ≠ sumOf [a, b, c, d] := by
  have : j = 0 ∨ j = 1 ∨ j = 2 ∨ j = 3 := by omega
  rcases this with rfl | rfl | rfl | rfl <;> (simp [sumOf] at hne ⊢; omega)

/-- A piece, framed. -/
def frameL (p : List Int) : List Int := putL p.length ++ (sumL (moreN 0 p) ++ p)
theorem frameL_length (p : List Int) : (frameL p).length = (putL p.length).length + 4 + p.length := by
  unfold frameL
  rw [List.length_append, List.length_append, sumL_length]
  omega
theorem frameL_range (p : List Int) (h : ∀ c ∈ p, 0 ≤ c ∧ c ≤ 255) (hl : p.length ≤ 1099511627776) : ∀ c ∈ frameL p, 0 ≤ c ∧ c ≤ 255 := by
  intro c hc
  unfold frameL at hc
  rcases List.mem_append.1 hc with h1 | h1
  · exact putL_range _ (by omega) (by omega) c h1
  · rcases List.mem_append.1 h1 with h2 | h2
    · exact sumL_range _ c h2
    · exact h c h2

/-- What bytes begin with: the piece, how many bytes its frame has, the error. -/
def getFr (bs : List Int) : List Int × Int × Int :=
  if (getR bs).2.2 ≠ 0 then ([], 0, (getR bs).2.2)
  else if 16777216 < (getR bs).1 then ([], 0, 3)
  else if (bs.length : Int) < (getR bs).2.1 + 4 + (getR bs).1 then ([], 0, 4)
  else if ((moreN 0 ((bs.drop ((getR bs).2.1.toNat + 4)).take (getR bs).1.toNat) : Nat) : Int) ≠ sumOf ((bs.drop (getR bs).2.1.toNat).take 4) then ([], 0, 5)
  else ((bs.drop ((getR bs).2.1.toNat + 4)).take (getR bs).1.toNat, (getR bs).2.1 + 4 + (getR bs).1, 0)

section
variable {bs : List Int}
theorem getFr_err {x k e : Int} (h : getR bs = (x, k, e)) (he : e ≠ 0) : getFr bs = ([], 0, e) := by
  unfold getFr
  rw [h, if_pos he]
theorem getFr_long {x k : Int} (h : getR bs = (x, k, 0)) (hx : 16777216 < x) : getFr bs = ([], 0, 3) := by
  unfold getFr
  rw [h, if_neg (by simp), if_pos hx]
theorem getFr_short {x k : Int} (h : getR bs = (x, k, 0)) (hx : x ≤ 16777216) (hl : (bs.length : Int) < k + 4 + x) : getFr bs = ([], 0, 4) := by
  unfold getFr
  rw [h, if_neg (by simp), if_neg (by omega), if_pos hl]
theorem getFr_sum {len n : Nat} (h : getR bs = ((len : Int), (n : Int), 0)) (hx : len ≤ 16777216) (hl : n + 4 + len ≤ bs.length) (hs : ((moreN 0 ((bs.drop (n + 4)).take len) : Nat) : Int) ≠ sumOf ((bs.drop n).take 4)) : getFr bs = ([], 0, 5) := by
  unfold getFr
  rw [h, if_neg (by simp), if_neg (by simp only; omega), if_neg (by simp only; omega)]
  simp only [Int.toNat_natCast]
  rw [if_pos hs]
theorem getFr_ok {len n : Nat} (h : getR bs = ((len : Int), (n : Int), 0)) (hx : len ≤ 16777216) (hl : n + 4 + len ≤ bs.length) (hs : ((moreN 0 ((bs.drop (n + 4)).take len) : Nat) : Int) = sumOf ((bs.drop n).take 4)) :
    getFr bs = ((bs.drop (n + 4)).take len, ((n + 4 + len : Nat) : Int), 0) := by
  unfold getFr
  rw [h, if_neg (by simp), if_neg (by simp only; omega), if_neg (by simp only; omega)]
  simp only [Int.toNat_natCast]
  rw [if_neg (by simpa using hs)]
  simp
/-- The number that is read, as numbers of places. -/
theorem getR_nats {x k : Int} (hb : ∀ c ∈ bs, 0 ≤ c ∧ c ≤ 255) (h : getR bs = (x, k, 0)) : ∃ len n : Nat, x = (len : Int) ∧ k = (n : Int) ∧ 1 ≤ n ∧ n ≤ 10 ∧ n ≤ bs.length ∧ x ≤ 18446744073709551615 := by
  obtain ⟨h0, h1, hk, rest, hbs⟩ := getR_back hb h
  have := putL_length x
  refine ⟨x.toNat, (putL x).length, by omega, hk, this.1, this.2, ?_, h1⟩
  rw [hbs, List.length_append]
  omega
end

/-- A frame that is read has five bytes at least, and they are there. -/
theorem getFr_nat {bs p : List Int} {m : Int} (hb : ∀ c ∈ bs, 0 ≤ c ∧ c ≤ 255) (h : getFr bs = (p, m, 0)) : ∃ n : Nat, m = (n : Int) ∧ 5 ≤ n ∧ n ≤ bs.length ∧ p.length ≤ 16777216 ∧ ∀ c ∈ p, 0 ≤ c ∧ c ≤ 255 := by
  obtain ⟨x, k, e, hx⟩ : ∃ x k e, getR bs = (x, k, e) := ⟨_, _, _, rfl⟩
  by_cases he : e = 0
  · subst he
    obtain ⟨len, n, rfl, rfl, h1, _, _, _⟩ := getR_nats hb hx
    by_cases hl : 16777216 < (len : Int)
    · rw [getFr_long hx hl] at h; simp at h
    by_cases hs : (bs.length : Int) < (n : Int) + 4 + (len : Int)
    · rw [getFr_short hx (by omega) hs] at h; simp at h
    by_cases hq : ((moreN 0 ((bs.drop (n + 4)).take len) : Nat) : Int) = sumOf ((bs.drop n).take 4)
    · rw [getFr_ok hx (by omega) (by omega) hq] at h
      simp only [Prod.mk.injEq, and_true] at h
      refine ⟨n + 4 + len, h.2.symm, by omega, by omega, ?_, ?_⟩
      · rw [← h.1, List.length_take]; omega
      · intro c hc
        rw [← h.1] at hc
        exact hb c (List.mem_of_mem_drop (List.mem_of_mem_take hc))
    · rw [getFr_sum hx (by omega) (by omega) hq] at h; simp at h
  · rw [getFr_err hx he] at h
    simp only [Prod.mk.injEq] at h
    exact absurd h.2.2 he

/-- Bytes that stand as a frame's do. -/
theorem getFr_parts (S p more : List Int) (hS : S.length = 4) (hl : p.length ≤ 16777216) :
    getFr (putL p.length ++ (S ++ (p ++ more))) = if ((moreN 0 p : Nat) : Int) ≠ sumOf S then ([], 0, 5) else (p, (((putL p.length).length + 4 + p.length : Nat) : Int), 0) := by
  have hg := getR_putL (p.length : Int) (S ++ (p ++ more)) (by omega) (by omega)
  generalize putL (p.length : Int) = H at hg ⊢
  have d1 : (H ++ (S ++ (p ++ more))).drop H.length = S ++ (p ++ more) := List.drop_left
  have d2 : ((H ++ (S ++ (p ++ more))).drop H.length).take 4 = S := by rw [d1, ← hS, List.take_left]
  have d3 : ((H ++ (S ++ (p ++ more))).drop (H.length + 4)).take p.length = p := by
    rw [← List.drop_drop, d1, ← hS, List.drop_left, List.take_left]
  have hlen : H.length + 4 + p.length ≤ (H ++ (S ++ (p ++ more))).length := by simp only [List.length_append]; omega
  by_cases hs : ((moreN 0 p : Nat) : Int) = sumOf S
  · rw [getFr_ok hg hl hlen (by rw [d3, d2]; exact hs), if_neg (by simpa using hs), d3]
  · rw [getFr_sum hg hl hlen (by rw [d3, d2]; exact hs), if_pos hs]
theorem getFr_frame (p more : List Int) (hl : p.length ≤ 16777216) : getFr (frameL p ++ more) = (p, ((frameL p).length : Int), 0) := by
  have := getFr_parts (sumL (moreN 0 p)) p more (sumL_length _) hl
  rw [if_neg (by rw [sumOf_sumL (moreN_lt 0 p)]; simp)] at this
  rw [frameL_length, ← this]
  unfold frameL
  simp
/-- A front of a frame is short. -/
theorem getFr_front (p : List Int) (m : Nat) (hl : p.length ≤ 16777216) (hm : m < (frameL p).length) : getFr ((frameL p).take m) = ([], 0, 4) := by
  by_cases h1 : m < (putL (p.length : Int)).length
  · have e : (frameL p).take m = (putL (p.length : Int)).take m := by
      unfold frameL
      rw [List.take_append, show m - (putL (p.length : Int)).length = 0 by omega]
      simp
    rw [e]
    exact getFr_err (getR_front _ m (by omega) h1) (by decide)
  · have e : (frameL p).take m = putL (p.length : Int) ++ (sumL (moreN 0 p) ++ p).take (m - (putL (p.length : Int)).length) := by
      unfold frameL
      rw [List.take_append, List.take_of_length_le (by omega)]
    have hg := getR_putL (p.length : Int) ((sumL (moreN 0 p) ++ p).take (m - (putL (p.length : Int)).length)) (by omega) (by omega)
    rw [← e] at hg
    refine getFr_short hg (by omega) ?_
    have := frameL_length p
    rw [List.length_take]
    omega
/-- A frame one of whose bytes, behind the length, is another one. -/
theorem getFr_turned (p : List Int) (hp : ∀ c ∈ p, 0 ≤ c ∧ c ≤ 255) (hl : p.length ≤ 16777216) (k : Nat) (y : Int) (hy : 0 ≤ y ∧ y ≤ 255) (hk0 : (putL (p.length : Int)).length ≤ k) (hk : k < (frameL p).length) (hne : y ≠ (frameL p)[k]) :
    getFr ((frameL p).set k y) = ([], 0, 5) := by
  have hlen := frameL_length p
  obtain ⟨j, rfl⟩ : ∃ j, k = (putL (p.length : Int)).length + j := ⟨k - (putL (p.length : Int)).length, by omega⟩
  have hj8 : j < (sumL (moreN 0 p) ++ p).length := by rw [List.length_append, sumL_length]; omega
  have hne2 : y ≠ (sumL (moreN 0 p) ++ p)[j] := by
    intro h
    apply hne
    rw [h]
    have := List.getElem_append_right (as := putL (p.length : Int)) (bs := sumL (moreN 0 p) ++ p) (i := (putL (p.length : Int)).length + j) hk0 (h₂ := hk)
    simp only [Nat.add_sub_cancel_left] at this
    exact this.symm
  have e : (frameL p).set ((putL (p.length : Int)).length + j) y = putL (p.length : Int) ++ (sumL (moreN 0 p) ++ p).set j y := by
    unfold frameL
    rw [List.set_append_right _ _ hk0, Nat.add_sub_cancel_left]
  rw [e]
  by_cases h4 : j < 4
  · rw [List.set_append_left _ _ (by rw [sumL_length]; exact h4)]
    have := getFr_parts ((sumL (moreN 0 p)).set j y) p [] (by rw [List.length_set, sumL_length]) hl
    rw [List.append_nil, if_pos] at this
    · exact this
    · rw [← sumOf_sumL (moreN_lt 0 p)]
      intro h
      refine sumOf_turned _ _ _ _ y j h4 ?_ h.symm
      intro hh
      apply hne2
      rw [List.getElem_append_left (by rw [sumL_length]; exact h4), hh]
      show (sumL (moreN 0 p)).getD j 0 = _
      rw [List.getD_eq_getElem?_getD, List.getElem?_eq_getElem (by rw [sumL_length]; exact h4)]
      rfl
  · rw [List.set_append_right _ _ (by rw [sumL_length]; omega), sumL_length]
    have hjp : j - 4 < p.length := by omega
    have := getFr_parts (sumL (moreN 0 p)) (p.set (j - 4) y) [] (sumL_length _) (by rw [List.length_set]; exact hl)
    rw [List.length_set, List.append_nil, if_pos] at this
    · exact this
    · rw [sumOf_sumL (moreN_lt 0 p)]
      have ht := turned 0 p hp (j - 4) hjp y hy (by
        intro hh
        apply hne2
        rw [List.getElem_append_right (by rw [sumL_length]; omega)]
        exact hh)
      intro hh
      exact ht (by omega)

/-- Which pieces bytes begin with, up to the first error or the end, and how many bytes their frames have. -/
inductive AllIs : List Int → List (List Int) → Nat → Prop
  | stop {bs : List Int} (h : bs = [] ∨ (getFr bs).2.2 ≠ 0) : AllIs bs [] 0
  | step {bs p : List Int} {n : Nat} {ps : List (List Int)} {k : Nat} (h0 : bs ≠ []) (hg : getFr bs = (p, (n : Int), 0)) (h : AllIs (bs.drop n) ps k) : AllIs bs (p :: ps) (n + k)
theorem AllIs.one {bs : List Int} {ps qs : List (List Int)} {k m : Nat} (h : AllIs bs ps k) (h' : AllIs bs qs m) : ps = qs ∧ k = m := by
  induction h generalizing qs m with
  | stop h =>
    cases h' with
    | stop _ => exact ⟨rfl, rfl⟩
    | step h0 hg _ =>
      rcases h with h | h
      · exact absurd h h0
      · rw [hg] at h; exact absurd rfl h
  | step h0 hg _ ih =>
    cases h' with
    | stop h =>
      rcases h with h | h
      · exact absurd h h0
      · rw [hg] at h; exact absurd rfl h
    | step _ hg' h2 =>
      rw [hg] at hg'
      simp only [Prod.mk.injEq, and_true] at hg'
      obtain ⟨rfl, hn⟩ := hg'
      obtain rfl := Int.ofNat.inj hn
      obtain ⟨rfl, rfl⟩ := ih h2
      exact ⟨rfl, rfl⟩
/-- How far the reading has come: pre is read, the first k bytes are its frames. -/
def AllAt (bs : List Int) (pre : List (List Int)) (k : Nat) : Prop := ∀ ps m, AllIs (bs.drop k) ps m → AllIs bs (pre ++ ps) (k + m)
theorem AllAt.start (bs : List Int) : AllAt bs [] 0 := fun ps m h => by simpa using h
theorem AllAt.next {bs p : List Int} {pre : List (List Int)} {k n : Nat} (h : AllAt bs pre k) (hk : k < bs.length) (hg : getFr (bs.drop k) = (p, (n : Int), 0)) : AllAt bs (pre ++ [p]) (k + n) := fun ps m hm => by
  have := h (p :: ps) (n + m) (AllIs.step (by intro h0; have := congrArg List.length h0; simp at this; omega) hg (by rw [List.drop_drop]; exact hm))
  rw [List.append_assoc, Nat.add_assoc]
  exact this
theorem AllAt.over {bs : List Int} {pre : List (List Int)} {k : Nat} (h : AllAt bs pre k) (hk : bs.length ≤ k) : AllIs bs pre k := by
  simpa using h [] 0 (.stop (.inl (List.drop_eq_nil_of_le hk)))
theorem AllAt.stop {bs : List Int} {pre : List (List Int)} {k : Nat} (h : AllAt bs pre k) (he : (getFr (bs.drop k)).2.2 ≠ 0) : AllIs bs pre k := by
  simpa using h [] 0 (.stop (.inr he))

/-- Frames one behind the other. -/
def rowF (l : List (List Int)) : List Int := l.flatMap frameL
theorem rowF_snoc (l : List (List Int)) (i : Nat) (h : i < l.length) : rowF (l.take (i + 1)) = rowF (l.take i) ++ frameL l[i] := by
  unfold rowF
  rw [List.take_succ_eq_append_getElem h, List.flatMap_append]
  simp
theorem rowF_range (l : List (List Int)) (h : ∀ p ∈ l, (∀ c ∈ p, 0 ≤ c ∧ c ≤ 255) ∧ p.length ≤ 16777216) : ∀ c ∈ rowF l, 0 ≤ c ∧ c ≤ 255 := by
  intro c hc
  unfold rowF at hc
  obtain ⟨p, hp, hc⟩ := List.mem_flatMap.1 hc
  exact frameL_range p (h p hp).1 (by have := (h p hp).2; omega) c hc
theorem rowF_length (l : List (List Int)) (h : ∀ p ∈ l, p.length ≤ 100) : (rowF l).length ≤ 200 * l.length := by
  induction l with
  | nil => simp [rowF]
  | cons p l ih =>
    have h1 := frameL_length p
    have h2 := putL_length (p.length : Int)
    have h3 := h p (List.mem_cons_self ..)
    have h4 := ih fun q hq => h q (List.mem_cons_of_mem _ hq)
    unfold rowF at h4 ⊢
    rw [List.flatMap_cons, List.length_append, List.length_cons]
    omega
theorem all_row (l : List (List Int)) (t : List Int) (h : ∀ p ∈ l, p.length ≤ 16777216) (ht : t = [] ∨ (getFr t).2.2 ≠ 0) : AllIs (rowF l ++ t) l (rowF l).length := by
  induction l with
  | nil => simpa [rowF] using AllIs.stop ht
  | cons p l ih =>
    have e : rowF (p :: l) ++ t = frameL p ++ (rowF l ++ t) := by unfold rowF; simp
    have e2 : (rowF (p :: l)).length = (frameL p).length + (rowF l).length := by unfold rowF; simp
    rw [e, e2]
    refine .step ?_ (getFr_frame p _ (h p (List.mem_cons_self ..))) ?_
    · intro h0
      have := congrArg List.length h0
      have h1 := frameL_length p
      rw [List.length_append, List.length_nil] at this
      omega
    · rw [List.drop_left]
      exact ih fun q hq => h q (List.mem_cons_of_mem _ hq)
theorem all_whole (l : List (List Int)) (h : ∀ p ∈ l, p.length ≤ 16777216) : AllIs (rowF l) l (rowF l).length := by simpa using all_row l [] h (.inl rfl)
/-- Of frames whose last one wants bytes at its end all others are read. -/
theorem all_torn (l : List (List Int)) (n m : Nat) (h : ∀ p ∈ l, p.length ≤ 16777216) (hn : l.length = n + 1) (h0 : (rowF (l.take n)).length ≤ m) (h1 : m < (rowF l).length) : AllIs ((rowF l).take m) (l.take n) (rowF (l.take n)).length := by
  have hln : n < l.length := by omega
  have e : rowF l = rowF (l.take n) ++ frameL l[n] := by
    rw [← rowF_snoc l n hln, ← hn, List.take_length]
  have hf : m - (rowF (l.take n)).length < (frameL l[n]).length := by
    have := congrArg List.length e
    rw [List.length_append] at this
    omega
  have e2 : (rowF l).take m = rowF (l.take n) ++ (frameL l[n]).take (m - (rowF (l.take n)).length) := by
    conv => lhs; rw [e]
    rw [List.take_append, List.take_of_length_le h0]
  rw [e2]
  refine all_row _ _ (fun p hp => h p (List.mem_of_mem_take hp)) (.inr ?_)
  rw [getFr_front _ _ (h _ (List.getElem_mem hln)) hf]
  decide
end Go.Proofs.Ytoienjlpncphgaa

namespace Go.Proofs.Ytoienjlpncphgaa
open Go.RowKit

def foldI (n : Int) : Int := if n < 0 then -2 * n - 1 else 2 * n
def unfoldI (x : Int) : Int := if x % 2 = 1 then -(x / 2) - 1 else x / 2

theorem nat_xor_max (a : Nat) (h : a < 2 ^ 64) : a ^^^ (2 ^ 64 - 1) = 2 ^ 64 - (a + 1) := by
  apply Nat.eq_of_testBit_eq
  intro i
  rw [Nat.testBit_xor, Nat.testBit_two_pow_sub_one, Nat.testBit_two_pow_sub_succ h]
  by_cases hi : i < 64
  · simp [hi]
  · have : a.testBit i = false := Nat.testBit_lt_two_pow (Nat.lt_of_lt_of_le h (Nat.pow_le_pow_right (by decide) (by omega)))
    simp [hi, this]
theorem xor_max (y : Int) (h0 : 0 ≤ y) (h1 : y ≤ 18446744073709551615) : bits .xor .u64 IntKind.u64.max y = 18446744073709551615 - y := by
  obtain ⟨a, rfl⟩ := Int.eq_ofNat_of_zero_le h0
  have e : IntKind.u64.max = ((18446744073709551615 : Nat) : Int) := by decide
  rw [e, u64_xor_nat _ _ (by decide) (by omega), Nat.xor_comm]
  have h : a ^^^ 18446744073709551615 = 18446744073709551616 - (a + 1) := nat_xor_max a (by omega)
  omega

theorem fold_range (n : Int) (h0 : -9223372036854775808 ≤ n) (h1 : n ≤ 9223372036854775807) : 0 ≤ foldI n ∧ foldI n ≤ 18446744073709551615 := by
  unfold foldI; split <;> omega
theorem unfold_range (x : Int) (h0 : 0 ≤ x) (h1 : x ≤ 18446744073709551615) : -9223372036854775808 ≤ unfoldI x ∧ unfoldI x ≤ 9223372036854775807 := by
  unfold unfoldI; split <;> omega
theorem unfold_fold (n : Int) : unfoldI (foldI n) = n := by
  unfold unfoldI foldI; split <;> split <;> omega
theorem fold_unfold (x : Int) (h0 : 0 ≤ x) : foldI (unfoldI x) = x := by
  unfold unfoldI foldI; split <;> split <;> omega

theorem ret_int {k : IntKind} {a b : Int} {w : World} (h : a = b) : Ending.returned (.int k a) = .returned (.int k b) ∧ w = w := ⟨by rw [h], rfl⟩

end Go.Proofs.Ytoienjlpncphgaa

namespace Go.Proofs.Ytoienjlpncphgaa

/-! ### Texts as lists of numbers -/
def ints (s : ByteArray) : List Int := s.data.toList.map fun b => (b.toNat : Int)
theorem ints_length (s : ByteArray) : (ints s).length = s.size := by
  unfold ints
  rw [List.length_map]
  rfl
theorem ints_range (s : ByteArray) : ∀ c ∈ ints s, 0 ≤ c ∧ c ≤ 255 := by
  intro c hc
  unfold ints at hc
  obtain ⟨b, _, rfl⟩ := List.mem_map.1 hc
  have := b.toNat_lt
  omega
theorem textOf_data (xs : List Int) : (textOf xs).data.toList = xs.map fun n => UInt8.ofNat n.toNat := by
  have h : ∀ (xs : List Int) (r : ByteArray), (xs.foldl (fun r n => r.push (UInt8.ofNat n.toNat)) r).data.toList = r.data.toList ++ xs.map fun n => UInt8.ofNat n.toNat := by
    intro xs
    induction xs with
    | nil => intro r; simp
    | cons a t ih =>
      intro r
      rw [List.foldl_cons, ih]
      simp [ByteArray.push]
  rw [textOf, h]
  simp
theorem bytes_eq {a b : ByteArray} (h : a.data.toList = b.data.toList) : a = b := by
  cases a; cases b
  simp only [ByteArray.mk.injEq]
  exact Array.toList_inj.1 h
theorem textOf_ints (s : ByteArray) : textOf (ints s) = s := by
  refine bytes_eq ?_
  rw [textOf_data, ints, List.map_map]
  conv => rhs; rw [← List.map_id s.data.toList]
  refine List.map_congr_left fun b _ => ?_
  simp
theorem ints_textOf (xs : List Int) (h : ∀ c ∈ xs, 0 ≤ c ∧ c ≤ 255) : ints (textOf xs) = xs := by
  rw [ints, textOf_data, List.map_map]
  conv => rhs; rw [← List.map_id xs]
  refine List.map_congr_left fun c hc => ?_
  have := h c hc
  simp
  omega
theorem textOf_size (xs : List Int) : (textOf xs).size = xs.length := by
  show (textOf xs).data.size = _
  rw [← Array.length_toList, textOf_data, List.length_map]

/-! ### Records -/
structure Rec where
  off : Int
  time : Int
  key : ByteArray
  val : ByteArray
  dead : Bool
def zeroR : Rec := ⟨0, 0, ⟨#[]⟩, ⟨#[]⟩, false⟩
def Rec.right (r : Rec) : Prop := 0 ≤ r.off ∧ r.off ≤ 1125899906842624 ∧ -1099511627776 ≤ r.time ∧ r.time ≤ 1099511627776 ∧ 1 ≤ r.key.size ∧ r.key.size ≤ 200 ∧ r.val.size ≤ 2000 ∧ (r.dead = true → r.val.size = 0)
instance (r : Rec) : Decidable r.right := by unfold Rec.right; infer_instance
def deadI (d : Bool) : Int := if d then 1 else 0
def bodyL (r : Rec) : List Int := putL r.key.size ++ (ints r.key ++ (putL r.val.size ++ ints r.val))
def recL (r : Rec) : List Int := putL r.off ++ (putL (foldI r.time) ++ (deadI r.dead :: bodyL r))
/-- What Put writes. -/
def putR (r : Rec) : List Int := if r.right then recL r else []

/-- A text behind its length, at most so long, from i on: the text, where it ends, the error. -/
def partR (bs : List Int) (i : Nat) (most : Int) : ByteArray × Int × Int :=
  if (getR (bs.drop i)).2.2 ≠ 0 then (⟨#[]⟩, 0, (getR (bs.drop i)).2.2)
  else if most < (getR (bs.drop i)).1 then (⟨#[]⟩, 0, 2)
  else if (bs.length : Int) - (i + (getR (bs.drop i)).2.1) < (getR (bs.drop i)).1 then (⟨#[]⟩, 0, 4)
  else (textOf ((bs.drop (i + (getR (bs.drop i)).2.1.toNat)).take (getR (bs.drop i)).1.toNat), i + (getR (bs.drop i)).2.1 + (getR (bs.drop i)).1, 0)
def getB (bs : List Int) (off time : Int) (dead : Bool) (i : Nat) : Rec × Int × Int :=
  if (partR bs i 200).2.2 ≠ 0 then (zeroR, 0, (partR bs i 200).2.2)
  else if (partR bs (partR bs i 200).2.1.toNat 2000).2.2 ≠ 0 then (zeroR, 0, (partR bs (partR bs i 200).2.1.toNat 2000).2.2)
  else if (⟨off, time, (partR bs i 200).1, (partR bs (partR bs i 200).2.1.toNat 2000).1, dead⟩ : Rec).right then
    (⟨off, time, (partR bs i 200).1, (partR bs (partR bs i 200).2.1.toNat 2000).1, dead⟩, (partR bs (partR bs i 200).2.1.toNat 2000).2.1, 0)
  else (zeroR, 0, 2)
def getD (bs : List Int) (off time : Int) (i : Nat) : Rec × Int × Int :=
  if bs.length ≤ i then (zeroR, 0, 4)
  else if 1 < bs.getD i 0 then (zeroR, 0, 2)
  else getB bs off time (bs.getD i 0 == 1) (i + 1)
def getT (bs : List Int) (off : Int) (i : Nat) : Rec × Int × Int :=
  if (getR (bs.drop i)).2.2 ≠ 0 then (zeroR, 0, (getR (bs.drop i)).2.2)
  else if unfoldI (getR (bs.drop i)).1 < -1099511627776 ∨ 1099511627776 < unfoldI (getR (bs.drop i)).1 then (zeroR, 0, 2)
  else getD bs off (unfoldI (getR (bs.drop i)).1) (i + (getR (bs.drop i)).2.1.toNat)
/-- The record that bytes begin with, how many bytes it has, the error. -/
def getRec (bs : List Int) : Rec × Int × Int :=
  if (getR bs).2.2 ≠ 0 then (zeroR, 0, (getR bs).2.2)
  else if 1125899906842624 < (getR bs).1 then (zeroR, 0, 2)
  else getT bs (getR bs).1 (getR bs).2.1.toNat

/-! ### What was written is read -/
theorem part_put (pre more : List Int) (s : ByteArray) (most : Int) (h : (s.size : Int) ≤ most) (hm : most ≤ 18446744073709551615) :
    partR (pre ++ (putL s.size ++ (ints s ++ more))) pre.length most = (s, ((pre.length + (putL s.size).length + s.size : Nat) : Int), 0) := by
  have hg : getR ((pre ++ (putL s.size ++ (ints s ++ more))).drop pre.length) = ((s.size : Int), ((putL s.size).length : Int), 0) := by
    rw [List.drop_left]
    exact getR_putL _ _ (by omega) (by omega)
  have hl := ints_length s
  have hd : (pre ++ (putL s.size ++ (ints s ++ more))).drop (pre.length + (putL s.size).length) = ints s ++ more := by
    rw [← List.append_assoc, ← List.length_append, List.drop_left]
  unfold partR
  rw [hg]
  simp only [Int.toNat_natCast]
  rw [if_neg (by omega), if_neg (by omega), if_neg (by simp only [List.length_append]; omega), hd, ← hl, List.take_left, textOf_ints]
  simp only [Prod.mk.injEq, true_and, and_true]
  omega
theorem getRec_put (r : Rec) (more : List Int) (h : r.right) : getRec (recL r ++ more) = (r, ((recL r).length : Int), 0) := by
  obtain ⟨off, time, key, val, dead⟩ := r
  have hr := h
  obtain ⟨h1, h2, h3, h4, h5, h6, h7, h8⟩ := h
  simp only at h1 h2 h3 h4 h5 h6 h7 h8
  have hfr := fold_range time (by omega) (by omega)
  have hlen : (recL ⟨off, time, key, val, dead⟩).length = (putL off).length + ((putL (foldI time)).length + (1 + ((putL key.size).length + (key.size + ((putL val.size).length + val.size))))) := by
    simp only [recL, bodyL, List.length_append, List.length_cons, ints_length]
    omega
  have e0 : recL ⟨off, time, key, val, dead⟩ ++ more = putL off ++ (putL (foldI time) ++ (deadI dead :: (putL key.size ++ (ints key ++ (putL val.size ++ (ints val ++ more)))))) := by
    simp [recL, bodyL]
  have g1 := getR_putL off (putL (foldI time) ++ (deadI dead :: (putL key.size ++ (ints key ++ (putL val.size ++ (ints val ++ more)))))) h1 (by omega)
  have g2 := getR_putL (foldI time) (deadI dead :: (putL key.size ++ (ints key ++ (putL val.size ++ (ints val ++ more))))) hfr.1 hfr.2
  rw [hlen, e0]
  unfold getRec
  rw [g1]
  simp only [Int.toNat_natCast]
  rw [if_neg (by omega), if_neg (by omega)]
  unfold getT
  rw [List.drop_left, g2]
  simp only [Int.toNat_natCast]
  rw [unfold_fold, if_neg (by omega), if_neg (by omega)]
  have e1 : putL off ++ (putL (foldI time) ++ (deadI dead :: (putL key.size ++ (ints key ++ (putL val.size ++ (ints val ++ more)))))) = (putL off ++ putL (foldI time)) ++ (deadI dead :: (putL key.size ++ (ints key ++ (putL val.size ++ (ints val ++ more))))) := by
    simp
  have hd : (putL off ++ (putL (foldI time) ++ (deadI dead :: (putL key.size ++ (ints key ++ (putL val.size ++ (ints val ++ more))))))).getD ((putL off).length + (putL (foldI time)).length) 0 = deadI dead := by
    rw [e1, ← List.length_append]
    simp [List.getD]
  unfold getD
  rw [hd, if_neg (by simp only [List.length_append, List.length_cons]; omega), if_neg (by unfold deadI; split <;> omega)]
  have hdd : (deadI dead == 1) = dead := by cases dead <;> rfl
  rw [hdd]
  have e2 : putL off ++ (putL (foldI time) ++ (deadI dead :: (putL key.size ++ (ints key ++ (putL val.size ++ (ints val ++ more)))))) = (putL off ++ (putL (foldI time) ++ [deadI dead])) ++ (putL key.size ++ (ints key ++ (putL val.size ++ (ints val ++ more)))) := by
    simp
  have p1 := part_put (putL off ++ (putL (foldI time) ++ [deadI dead])) (putL val.size ++ (ints val ++ more)) key 200 (by omega) (by omega)
  have e3 : putL off ++ (putL (foldI time) ++ (deadI dead :: (putL key.size ++ (ints key ++ (putL val.size ++ (ints val ++ more)))))) = (putL off ++ (putL (foldI time) ++ (deadI dead :: (putL key.size ++ ints key)))) ++ (putL val.size ++ (ints val ++ more)) := by
    simp
  have p2 := part_put (putL off ++ (putL (foldI time) ++ (deadI dead :: (putL key.size ++ ints key)))) more val 2000 (by omega) (by omega)
  rw [← e2] at p1
  rw [← e3] at p2
  have l1 : (putL off ++ (putL (foldI time) ++ [deadI dead])).length = (putL off).length + (putL (foldI time)).length + 1 := by
    simp only [List.length_append, List.length_cons, List.length_nil]; omega
  have l2 : (putL off ++ (putL (foldI time) ++ (deadI dead :: (putL key.size ++ ints key)))).length = (putL off).length + (putL (foldI time)).length + 1 + (putL key.size).length + key.size := by
    simp only [List.length_append, List.length_cons, ints_length]; omega
  rw [l1] at p1
  rw [l2] at p2
  unfold getB
  rw [p1]
  simp only [Int.toNat_natCast]
  rw [p2]
  simp only
  rw [if_neg (by omega), if_neg (by omega), if_pos hr]
  simp only [Prod.mk.injEq, true_and, and_true]
  omega
end Go.Proofs.Ytoienjlpncphgaa

namespace Go.Proofs.Ytoienjlpncphgaa

theorem take_front {a b : List Int} {n : Nat} (h : n ≤ a.length) : (a ++ b).take n = a.take n := by
  rw [List.take_append, show n - a.length = 0 by omega]
  simp
theorem take_past {a b : List Int} {n : Nat} (h : a.length ≤ n) : (a ++ b).take n = a ++ b.take (n - a.length) := by
  rw [List.take_append, List.take_of_length_le h]

theorem part_short (pre more : List Int) (s : ByteArray) (most : Int) (n : Nat) (h : (s.size : Int) ≤ most) (hm : most ≤ 18446744073709551615) (hn : n < (putL s.size).length + s.size) :
    partR (pre ++ (putL s.size ++ (ints s ++ more)).take n) pre.length most = (⟨#[]⟩, 0, 4) := by
  have hl := ints_length s
  unfold partR
  rw [List.drop_left]
  by_cases h1 : n < (putL s.size).length
  · rw [take_front (by omega), getR_front _ n (by omega) h1]
    simp
  · rw [take_past (by omega), getR_putL _ _ (by omega) (by omega)]
    simp only
    rw [if_neg (by omega), if_neg (by omega), if_pos]
    simp only [List.length_append, List.length_take]
    omega

theorem getRec_short (r : Rec) (n : Nat) (h : r.right) (hn : n < (recL r).length) : getRec ((recL r).take n) = (zeroR, 0, 4) := by
  obtain ⟨off, time, key, val, dead⟩ := r
  have hr := h
  obtain ⟨h1, h2, h3, h4, h5, h6, h7, h8⟩ := h
  simp only at h1 h2 h3 h4 h5 h6 h7 h8
  have hfr := fold_range time (by omega) (by omega)
  have hlen : (recL ⟨off, time, key, val, dead⟩).length = (putL off).length + ((putL (foldI time)).length + (1 + ((putL key.size).length + (key.size + ((putL val.size).length + val.size))))) := by
    simp only [recL, bodyL, List.length_append, List.length_cons, ints_length]
    omega
  rw [hlen] at hn
  rw [show recL ⟨off, time, key, val, dead⟩ = putL off ++ (putL (foldI time) ++ (deadI dead :: bodyL ⟨off, time, key, val, dead⟩)) from rfl]
  unfold getRec
  by_cases c1 : n < (putL off).length
  · rw [take_front (by omega), getR_front _ _ h1 c1]
    simp
  rw [take_past (by omega), getR_putL _ _ h1 (by omega)]
  simp only [Int.toNat_natCast]
  rw [if_neg (by omega), if_neg (by omega)]
  unfold getT
  rw [List.drop_left]
  obtain ⟨n1, hn1⟩ : ∃ n1, n - (putL off).length = n1 := ⟨_, rfl⟩
  rw [hn1]
  by_cases c2 : n1 < (putL (foldI time)).length
  · rw [take_front (by omega), getR_front _ _ hfr.1 c2]
    simp
  rw [take_past (by omega), getR_putL _ _ hfr.1 hfr.2]
  simp only [Int.toNat_natCast]
  rw [unfold_fold, if_neg (by omega), if_neg (by omega)]
  obtain ⟨n2, hn2⟩ : ∃ n2, n1 - (putL (foldI time)).length = n2 := ⟨_, rfl⟩
  rw [hn2]
  unfold getD
  cases n2 with
  | zero => rw [if_pos (by simp)]
  | succ n3 =>
    rw [List.take_succ_cons, if_neg (by simp only [List.length_append, List.length_cons]; omega)]
    have e1 : putL off ++ (putL (foldI time) ++ (deadI dead :: (bodyL ⟨off, time, key, val, dead⟩).take n3)) = (putL off ++ putL (foldI time)) ++ (deadI dead :: (bodyL ⟨off, time, key, val, dead⟩).take n3) := by simp
    have hd : (putL off ++ (putL (foldI time) ++ (deadI dead :: (bodyL ⟨off, time, key, val, dead⟩).take n3))).getD ((putL off).length + (putL (foldI time)).length) 0 = deadI dead := by
      rw [e1, ← List.length_append]
      simp [List.getD]
    rw [hd, if_neg (by unfold deadI; split <;> omega)]
    have e2 : putL off ++ (putL (foldI time) ++ (deadI dead :: (bodyL ⟨off, time, key, val, dead⟩).take n3)) = (putL off ++ (putL (foldI time) ++ [deadI dead])) ++ (bodyL ⟨off, time, key, val, dead⟩).take n3 := by simp
    have l1 : (putL off ++ (putL (foldI time) ++ [deadI dead])).length = (putL off).length + (putL (foldI time)).length + 1 := by
      simp only [List.length_append, List.length_cons, List.length_nil]; omega
    rw [e2, ← l1, show bodyL ⟨off, time, key, val, dead⟩ = putL key.size ++ (ints key ++ (putL val.size ++ ints val)) from rfl]
    unfold getB
    by_cases c3 : n3 < (putL key.size).length + key.size
    · rw [part_short _ _ key 200 n3 (by omega) (by omega) c3]
      simp
    · have e3 : (putL (key.size : Int) ++ (ints key ++ (putL val.size ++ ints val))).take n3 = putL key.size ++ (ints key ++ (putL val.size ++ ints val).take (n3 - ((putL key.size).length + key.size))) := by
        rw [← List.append_assoc, take_past (by simp only [List.length_append, ints_length]; omega)]
        simp only [List.length_append, ints_length, List.append_assoc]
      rw [e3, part_put _ _ key 200 (by omega) (by omega)]
      simp only [Int.toNat_natCast]
      rw [if_neg (by omega)]
      have e4 : putL off ++ (putL (foldI time) ++ [deadI dead]) ++ (putL (key.size : Int) ++ (ints key ++ (putL val.size ++ ints val).take (n3 - ((putL key.size).length + key.size)))) = (putL off ++ (putL (foldI time) ++ (deadI dead :: (putL key.size ++ ints key)))) ++ (putL val.size ++ (ints val ++ [])).take (n3 - ((putL key.size).length + key.size)) := by
        simp
      have l2 : (putL off ++ (putL (foldI time) ++ [deadI dead])).length + (putL (key.size : Int)).length + key.size = (putL off ++ (putL (foldI time) ++ (deadI dead :: (putL key.size ++ ints key)))).length := by
        simp only [List.length_append, List.length_cons, List.length_nil, ints_length]; omega
      rw [e4, l2, part_short _ _ val 2000 _ (by omega) (by omega) (by omega)]
      simp

/-! ### Bytes that are read are those that are written -/
theorem part_back {bs : List Int} {i : Nat} {most : Int} {s : ByteArray} {j : Int} (hb : ∀ c ∈ bs, 0 ≤ c ∧ c ≤ 255) (hi : i ≤ bs.length) (h : partR bs i most = (s, j, 0)) :
    j = ((i + (putL s.size).length + s.size : Nat) : Int) ∧ ∃ rest, bs.drop i = putL s.size ++ (ints s ++ rest) := by
  unfold partR at h
  have hb2 : ∀ c ∈ bs.drop i, 0 ≤ c ∧ c ≤ 255 := fun c hc => hb c (List.mem_of_mem_drop hc)
  obtain ⟨x, k, e, hg⟩ : ∃ x k e, getR (bs.drop i) = (x, k, e) := ⟨_, _, _, rfl⟩
  rw [hg] at h
  simp only at h
  by_cases he : e ≠ 0
  · rw [if_pos he] at h
    simp only [Prod.mk.injEq] at h
    exact absurd h.2.2 he
  rw [if_neg he] at h
  obtain rfl : e = 0 := by omega
  obtain ⟨hx0, hx1, hk, rest, hd⟩ := getR_back hb2 hg
  by_cases h1 : most < x
  · rw [if_pos h1] at h; simp at h
  rw [if_neg h1] at h
  by_cases h2 : (bs.length : Int) - (i + k) < x
  · rw [if_pos h2] at h; simp at h
  rw [if_neg h2] at h
  simp only [Prod.mk.injEq, and_true] at h
  have hkn : k.toNat = (putL x).length := by omega
  have hrest : bs.drop (i + k.toNat) = rest := by
    rw [← List.drop_drop, hd, hkn, List.drop_left]
  have hlen : rest.length = bs.length - i - (putL x).length := by
    have := congrArg List.length hd
    rw [List.length_drop, List.length_append] at this
    omega
  have hbr : ∀ c ∈ rest.take x.toNat, 0 ≤ c ∧ c ≤ 255 := fun c hc => hb2 c (by rw [hd]; exact List.mem_append_right _ (List.mem_of_mem_take hc))
  rw [hrest] at h
  have hs : (s.size : Int) = x := by
    rw [← h.1, textOf_size, List.length_take]
    omega
  refine ⟨by rw [← h.2, hk, hs]; omega, rest.drop x.toNat, ?_⟩
  rw [hd, ← h.1, ints_textOf _ hbr, textOf_size, List.length_take, List.take_append_drop]
  congr 2
  omega
theorem getRec_back {bs : List Int} {r : Rec} {n : Int} (hb : ∀ c ∈ bs, 0 ≤ c ∧ c ≤ 255) (h : getRec bs = (r, n, 0)) :
    r.right ∧ n = (recL r).length ∧ ∃ rest, bs = recL r ++ rest := by
  unfold getRec at h
  obtain ⟨x, k, e, hg⟩ : ∃ x k e, getR bs = (x, k, e) := ⟨_, _, _, rfl⟩
  rw [hg] at h
  simp only at h
  by_cases he : e ≠ 0
  · rw [if_pos he] at h
    simp only [Prod.mk.injEq] at h
    exact absurd h.2.2 he
  rw [if_neg he] at h
  obtain rfl : e = 0 := by omega
  obtain ⟨hx0, hx1, hk, rest, hd⟩ := getR_back hb hg
  by_cases h1 : 1125899906842624 < x
  · rw [if_pos h1] at h; simp at h
  rw [if_neg h1] at h
  have hkn : k.toNat = (putL x).length := by omega
  unfold getT at h
  rw [hkn] at h
  have hdr : bs.drop (putL x).length = rest := by rw [hd, List.drop_left]
  rw [hdr] at h
  have hbr : ∀ c ∈ rest, 0 ≤ c ∧ c ≤ 255 := fun c hc => hb c (by rw [hd]; exact List.mem_append_right _ hc)
  obtain ⟨t, k2, e2, hg2⟩ : ∃ x k e, getR rest = (x, k, e) := ⟨_, _, _, rfl⟩
  rw [hg2] at h
  simp only at h
  by_cases he2 : e2 ≠ 0
  · rw [if_pos he2] at h
    simp only [Prod.mk.injEq] at h
    exact absurd h.2.2 he2
  rw [if_neg he2] at h
  obtain rfl : e2 = 0 := by omega
  obtain ⟨ht0, ht1, hk2, rest2, hd2⟩ := getR_back hbr hg2
  by_cases h2 : unfoldI t < -1099511627776 ∨ 1099511627776 < unfoldI t
  · rw [if_pos h2] at h; simp at h
  rw [if_neg h2] at h
  have hkn2 : k2.toNat = (putL t).length := by omega
  rw [hkn2] at h
  have hbs : bs = putL x ++ (putL t ++ rest2) := by rw [hd, hd2]
  unfold getD at h
  by_cases h3 : bs.length ≤ (putL x).length + (putL t).length
  · rw [if_pos h3] at h; simp at h
  rw [if_neg h3] at h
  have hl2 : 0 < rest2.length := by
    have := congrArg List.length hbs
    rw [List.length_append, List.length_append] at this
    omega
  obtain ⟨d, rest3, rfl⟩ : ∃ d rest3, rest2 = d :: rest3 := by
    cases rest2 with
    | nil => simp at hl2
    | cons a l => exact ⟨a, l, rfl⟩
  have hdv : bs.getD ((putL x).length + (putL t).length) 0 = d := by
    rw [hbs, ← List.append_assoc, ← List.length_append]
    simp [List.getD]
  have hdb := hb d (by rw [hbs]; simp)
  rw [hdv] at h
  by_cases h4 : 1 < d
  · rw [if_pos h4] at h; simp at h
  rw [if_neg h4] at h
  have hdd : deadI (d == 1) = d := by
    obtain rfl | rfl : d = 0 ∨ d = 1 := by omega
    · rfl
    · rfl
  have hdr3 : bs.drop ((putL x).length + (putL t).length + 1) = rest3 := by
    rw [hbs, ← List.append_assoc, ← List.length_append, ← List.drop_drop, List.drop_left]
    rfl
  unfold getB at h
  obtain ⟨key, j, e3, hp⟩ : ∃ a b c, partR bs ((putL x).length + (putL t).length + 1) 200 = (a, b, c) := ⟨_, _, _, rfl⟩
  rw [hp] at h
  simp only at h
  by_cases he3 : e3 ≠ 0
  · rw [if_pos he3] at h
    simp only [Prod.mk.injEq] at h
    exact absurd h.2.2 he3
  rw [if_neg he3] at h
  obtain rfl : e3 = 0 := by omega
  obtain ⟨hj, rest4, hk4⟩ := part_back hb (by omega) hp
  rw [hdr3] at hk4
  have hjn : j.toNat = (putL x).length + (putL t).length + 1 + (putL key.size).length + key.size := by omega
  rw [hjn] at h
  have hbs2 : bs = (putL x ++ (putL t ++ (d :: (putL key.size ++ ints key)))) ++ rest4 := by
    rw [hbs, hk4]; simp
  have hlen2 : (putL x ++ (putL t ++ (d :: (putL key.size ++ ints key)))).length = (putL x).length + (putL t).length + 1 + (putL key.size).length + key.size := by
    simp only [List.length_append, List.length_cons, ints_length]; omega
  have hdr4 : bs.drop ((putL x).length + (putL t).length + 1 + (putL key.size).length + key.size) = rest4 := by
    rw [← hlen2, hbs2, List.drop_left]
  have hle4 : (putL x).length + (putL t).length + 1 + (putL key.size).length + key.size ≤ bs.length := by
    have := congrArg List.length hbs2
    rw [List.length_append, hlen2] at this
    omega
  obtain ⟨val, j2, e4, hp2⟩ : ∃ a b c, partR bs ((putL x).length + (putL t).length + 1 + (putL key.size).length + key.size) 2000 = (a, b, c) := ⟨_, _, _, rfl⟩
  rw [hp2] at h
  simp only at h
  by_cases he4 : e4 ≠ 0
  · rw [if_pos he4] at h
    simp only [Prod.mk.injEq] at h
    exact absurd h.2.2 he4
  rw [if_neg he4] at h
  obtain rfl : e4 = 0 := by omega
  obtain ⟨hj2, rest5, hk5⟩ := part_back hb hle4 hp2
  rw [hdr4] at hk5
  by_cases hR : (⟨x, unfoldI t, key, val, d == 1⟩ : Rec).right
  · rw [if_pos hR] at h
    simp only [Prod.mk.injEq, and_true] at h
    obtain ⟨rfl, rfl⟩ := h
    have hrec : recL ⟨x, unfoldI t, key, val, d == 1⟩ = putL x ++ (putL t ++ (d :: (putL key.size ++ (ints key ++ (putL val.size ++ ints val))))) := by
      simp only [recL, bodyL, hdd, fold_unfold t ht0]
    refine ⟨hR, ?_, rest5, ?_⟩
    · rw [hj2, hrec]
      simp only [List.length_append, List.length_cons, ints_length]
      omega
    · rw [hrec, hbs2, hk5]
      simp
  · rw [if_neg hR] at h
    simp at h
/-- Other bytes, as many, are not read as that record. -/
theorem other_bytes {bs : List Int} {r : Rec} {q : Rec} {n : Int} (hb : ∀ c ∈ bs, 0 ≤ c ∧ c ≤ 255) (hl : bs.length = (recL r).length) (hne : bs ≠ recL r) (h : getRec bs = (q, n, 0)) : q ≠ r := by
  rintro rfl
  obtain ⟨_, _, rest, hbs⟩ := getRec_back hb h
  have hlen := congrArg List.length hbs
  rw [List.length_append, hl] at hlen
  have h0 : rest = [] := List.eq_nil_of_length_eq_zero (by omega)
  rw [h0, List.append_nil] at hbs
  exact hne hbs
theorem recL_range (r : Rec) (h : r.right) : ∀ c ∈ recL r, 0 ≤ c ∧ c ≤ 255 := by
  obtain ⟨h1, h2, h3, h4, h5, h6, h7, h8⟩ := h
  have hfr := fold_range r.time (by omega) (by omega)
  intro c hc
  simp only [recL, bodyL, List.mem_append, List.mem_cons] at hc
  rcases hc with hc | hc | rfl | hc | hc | hc | hc
  · exact putL_range _ h1 (by omega) c hc
  · exact putL_range _ hfr.1 hfr.2 c hc
  · unfold deadI; split <;> omega
  · exact putL_range _ (by omega) (by omega) c hc
  · exact ints_range _ c hc
  · exact putL_range _ (by omega) (by omega) c hc
  · exact ints_range _ c hc
theorem recL_length (r : Rec) (h : r.right) : 1 ≤ (recL r).length ∧ (recL r).length ≤ 2300 := by
  obtain ⟨h1, h2, h3, h4, h5, h6, h7, h8⟩ := h
  have a := putL_length r.off
  have b := putL_length (foldI r.time)
  have c := putL_length (r.key.size : Int)
  have d := putL_length (r.val.size : Int)
  simp only [recL, bodyL, List.length_append, List.length_cons, ints_length]
  omega
end Go.Proofs.Ytoienjlpncphgaa

namespace Go.Proofs.Ytoienjlpncphgaa

/-- The right ones of records. -/
def goods (l : List Rec) : List Rec := l.filter fun r => decide r.right
theorem goods_right {l : List Rec} {r : Rec} (h : r ∈ goods l) : r.right := by
  unfold goods at h
  simpa using (List.mem_filter.1 h).2
theorem goods_snoc (l : List Rec) (i : Nat) (h : i < l.length) (hr : l[i].right) : goods (l.take (i + 1)) = goods (l.take i) ++ [l[i]] := by
  unfold goods
  rw [List.take_succ_eq_append_getElem h, List.filter_append]
  simp [hr]
theorem goods_skip (l : List Rec) (i : Nat) (h : i < l.length) (hr : ¬ l[i].right) : goods (l.take (i + 1)) = goods (l.take i) := by
  unfold goods
  rw [List.take_succ_eq_append_getElem h, List.filter_append]
  simp [hr]
/-- The frames of records. -/
def segF (l : List Rec) : List Int := l.flatMap fun r => frameL (recL r)
/-- A segment's bytes. -/
def segL (l : List Rec) : List Int := segF (goods l)
theorem segF_cons (r : Rec) (l : List Rec) : segF (r :: l) = frameL (recL r) ++ segF l := by unfold segF; rw [List.flatMap_cons]
theorem segF_append (a b : List Rec) : segF (a ++ b) = segF a ++ segF b := by unfold segF; rw [List.flatMap_append]
theorem segF_snoc (l : List Rec) (i : Nat) (h : i < l.length) : segF (l.take (i + 1)) = segF (l.take i) ++ frameL (recL l[i]) := by
  rw [List.take_succ_eq_append_getElem h, segF_append]
  simp [segF]
theorem segL_snoc (l : List Rec) (i : Nat) (h : i < l.length) (hr : l[i].right) : segL (l.take (i + 1)) = segL (l.take i) ++ frameL (recL l[i]) := by
  unfold segL
  rw [goods_snoc l i h hr, segF_append]
  simp [segF]
theorem segL_skip (l : List Rec) (i : Nat) (h : i < l.length) (hr : ¬ l[i].right) : segL (l.take (i + 1)) = segL (l.take i) := by
  unfold segL
  rw [goods_skip l i h hr]
theorem goods_all {l : List Rec} (h : ∀ r ∈ l, r.right) : goods l = l := by
  unfold goods
  exact List.filter_eq_self.2 fun r hr => by simpa using h r hr
theorem frame_rec_length (r : Rec) (h : r.right) : 1 ≤ (frameL (recL r)).length ∧ (frameL (recL r)).length ≤ 2400 := by
  have h1 := recL_length r h
  have h2 := frameL_length (recL r)
  have h3 := putL_length ((recL r).length : Int)
  omega
theorem segF_length (l : List Rec) (h : ∀ r ∈ l, r.right) : (segF l).length ≤ 2400 * l.length := by
  induction l with
  | nil => simp [segF]
  | cons r l ih =>
    have h1 := frame_rec_length r (h r (List.mem_cons_self ..))
    have h2 := ih fun q hq => h q (List.mem_cons_of_mem _ hq)
    rw [segF_cons, List.length_append, List.length_cons]
    omega
theorem goods_length (l : List Rec) : (goods l).length ≤ l.length := List.length_filter_le _ _
theorem segL_length (l : List Rec) : (segL l).length ≤ 2400 * l.length := by
  have h1 := segF_length (goods l) fun r hr => goods_right hr
  have h2 := goods_length l
  unfold segL
  omega
theorem segF_range (l : List Rec) (h : ∀ r ∈ l, r.right) : ∀ c ∈ segF l, 0 ≤ c ∧ c ≤ 255 := by
  intro c hc
  unfold segF at hc
  obtain ⟨r, hr, hc⟩ := List.mem_flatMap.1 hc
  exact frameL_range _ (recL_range r (h r hr)) (by have := recL_length r (h r hr); omega) c hc

/-- The offset of the last one. -/
def lastO (l : List Rec) : Option Int := l.getLast?.map Rec.off
theorem lastO_snoc (l : List Rec) (r : Rec) : lastO (l ++ [r]) = some r.off := by simp [lastO]
/-- Does this offset not rise? -/
def falls (last : Option Int) (o : Int) : Bool := match last with
  | some x => decide (o ≤ x)
  | none => false
/-- The record that bytes begin with, behind one of that offset, and how many bytes its frame has. -/
def stepM (last : Option Int) (bs : List Int) : Option (Rec × Nat) :=
  if bs = [] then none
  else if (getFr bs).2.2 ≠ 0 then none
  else if (getRec (getFr bs).1).2.2 ≠ 0 then none
  else if (getRec (getFr bs).1).2.1 ≠ ((getFr bs).1.length : Int) then none
  else if falls last (getRec (getFr bs).1).1.off = true then none
  else some ((getRec (getFr bs).1).1, (getFr bs).2.1.toNat)
/-- Which records bytes begin with, and how many bytes these have. -/
inductive SegIs : Option Int → List Int → List Rec → Nat → Prop
  | stop {last : Option Int} {bs : List Int} (h : stepM last bs = none) : SegIs last bs [] 0
  | next {last : Option Int} {bs : List Int} {r : Rec} {n : Nat} {rs : List Rec} {k : Nat} (h : stepM last bs = some (r, n)) (hr : SegIs (some r.off) (bs.drop n) rs k) : SegIs last bs (r :: rs) (n + k)
theorem SegIs.one {last : Option Int} {bs : List Int} {rs qs : List Rec} {k m : Nat} (h : SegIs last bs rs k) (h' : SegIs last bs qs m) : rs = qs ∧ k = m := by
  induction h generalizing qs m with
  | stop h =>
    cases h' with
    | stop _ => exact ⟨rfl, rfl⟩
    | next h2 _ => rw [h] at h2; cases h2
  | next h _ ih =>
    cases h' with
    | stop h2 => rw [h] at h2; cases h2
    | next h2 h3 =>
      rw [h] at h2
      simp only [Option.some.injEq, Prod.mk.injEq] at h2
      obtain ⟨rfl, rfl⟩ := h2
      obtain ⟨rfl, rfl⟩ := ih h3
      exact ⟨rfl, rfl⟩
/-- How far the reading has come. -/
def SegAt (bs : List Int) (pre : List Rec) (k : Nat) : Prop := ∀ rs m, SegIs (lastO pre) (bs.drop k) rs m → SegIs none bs (pre ++ rs) (k + m)
theorem lastO_nil : lastO [] = none := rfl
theorem SegAt.start (bs : List Int) : SegAt bs [] 0 := fun rs m h => by rw [lastO_nil] at h; simpa using h
theorem SegAt.next {bs : List Int} {pre : List Rec} {k n : Nat} {r : Rec} (h : SegAt bs pre k) (hs : stepM (lastO pre) (bs.drop k) = some (r, n)) : SegAt bs (pre ++ [r]) (k + n) := fun rs m hm => by
  rw [lastO_snoc] at hm
  have := h (r :: rs) (n + m) (.next hs (by rw [List.drop_drop]; exact hm))
  rw [List.append_assoc, Nat.add_assoc]
  exact this
theorem SegAt.stop {bs : List Int} {pre : List Rec} {k : Nat} (h : SegAt bs pre k) (hs : stepM (lastO pre) (bs.drop k) = none) : SegIs none bs pre k := by
  simpa using h [] 0 (.stop hs)
theorem stepM_nil (last : Option Int) : stepM last [] = none := by unfold stepM; rw [if_pos rfl]
theorem SegAt.over {bs : List Int} {pre : List Rec} {k : Nat} (h : SegAt bs pre k) (hk : bs.length ≤ k) : SegIs none bs pre k :=
  h.stop (by rw [List.drop_eq_nil_of_le hk]; exact stepM_nil _)
theorem stepM_fr {last : Option Int} {bs : List Int} (h : (getFr bs).2.2 ≠ 0) : stepM last bs = none := by
  unfold stepM
  rw [if_pos h]
  split <;> rfl
/-- A frame, and what is in it. -/
theorem stepM_of {last : Option Int} {bs p : List Int} {n : Nat} (h0 : bs ≠ []) (hg : getFr bs = (p, (n : Int), 0)) :
    stepM last bs = if (getRec p).2.2 ≠ 0 then none else if (getRec p).2.1 ≠ (p.length : Int) then none else if falls last (getRec p).1.off = true then none else some ((getRec p).1, n) := by
  unfold stepM
  rw [if_neg h0, hg]
  simp

/-! What was written is read. -/
/-- The offsets rise. -/
def Up : Option Int → List Rec → Prop
  | _, [] => True
  | last, r :: l => falls last r.off = false ∧ Up (some r.off) l
theorem step_put {last : Option Int} {r : Rec} (hr : r.right) (hf : falls last r.off = false) (more : List Int) : stepM last (frameL (recL r) ++ more) = some (r, (frameL (recL r)).length) := by
  have h1 := recL_length r hr
  have hg := getFr_frame (recL r) more (by omega)
  have hp := getRec_put r [] hr
  rw [List.append_nil] at hp
  have h2 := (frame_rec_length r hr).1
  rw [stepM_of (by intro h0; have := congrArg List.length h0; rw [List.length_append, List.length_nil] at this; omega) hg, hp]
  simp [hf]
theorem seg_row (l : List Rec) (t : List Int) (last : Option Int) (h : ∀ r ∈ l, r.right) (hu : Up last l) (ht : ∀ x, stepM x t = none) : SegIs last (segF l ++ t) l (segF l).length := by
  induction l generalizing last with
  | nil => simpa [segF] using SegIs.stop (ht last)
  | cons r l ih =>
    rw [segF_cons, List.append_assoc, List.length_append]
    refine .next (step_put (h r (List.mem_cons_self ..)) hu.1 _) ?_
    rw [List.drop_left]
    exact ih _ (fun q hq => h q (List.mem_cons_of_mem _ hq)) hu.2
theorem seg_whole (l : List Rec) (h : ∀ r ∈ l, r.right) (hu : Up none l) : SegIs none (segF l) l (segF l).length := by simpa using seg_row l [] none h hu stepM_nil
theorem Up.take {last : Option Int} {l : List Rec} (h : Up last l) (n : Nat) : Up last (l.take n) := by
  induction l generalizing last n with
  | nil => rw [List.take_nil]; trivial
  | cons r l ih =>
    cases n with
    | zero => trivial
    | succ n => exact ⟨h.1, ih h.2 n⟩
/-- How many whole ones the first n bytes have. -/
theorem whole_of (l : List Rec) (n : Nat) (hn : n ≤ (segF l).length) : ∃ j, j ≤ l.length ∧ (segF (l.take j)).length ≤ n ∧ (j = l.length ∨ n < (segF (l.take (j + 1))).length) := by
  induction l generalizing n with
  | nil => exact ⟨0, Nat.le_refl _, by simp [segF], .inl rfl⟩
  | cons r l ih =>
    by_cases hlt : n < (frameL (recL r)).length
    · refine ⟨0, Nat.zero_le _, by simp [segF], .inr ?_⟩
      rw [List.take_succ_cons, List.take_zero, segF_cons]
      rw [List.length_append]
      omega
    · rw [segF_cons, List.length_append] at hn
      obtain ⟨j, h1, h2, h3⟩ := ih (n - (frameL (recL r)).length) (by omega)
      refine ⟨j + 1, by rw [List.length_cons]; omega, ?_, ?_⟩
      · rw [List.take_succ_cons, segF_cons, List.length_append]
        omega
      · rcases h3 with h3 | h3
        · exact .inl (by rw [List.length_cons, h3])
        · refine .inr ?_
          rw [List.take_succ_cons, segF_cons, List.length_append]
          omega
theorem seg_torn (l : List Rec) (n j : Nat) (h : ∀ r ∈ l, r.right) (hu : Up none l) (hj : j ≤ l.length) (h0 : (segF (l.take j)).length ≤ n) (hn : n ≤ (segF l).length) (h1 : j = l.length ∨ n < (segF (l.take (j + 1))).length) :
    SegIs none ((segF l).take n) (l.take j) (segF (l.take j)).length := by
  rcases h1 with h1 | h1
  · subst h1
    rw [List.take_length] at h0 ⊢
    have : n = (segF l).length := by omega
    rw [this, List.take_length]
    exact seg_whole l h hu
  · by_cases hlt : j < l.length
    · have e : segF l = segF (l.take j) ++ (frameL (recL l[j]) ++ segF (l.drop (j + 1))) := by
        conv => lhs; rw [← List.take_append_drop j l, List.drop_eq_getElem_cons hlt, segF_append, segF_cons]
      have hf : n - (segF (l.take j)).length < (frameL (recL l[j])).length := by
        rw [segF_snoc l j hlt, List.length_append] at h1
        omega
      have e2 : (segF l).take n = segF (l.take j) ++ (frameL (recL l[j])).take (n - (segF (l.take j)).length) := by
        conv => lhs; rw [e]
        rw [take_past h0, take_front (by omega)]
      rw [e2]
      have hr := h _ (List.getElem_mem hlt)
      have h2 := recL_length l[j] hr
      exact seg_row _ _ none (fun r hr => h r (List.mem_of_mem_take hr)) (hu.take j) fun x => stepM_fr (by rw [getFr_front _ _ (by omega) hf]; decide)
    · obtain rfl : j = l.length := by omega
      rw [List.take_length] at h0 ⊢
      have : n = (segF l).length := by omega
      rw [this, List.take_length]
      exact seg_whole l h hu

/-! Which records stand from an offset on. -/
def fromM (l : List Rec) (offset max : Int) : List Rec := (l.filter fun r => decide (offset ≤ r.off)).take max.toNat
section
variable {l : List Rec} {offset max : Int} {i : Nat}
theorem take_front' {a b : List Rec} {n : Nat} (h : n ≤ a.length) : (a ++ b).take n = a.take n := by rw [List.take_append, show n - a.length = 0 by omega, List.take_zero, List.append_nil]
theorem from_nil : fromM [] offset max = [] := by simp [fromM]
theorem from_length (l : List Rec) (offset max : Int) : (fromM l offset max).length ≤ l.length ∧ (0 ≤ max → ((fromM l offset max).length : Int) ≤ max) := by
  unfold fromM
  rw [List.length_take]
  have := List.length_filter_le (fun r : Rec => decide (offset ≤ r.off)) l
  omega
theorem from_skip (h : i < l.length) (ho : ¬ offset ≤ l[i].off) : fromM (l.take (i + 1)) offset max = fromM (l.take i) offset max := by
  unfold fromM
  rw [List.take_succ_eq_append_getElem h, List.filter_append]
  simp [ho]
theorem from_snoc (h : i < l.length) (ho : offset ≤ l[i].off) (hm : ((fromM (l.take i) offset max).length : Int) < max) : fromM (l.take (i + 1)) offset max = fromM (l.take i) offset max ++ [l[i]] := by
  unfold fromM at hm ⊢
  rw [List.length_take] at hm
  rw [List.take_succ_eq_append_getElem h, List.filter_append]
  have e : [l[i]].filter (fun r : Rec => decide (offset ≤ r.off)) = [l[i]] := by simp [ho]
  rw [e]
  generalize (l.take i).filter (fun r : Rec => decide (offset ≤ r.off)) = F at *
  have hx : F.length < max.toNat := by
    rcases Nat.le_total max.toNat F.length with hx | hx
    · rw [Nat.min_eq_left hx] at hm; omega
    · rw [Nat.min_eq_right hx] at hm; omega
  rw [List.take_of_length_le (by rw [List.length_append, List.length_singleton]; omega), List.take_of_length_le (by omega)]
theorem from_full (i : Nat) (hm : max ≤ ((fromM (l.take i) offset max).length : Int)) : fromM l offset max = fromM (l.take i) offset max := by
  unfold fromM at hm ⊢
  rw [List.length_take] at hm
  conv => lhs; rw [← List.take_append_drop i l, List.filter_append]
  rw [take_front' (by omega)]
theorem from_all (h : l.length ≤ i) : fromM (l.take i) offset max = fromM l offset max := by rw [List.take_of_length_le h]
end
/-- Offsets that rise, each above all ahead of it. -/
def Rises (l : List Rec) : Prop := l.Pairwise fun a b => a.off < b.off
theorem rises_from {W : List Rec} (h : Rises W) (k : Nat) (hk : k < W.length) : W.filter (fun r => decide (W[k].off + 1 ≤ r.off)) = W.drop (k + 1) := by
  induction W generalizing k with
  | nil => simp at hk
  | cons a t ih =>
    obtain ⟨h1, h2⟩ := List.pairwise_cons.1 h
    cases k with
    | zero =>
      rw [List.filter_cons, if_neg (by simp only [List.getElem_cons_zero, decide_eq_true_eq]; omega), List.drop_succ_cons, List.drop_zero]
      refine List.filter_eq_self.2 fun r hr => ?_
      have := h1 r hr
      simp only [List.getElem_cons_zero, decide_eq_true_eq]
      omega
    | succ k =>
      have hk' : k < t.length := by simpa using hk
      have h3 := h1 _ (List.getElem_mem hk')
      rw [List.filter_cons, if_neg (by simp only [List.getElem_cons_succ, decide_eq_true_eq]; omega), List.drop_succ_cons]
      simp only [List.getElem_cons_succ]
      exact ih h2 k hk'
/-- How far one has come who reads on from where he is told to. -/
structure Reading (all W : List Rec) (at_ : Int) (c : Nat) : Prop where
  le : c ≤ W.length
  rest : all.filter (fun r => decide (at_ ≤ r.off)) = W.drop c
theorem Reading.start (all : List Rec) (offset : Int) : Reading all (all.filter fun r => decide (offset ≤ r.off)) offset 0 := ⟨Nat.zero_le _, by simp⟩
theorem Reading.told {all W : List Rec} {at_ : Int} {c : Nat} (h : Reading all W at_ c) (max : Int) : fromM all at_ max = (W.drop c).take max.toNat := by unfold fromM; rw [h.rest]
theorem Reading.next {all : List Rec} {offset at_ max : Int} {c : Nat} (hr : Rises all) (h : Reading all (all.filter fun r => decide (offset ≤ r.off)) at_ c) {m : List Rec} (hm : fromM all at_ max = m) (h0 : m ≠ []) :
    Reading all (all.filter fun r => decide (offset ≤ r.off)) ((m.getLast h0).off + 1) (c + m.length) ∧ (all.filter fun r => decide (offset ≤ r.off)).take c ++ m = (all.filter fun r => decide (offset ≤ r.off)).take (c + m.length) := by
  have ht := h.told max
  rw [hm] at ht
  have hl := h.le
  have hin : ∀ r ∈ all.filter (fun r => decide (offset ≤ r.off)), offset ≤ r.off := fun r hr => by simpa using (List.mem_filter.1 hr).2
  have hWr : Rises (all.filter fun r => decide (offset ≤ r.off)) := List.Pairwise.sublist List.filter_sublist hr
  have hff : ∀ b, offset ≤ b → all.filter (fun r => decide (b ≤ r.off)) = (all.filter fun r => decide (offset ≤ r.off)).filter (fun r => decide (b ≤ r.off)) := fun b hb => by
    rw [List.filter_filter]
    refine List.filter_congr fun r _ => ?_
    by_cases h1 : b ≤ r.off
    · rw [decide_eq_true h1, decide_eq_true (show offset ≤ r.off by omega)]; rfl
    · rw [decide_eq_false h1]; rfl
  generalize (all.filter fun r => decide (offset ≤ r.off)) = W at *
  have hml : m.length ≤ W.length - c := by rw [ht, List.length_take, List.length_drop]; omega
  have hm1 : 0 < m.length := List.length_pos_iff.2 h0
  have hmt : m = (W.drop c).take m.length := by
    conv => lhs; rw [ht]
    rw [ht, List.length_take]
    by_cases hx : max.toNat ≤ (W.drop c).length
    · rw [Nat.min_eq_left hx]
    · rw [Nat.min_eq_right (by omega), List.take_of_length_le (by omega), List.take_length]
  have hk : c + m.length - 1 < W.length := by omega
  have hlast : m.getLast h0 = W[c + m.length - 1] := by
    have e1 : m.getLast h0 = m[m.length - 1] := List.getLast_eq_getElem h0
    have e2 : ∀ j (hj : j < m.length), m[j] = W[c + j]'(by omega) := fun j hj => by
      have : m[j]? = some (W[c + j]'(by omega)) := by
        have hq : m[j]? = ((W.drop c).take m.length)[j]? := congrArg (·[j]?) hmt
        rw [hq, List.getElem?_take_of_lt hj, List.getElem?_drop, List.getElem?_eq_getElem]
      rw [List.getElem?_eq_getElem hj] at this
      exact Option.some.inj this
    rw [e1, e2 _ (by omega)]
    congr 1
    omega
  refine ⟨⟨by omega, ?_⟩, ?_⟩
  · rw [hlast]
    have h1 := hin _ (List.getElem_mem hk)
    rw [hff _ (by omega), rises_from hWr _ hk]
    congr 1
    omega
  · rw [List.take_add, ← hmt]
/-! Records numbered anew. -/
def numbered (r : Rec) (o : Int) : Rec := ⟨o, r.time, r.key, r.val, r.dead⟩
/-- The n-th one at k n. -/
def renum (k : Int) : Nat → List Rec → List Rec
  | _, [] => []
  | n, r :: l => numbered r (k * n) :: renum k (n + 1) l
theorem renum_length (k : Int) (n : Nat) (l : List Rec) : (renum k n l).length = l.length := by
  induction l generalizing n with
  | nil => rfl
  | cons r l ih => simp [renum, ih]
theorem renum_snoc (k : Int) (n : Nat) (l : List Rec) (r : Rec) : renum k n (l ++ [r]) = renum k n l ++ [numbered r (k * (n + l.length : Nat))] := by
  induction l generalizing n with
  | nil => simp [renum]
  | cons a l ih =>
    rw [List.cons_append, renum, renum, ih, List.cons_append]
    rw [show n + 1 + l.length = n + (a :: l).length by rw [List.length_cons]; omega]
theorem renum_take (k : Int) (l : List Rec) (i : Nat) (h : i < l.length) : renum k 0 (l.take (i + 1)) = renum k 0 (l.take i) ++ [numbered l[i] (k * (i : Nat))] := by
  rw [List.take_succ_eq_append_getElem h, renum_snoc, List.length_take, Nat.min_eq_left (by omega), Nat.zero_add]
theorem renum_above {k : Int} (hk : 0 < k) (n : Nat) (l : List Rec) : ∀ r ∈ renum k n l, k * n ≤ r.off := by
  induction l generalizing n with
  | nil => intro r hr; cases hr
  | cons a l ih =>
    intro r hr
    rw [renum] at hr
    rcases List.mem_cons.1 hr with e | hr
    · rw [e]; exact Int.le_refl _
    · have h1 := ih (n + 1) r hr
      have h2 : k * ((n + 1 : Nat) : Int) = k * n + k := by rw [Int.natCast_add, Int.mul_add]; simp
      omega
theorem renum_rises {k : Int} (hk : 0 < k) (n : Nat) (l : List Rec) : Rises (renum k n l) := by
  induction l generalizing n with
  | nil => exact List.Pairwise.nil
  | cons a l ih =>
    rw [renum]
    refine List.pairwise_cons.2 ⟨fun r hr => ?_, ih (n + 1)⟩
    have h1 := renum_above hk (n + 1) l r hr
    have h2 : k * ((n + 1 : Nat) : Int) = k * n + k := by rw [Int.natCast_add, Int.mul_add]; simp
    show k * n < r.off
    omega
theorem Rises.goods {l : List Rec} (h : Rises l) : Rises (goods l) := List.Pairwise.sublist List.filter_sublist h
theorem up_of {l : List Rec} (h : Rises l) : ∀ last, (∀ x, last = some x → ∀ r ∈ l, x < r.off) → Up last l := by
  induction l with
  | nil => intro _ _; trivial
  | cons a t ih =>
    intro last hl
    obtain ⟨h1, h2⟩ := List.pairwise_cons.1 h
    refine ⟨?_, ih h2 _ fun x hx r hr => ?_⟩
    · cases last with
      | none => rfl
      | some x =>
        have := hl x rfl a (List.mem_cons_self ..)
        simp [falls]
        omega
    · injection hx with hx
      subst hx
      exact h1 r hr
theorem Rises.up {l : List Rec} (h : Rises l) : Up none l := up_of h none fun _ h => by cases h
end Go.Proofs.Ytoienjlpncphgaa

namespace Go.Proofs.Ytoienjlpncphgaa

structure MarkM where
  off : Int
  time : Int
  pos : Int
/-- The place of the last one that is so (none: 0). -/
def lastPos (p : MarkM → Bool) (ms : List MarkM) : Int := ((ms.filter p).getLast?.map MarkM.pos).getD 0
theorem lastPos_nil (p : MarkM → Bool) : lastPos p [] = 0 := rfl
theorem lastPos_yes {p : MarkM → Bool} {ms : List MarkM} {i : Nat} (h : i < ms.length) (hp : p ms[i] = true) : lastPos p (ms.take (i + 1)) = ms[i].pos := by
  unfold lastPos
  rw [List.take_succ_eq_append_getElem h, List.filter_append]
  simp [hp]
theorem lastPos_no {p : MarkM → Bool} {ms : List MarkM} {i : Nat} (h : i < ms.length) (hp : ¬ p ms[i] = true) : lastPos p (ms.take (i + 1)) = lastPos p (ms.take i) := by
  unfold lastPos
  rw [List.take_succ_eq_append_getElem h, List.filter_append]
  simp [hp]
def seekM (ms : List MarkM) (n : Int) : Int := lastPos (fun m => decide (m.off ≤ n)) ms
def seekTM (ms : List MarkM) (n : Int) : Int := lastPos (fun m => decide (m.time < n)) ms
/-- A place, or the beginning where there is none. -/
def place (pos : Int) (len : Nat) : Nat := if 0 ≤ pos ∧ pos ≤ (len : Int) then pos.toNat else 0
theorem place_le (pos : Int) (len : Nat) : place pos len ≤ len := by unfold place; split <;> omega
def geO (n : Int) (r : Rec) : Bool := decide (n ≤ r.off)
def geT (n : Int) (r : Rec) : Bool := decide (n ≤ r.time)
theorem find_skip {p : Rec → Bool} {l : List Rec} {i : Nat} (h : i < l.length) (h0 : (l.take i).find? p = none) (hp : ¬ p l[i] = true) : (l.take (i + 1)).find? p = none := by
  rw [List.take_succ_eq_append_getElem h, List.find?_append, h0]
  simp [hp]
theorem find_here {p : Rec → Bool} {l : List Rec} {i : Nat} (h : i < l.length) (h0 : (l.take i).find? p = none) (hp : p l[i] = true) : l.find? p = some l[i] := by
  conv => lhs; rw [← List.take_append_drop (i + 1) l, List.find?_append, List.take_succ_eq_append_getElem h, List.find?_append, h0]
  simp [hp]

/-! Which marks there are. -/
def leastT : Int := -1099511627777
def mostT (l : List Rec) : Int := l.foldl (fun t r => if t < r.time then r.time else t) leastT
theorem mostT_snoc (l : List Rec) (r : Rec) : mostT (l ++ [r]) = if mostT l < r.time then r.time else mostT l := by unfold mostT; rw [List.foldl_append]; rfl
def markAt (l : List Rec) (j : Nat) (r : Rec) : MarkM := ⟨r.off, mostT (l.take j), ((segF (l.take j)).length : Nat)⟩
/-- The marks of records, one for the first and each every-th one behind it. -/
def marksM (every : Nat) : List Rec → Nat → List MarkM
  | _, 0 => []
  | l, n + 1 => marksM every l n ++ (if h : n < l.length then (if n % every = 0 then [markAt l n l[n]] else []) else [])
def makeM (every : Nat) (l : List Rec) : List MarkM := marksM every l l.length
theorem marksM_front (every : Nat) (a b : List Rec) : ∀ n, n ≤ a.length → marksM every (a ++ b) n = marksM every a n
  | 0, _ => rfl
  | n + 1, h => by
    have hn : n < a.length := by omega
    have hn2 : n < (a ++ b).length := by rw [List.length_append]; omega
    unfold marksM
    rw [marksM_front every a b n (by omega), dif_pos hn, dif_pos hn2]
    unfold markAt
    rw [List.getElem_append_left hn, List.take_append_of_le_length (by omega)]
theorem makeM_snoc (every : Nat) (l : List Rec) (r : Rec) : makeM every (l ++ [r]) = makeM every l ++ (if l.length % every = 0 then [⟨r.off, mostT l, ((segF l).length : Nat)⟩] else []) := by
  unfold makeM
  rw [List.length_append, List.length_singleton]
  conv => lhs; unfold marksM
  rw [marksM_front every l [r] l.length (Nat.le_refl _), dif_pos (by rw [List.length_append, List.length_singleton]; omega)]
  unfold markAt
  simp
theorem makeM_length (every : Nat) (l : List Rec) : (makeM every l).length ≤ l.length := by
  unfold makeM
  suffices h : ∀ n, (marksM every l n).length ≤ n from h _
  intro n
  induction n with
  | zero => simp [marksM]
  | succ n ih =>
    unfold marksM
    rw [List.length_append]
    split
    · split <;> simp <;> omega
    · simp; omega
/-- How many there are, and which is which. -/
theorem marksM_at (every : Nat) (he : 0 < every) (l : List Rec) : ∀ n, n ≤ l.length → (marksM every l n).length = (n + every - 1) / every ∧ ∀ i (h : i < (marksM every l n).length), ∃ h' : i * every < l.length, i * every < n ∧ (marksM every l n)[i] = markAt l (i * every) l[i * every]
  | 0, _ => ⟨by rw [show marksM every l 0 = [] from rfl, List.length_nil, Nat.div_eq_of_lt (by omega)], fun i h => by simp [marksM] at h⟩
  | n + 1, hn => by
    obtain ⟨h1, h2⟩ := marksM_at every he l n (by omega)
    have hlt : n < l.length := by omega
    by_cases hz : n % every = 0
    · have e : marksM every l (n + 1) = marksM every l n ++ [markAt l n l[n]] := by
        conv => lhs; unfold marksM
        rw [dif_pos hlt, if_pos hz]
      obtain ⟨q, hq⟩ : ∃ q, n = q * every := ⟨n / every, by rw [Nat.mul_comm]; have := Nat.div_add_mod n every; omega⟩
      have hd1 : (n + every - 1) / every = q := by
        rw [hq]
        rw [show q * every + every - 1 = (every - 1) + q * every by omega, Nat.add_mul_div_right _ _ he, Nat.div_eq_of_lt (by omega)]
        omega
      have hd2 : (n + 1 + every - 1) / every = q + 1 := by
        rw [hq]
        rw [show q * every + 1 + every - 1 = (q + 1) * every by rw [Nat.add_mul]; omega, Nat.mul_div_cancel _ he]
      rw [hd1] at h1
      refine ⟨by rw [e, List.length_append, h1, hd2]; rfl, fun i h => ?_⟩
      simp only [e] at h ⊢
      by_cases hi : i < (marksM every l n).length
      · obtain ⟨h', h3, h4⟩ := h2 i hi
        exact ⟨h', by omega, by rw [List.getElem_append_left hi]; exact h4⟩
      · have hiq : i = q := by rw [List.length_append, List.length_singleton] at h; omega
        subst hiq
        refine ⟨by omega, by omega, ?_⟩
        rw [List.getElem_append_right (by omega)]
        simp only [hq, List.getElem_singleton]
    · have e : marksM every l (n + 1) = marksM every l n := by
        conv => lhs; unfold marksM
        rw [dif_pos hlt, if_neg hz, List.append_nil]
      have hd : (n + 1 + every - 1) / every = (n + every - 1) / every := by
        have h0 := Nat.div_add_mod n every
        have h3 := Nat.mod_lt n he
        obtain ⟨q, hq⟩ : ∃ q, n / every = q := ⟨_, rfl⟩
        obtain ⟨m, hm⟩ : ∃ m, n % every = m := ⟨_, rfl⟩
        rw [hq, hm] at h0
        rw [hm] at h3 hz
        rw [← h0]
        rw [show every * q + m + 1 + every - 1 = m + (q + 1) * every by rw [Nat.add_mul, Nat.mul_comm]; omega, show every * q + m + every - 1 = (m - 1) + (q + 1) * every by rw [Nat.add_mul, Nat.mul_comm]; omega]
        rw [Nat.add_mul_div_right _ _ he, Nat.add_mul_div_right _ _ he, Nat.div_eq_of_lt h3, Nat.div_eq_of_lt (by omega)]
      refine ⟨by rw [e, h1, hd], fun i h => ?_⟩
      simp only [e] at h ⊢
      obtain ⟨h', h4, h5⟩ := h2 i h
      exact ⟨h', by omega, h5⟩
theorem makeM_at {every : Nat} (he : 0 < every) (l : List Rec) : (makeM every l).length = (l.length + every - 1) / every ∧ ∀ i (h : i < (makeM every l).length), ∃ h' : i * every < l.length, (makeM every l)[i] = markAt l (i * every) l[i * every] := by
  obtain ⟨h1, h2⟩ := marksM_at every he l l.length (Nat.le_refl _)
  exact ⟨h1, fun i h => by obtain ⟨h', _, h3⟩ := h2 i h; exact ⟨h', h3⟩⟩
theorem mostT_ge (l : List Rec) : leastT ≤ mostT l ∧ ∀ r ∈ l, r.time ≤ mostT l := by
  suffices h : ∀ n, n ≤ l.length → leastT ≤ mostT (l.take n) ∧ ∀ r ∈ l.take n, r.time ≤ mostT (l.take n) by
    have := h l.length (Nat.le_refl _)
    rwa [List.take_length] at this
  intro n
  induction n with
  | zero => intro _; exact ⟨by simp [mostT], fun r h => by simp at h⟩
  | succ n ih =>
    intro hn
    obtain ⟨h1, h2⟩ := ih (by omega)
    rw [List.take_succ_eq_append_getElem (by omega), mostT_snoc]
    refine ⟨by split <;> omega, fun r hr => ?_⟩
    rcases List.mem_append.1 hr with hr | hr
    · have := h2 r hr
      split <;> omega
    · rw [List.mem_singleton.1 hr]
      split <;> omega
theorem mostT_mono (l : List Rec) {i j : Nat} (h : i ≤ j) : mostT (l.take i) ≤ mostT (l.take j) := by
  induction j with
  | zero => rw [show i = 0 by omega]; exact Int.le_refl _
  | succ j ih =>
    by_cases hij : i = j + 1
    · rw [hij]; exact Int.le_refl _
    · have h1 := ih (by omega)
      by_cases hj : j < l.length
      · rw [List.take_succ_eq_append_getElem hj, mostT_snoc]
        split <;> omega
      · rw [List.take_of_length_le (show l.length ≤ j + 1 by omega), List.take_of_length_le (show l.length ≤ j by omega)] at *
        exact h1
theorem segF_less (l : List Rec) (h : ∀ r ∈ l, r.right) {i j : Nat} (hij : i < j) (hj : j ≤ l.length) : (segF (l.take i)).length < (segF (l.take j)).length := by
  have e : l.take j = l.take i ++ (l.take j).drop i := by
    conv => lhs; rw [← List.take_append_drop i (l.take j), List.take_take, Nat.min_eq_left (by omega)]
  have hlen : ((l.take j).drop i).length = j - i := by rw [List.length_drop, List.length_take]; omega
  obtain ⟨r, t, hrt⟩ : ∃ r t, (l.take j).drop i = r :: t := by
    cases hc : (l.take j).drop i with
    | nil => rw [hc] at hlen; simp at hlen; omega
    | cons r t => exact ⟨r, t, rfl⟩
  rw [e, hrt, segF_append, segF_cons, List.length_append, List.length_append]
  have hr : r ∈ l := List.mem_of_mem_take (List.mem_of_mem_drop (i := i) (by rw [hrt]; exact List.mem_cons_self ..))
  have := (frame_rec_length r (h r hr)).1
  omega

/-! With its marks, however few, the first one is found as it is without. -/
theorem find_behind {p : Rec → Bool} (l : List Rec) (j : Nat) (h : ∀ r ∈ l.take j, ¬ p r = true) : (l.drop j).find? p = l.find? p := by
  conv => rhs; rw [← List.take_append_drop j l, List.find?_append]
  rw [List.find?_eq_none.2 h]
  rfl
/-- What a mark's place tells: the records from there on. -/
theorem place_mark (l : List Rec) (j : Nat) : (segF l).drop (place ((segF (l.take j)).length : Nat) (segF l).length) = segF (l.drop j) := by
  have hle : (segF (l.take j)).length ≤ (segF l).length := by
    conv => rhs; rw [← List.take_append_drop j l, segF_append, List.length_append]
    omega
  unfold place
  rw [if_pos (by omega), Int.toNat_natCast]
  conv => lhs; rw [← List.take_append_drop j l, segF_append]
  rw [List.take_append_drop, List.drop_left]
theorem lastPos_is {p : MarkM → Bool} (ms : List MarkM) : lastPos p ms = 0 ∨ ∃ i, ∃ h : i < ms.length, p ms[i] = true ∧ lastPos p ms = ms[i].pos := by
  suffices h : ∀ n, n ≤ ms.length → lastPos p (ms.take n) = 0 ∨ ∃ i, ∃ h : i < ms.length, p ms[i] = true ∧ lastPos p (ms.take n) = ms[i].pos by
    have := h ms.length (Nat.le_refl _)
    rwa [List.take_length] at this
  intro n
  induction n with
  | zero => intro _; exact .inl rfl
  | succ n ih =>
    intro hn
    by_cases hp : p ms[n] = true
    · exact .inr ⟨n, by omega, hp, lastPos_yes (by omega) hp⟩
    · rw [lastPos_no (by omega) hp]
      exact ih (by omega)
/-- Marks of a list tell a place that the first one that is so stands behind. -/
theorem found_marks {every : Nat} (he : 0 < every) (l : List Rec) (h : ∀ r ∈ l, r.right) (hr : Rises l) (q : MarkM → Bool) (p : Rec → Bool) (hq : ∀ i (hi : i < l.length), q (markAt l i l[i]) = true → ∀ r ∈ l.take i, ¬ p r = true) {rs : List Rec} {k : Nat}
    (hs : SegIs none ((segF l).drop (place (lastPos q (makeM every l)) (segF l).length)) rs k) : rs.find? p = l.find? p := by
  obtain ⟨h1, h2⟩ := makeM_at he l
  have key : ∃ j, (∀ r ∈ l.take j, ¬ p r = true) ∧ lastPos q (makeM every l) = ((segF (l.take j)).length : Nat) := by
    rcases lastPos_is (p := q) (makeM every l) with h0 | ⟨i, hi, hp, e⟩
    · exact ⟨0, fun r hr => by simp at hr, by rw [h0]; simp [segF]⟩
    · obtain ⟨h', e2⟩ := h2 i hi
      rw [e2] at hp e
      exact ⟨i * every, hq _ h' hp, e⟩
  obtain ⟨j, hj, e⟩ := key
  rw [e, place_mark] at hs
  have hup : Up none (l.drop j) := Rises.up (List.Pairwise.sublist (List.drop_sublist j l) hr)
  obtain ⟨rfl, _⟩ := (seg_whole (l.drop j) (fun r hr => h r (List.mem_of_mem_drop hr)) hup).one hs
  exact find_behind l j hj
theorem rises_lt {l : List Rec} (h : Rises l) {i : Nat} (hi : i < l.length) : ∀ r ∈ l.take i, r.off < l[i].off := by
  intro r hr
  obtain ⟨j, hj, rfl⟩ := List.getElem_of_mem hr
  rw [List.length_take] at hj
  rw [List.getElem_take]
  exact (List.pairwise_iff_getElem.1 h) j i (by omega) hi (by omega)
theorem found_offset {every : Nat} (he : 0 < every) (l : List Rec) (h : ∀ r ∈ l, r.right) (hr : Rises l) (n : Int) {rs : List Rec} {k : Nat} (hs : SegIs none ((segF l).drop (place (seekM (makeM every l) n) (segF l).length)) rs k) : rs.find? (geO n) = l.find? (geO n) :=
  found_marks he l h hr _ _ (fun i hi hq r hm => by
    have h1 := rises_lt hr hi r hm
    have h2 : l[i].off ≤ n := of_decide_eq_true hq
    simp [geO]
    omega) hs
theorem found_time {every : Nat} (he : 0 < every) (l : List Rec) (h : ∀ r ∈ l, r.right) (hr : Rises l) (n : Int) {rs : List Rec} {k : Nat} (hs : SegIs none ((segF l).drop (place (seekTM (makeM every l) n) (segF l).length)) rs k) : rs.find? (geT n) = l.find? (geT n) :=
  found_marks he l h hr _ _ (fun i hi hq r hm => by
    have h1 := (mostT_ge (l.take i)).2 r hm
    have h2 : mostT (l.take i) < n := of_decide_eq_true hq
    simp [geT]
    omega) hs
end Go.Proofs.Ytoienjlpncphgaa
