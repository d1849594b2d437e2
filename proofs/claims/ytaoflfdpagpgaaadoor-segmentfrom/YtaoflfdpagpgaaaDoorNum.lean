/- Plain mathematics of numbers written by seven bits a byte: how a number is written, how it is read, that it comes back. No program is spoken of here. -/
import Derived.Laws.BitsAllLaws
import Derived.Laws.BitsLemmas
import Derived.Laws.Bits128
namespace Go.Proofs.YtaoflfdpagpgaaaDoor

/-- x by seven bits a byte, the low ones first; f: how many bytes may still follow the first. -/
def putF : Nat → Int → List Int
  | 0, x => [x]
  | f + 1, x => if x < 128 then [x] else (x % 128 + 128) :: putF f (x / 128)
def putL (x : Int) : List Int := putF 9 x

theorem putF_small (f : Nat) (x : Int) (h : x < 128) : putF f x = [x] := by
  cases f with
  | zero => rfl
  | succ f => simp [putF, h]
theorem putF_big (f : Nat) (x : Int) (h : 128 ≤ x) : putF (f + 1) x = (x % 128 + 128) :: putF f (x / 128) := by
  have h' : ¬ x < 128 := by omega
  simp [putF, h']
theorem putF_length (f : Nat) (x : Int) : 1 ≤ (putF f x).length ∧ (putF f x).length ≤ f + 1 := by
  induction f generalizing x with
  | zero => simp [putF]
  | succ f ih =>
    by_cases h : x < 128
    · rw [putF_small _ _ h]; simp
    · rw [putF_big _ _ (by omega)]
      have := ih (x / 128)
      simp only [List.length_cons]
      omega
theorem putL_length (x : Int) : 1 ≤ (putL x).length ∧ (putL x).length ≤ 10 := putF_length 9 x

/-- The number that bytes begin with, read from the i-th byte on, acc gathered so far: the number, how many bytes, the error. -/
def getF : Nat → Int → List Int → Int × Int × Int
  | _, _, [] => (0, 0, 4)
  | i, acc, c :: t =>
    if i = 9 ∧ 1 < c then (0, 0, 3)
    else if 128 ≤ c then getF (i + 1) (acc + c % 128 * 128 ^ i) t
    else if c = 0 ∧ 0 < i then (0, 0, 2)
    else (acc + c % 128 * 128 ^ i, (i : Int) + 1, 0)
def getR (bs : List Int) : Int × Int × Int := getF 0 0 bs

theorem pow_pos128 (i : Nat) : (0 : Int) < 128 ^ i := Int.pow_pos (by decide)

/-- What was written is read, whatever stands behind. -/
theorem getF_putF (f : Nat) : ∀ (i : Nat) (acc y : Int) (more : List Int), i + f = 9 → 0 ≤ y → y < 2 * 128 ^ f → (0 < i → 0 < y) →
    getF i acc (putF f y ++ more) = (acc + y * 128 ^ i, (i : Int) + (putF f y).length, 0) := by
  induction f with
  | zero =>
    intro i acc y more hi h0 h1 hp
    obtain rfl : i = 9 := by omega
    have h1' : y < 2 := by simpa using h1
    have hy : 0 < y := hp (by omega)
    obtain rfl : y = 1 := by omega
    simp [putF, getF]
  | succ f ih =>
    intro i acc y more hi h0 h1 hp
    by_cases hs : y < 128
    · rw [putF_small _ _ hs]
      have hi9 : ¬ i = 9 := by omega
      have hc : ¬ 128 ≤ y := by omega
      have hz : ¬ (y = 0 ∧ 0 < i) := by omega
      have hm : y % 128 = y := by omega
      simp [getF, hi9, hc, hz, hm]
    · rw [putF_big _ _ (by omega)]
      have hi9 : ¬ i = 9 := by omega
      have hc : (128 : Int) ≤ y % 128 + 128 := by omega
      have hm : (y % 128 + 128) % 128 = y % 128 := by omega
      have hlt : y / 128 < 2 * 128 ^ f := by
        rw [Int.pow_succ] at h1
        omega
      rw [List.cons_append, getF, if_neg (by simp [hi9]), if_pos hc, hm, ih (i + 1) _ (y / 128) more (by omega) (by omega) hlt (by omega)]
      have he : acc + y % 128 * 128 ^ i + y / 128 * 128 ^ (i + 1) = acc + y * 128 ^ i := by
        have hy : y = 128 * (y / 128) + y % 128 := by omega
        generalize y / 128 = q at hy ⊢
        generalize y % 128 = r at hy ⊢
        subst hy
        rw [Int.pow_succ, Int.add_mul, Int.mul_comm (128 ^ i) 128, ← Int.mul_assoc, Int.mul_comm q 128]
        omega
      rw [he]
      simp only [List.length_cons, Prod.mk.injEq, true_and, and_true]
      omega

theorem getR_putL (x : Int) (more : List Int) (h0 : 0 ≤ x) (h1 : x ≤ 18446744073709551615) : getR (putL x ++ more) = (x, ((putL x).length : Int), 0) := by
  have := getF_putF 9 0 0 x more rfl h0 (by have e : (2 : Int) * 128 ^ 9 = 18446744073709551616 := by decide
                                            rw [e]; omega) (by omega)
  simpa [getR, putL] using this

/-- No byte less is it. -/
theorem getF_short (f : Nat) : ∀ (i : Nat) (acc y : Int), i + f = 9 → 0 ≤ y → getF i acc ((putF f y).take ((putF f y).length - 1)) = (0, 0, 4) := by
  induction f with
  | zero => intro i acc y _ _; simp [putF, getF]
  | succ f ih =>
    intro i acc y hi h0
    by_cases hs : y < 128
    · rw [putF_small _ _ hs]; simp [getF]
    · rw [putF_big _ _ (by omega)]
      have hi9 : ¬ i = 9 := by omega
      have hc : (128 : Int) ≤ y % 128 + 128 := by omega
      have hl := (putF_length f (y / 128)).1
      have e : ((y % 128 + 128) :: putF f (y / 128)).take (((y % 128 + 128) :: putF f (y / 128)).length - 1) = (y % 128 + 128) :: (putF f (y / 128)).take ((putF f (y / 128)).length - 1) := by
        have : ((y % 128 + 128) :: putF f (y / 128)).length - 1 = ((putF f (y / 128)).length - 1) + 1 := by simp only [List.length_cons]; omega
        rw [this, List.take_succ_cons]
      rw [e, getF, if_neg (by simp [hi9]), if_pos hc]
      exact ih (i + 1) _ (y / 128) (by omega) (by omega)

theorem getR_short (x : Int) (h0 : 0 ≤ x) : getR ((putL x).take ((putL x).length - 1)) = (0, 0, 4) := getF_short 9 0 0 x rfl h0

/-- Every byte is one. -/
theorem putF_range (f : Nat) : ∀ y : Int, 0 ≤ y → y < 2 * 128 ^ f → ∀ c ∈ putF f y, 0 ≤ c ∧ c ≤ 255 := by
  induction f with
  | zero => intro y h0 h1 c hc; simp [putF] at hc; simp at h1; omega
  | succ f ih =>
    intro y h0 h1 c hc
    by_cases hs : y < 128
    · rw [putF_small _ _ hs] at hc; simp at hc; omega
    · rw [putF_big _ _ (by omega)] at hc
      rcases List.mem_cons.1 hc with rfl | hc
      · omega
      · exact ih (y / 128) (by omega) (by rw [Int.pow_succ] at h1; omega) c hc
theorem putL_range (x : Int) (h0 : 0 ≤ x) (h1 : x ≤ 18446744073709551615) : ∀ c ∈ putL x, 0 ≤ c ∧ c ≤ 255 :=
  putF_range 9 x h0 (by have e : (2 : Int) * 128 ^ 9 = 18446744073709551616 := by decide
                        rw [e]; omega)
/-- How far the writing of a number has come: pre is written, y is left, zs is the whole. -/
def PutAt (zs pre : List Int) (y : Int) : Prop := ∃ f, f ≤ 9 ∧ y < 2 * 128 ^ f ∧ pre ++ putF f y = zs
theorem PutAt.start (xs : List Int) (x : Int) (h1 : x ≤ 18446744073709551615) : PutAt (xs ++ putL x) xs x :=
  ⟨9, Nat.le_refl _, by have e : (2 : Int) * 128 ^ 9 = 18446744073709551616 := by decide
                        rw [e]; omega, rfl⟩
theorem PutAt.step {zs pre : List Int} {y : Int} (h : PutAt zs pre y) (hy : 128 ≤ y) : PutAt zs (pre ++ [y % 128 + 128]) (y / 128) := by
  obtain ⟨f, hf, hlt, he⟩ := h
  cases f with
  | zero => simp at hlt; omega
  | succ f =>
    refine ⟨f, by omega, by rw [Int.pow_succ] at hlt; omega, ?_⟩
    rw [putF_big _ _ hy] at he
    rw [← he]; simp
theorem PutAt.done {zs pre : List Int} {y : Int} (h : PutAt zs pre y) (hy : y < 128) : pre ++ [y] = zs := by
  obtain ⟨f, _, _, he⟩ := h
  rwa [putF_small _ _ hy] at he
theorem PutAt.len {zs pre : List Int} {y : Int} (h : PutAt zs pre y) : pre.length + 1 ≤ zs.length := by
  obtain ⟨f, _, _, he⟩ := h
  rw [← he, List.length_append]
  have := (putF_length f y).1
  omega
theorem u64_and127 (y : Int) (h0 : 0 ≤ y) (h1 : y ≤ 18446744073709551615) : bits .and .u64 y 127 = y % 128 :=
  bits_mask .u64 64 (by decide) (fun n h h' => by rw [IntKind.wrap_u64]; exact Int.emod_eq_of_lt h (by simpa using h')) 7 (by decide) y h0 (by rw [show (2 : Int) ^ 64 = 18446744073709551616 from by decide]; omega)
theorem u8_and127 (y : Int) (h0 : 0 ≤ y) (h1 : y ≤ 255) : bits .and .u8 y 127 = y % 128 :=
  bits_mask .u8 8 (by decide) (fun n h h' => by rw [IntKind.wrap_u8]; exact Int.emod_eq_of_lt h (by simpa using h')) 7 (by decide) y h0 (by rw [show (2 : Int) ^ 8 = 256 from by decide]; omega)
theorem pow7 (k : Nat) : (2 : Int) ^ (7 * k) = 128 ^ k := by rw [Int.pow_mul]; rfl
theorem pow128_mono {a b : Nat} (h : a ≤ b) : (128 : Int) ^ a ≤ 128 ^ b := by
  have := Nat.pow_le_pow_right (show 0 < 128 by decide) h
  have h2 : ((128 ^ a : Nat) : Int) ≤ ((128 ^ b : Nat) : Int) := by omega
  rwa [Int.natCast_pow, Int.natCast_pow] at h2
theorem pow128_le (k : Nat) (h : k ≤ 9) : (128 : Int) ^ k ≤ 9223372036854775808 := by
  have := pow128_mono h
  rw [show (128 : Int) ^ 9 = 9223372036854775808 from by decide] at this
  exact this
/-- The next seven bits, laid over those that are there. -/
theorem or_join (k : Nat) (hk : k ≤ 9) (acc t : Int) (h0 : 0 ≤ acc) (h1 : acc < 128 ^ k) (t0 : 0 ≤ t) (t1 : t * 128 ^ k ≤ 18446744073709551615) :
    bits .or .u64 acc (IntKind.u64.wrap (t * 2 ^ (7 * k))) = acc + t * 128 ^ k := by
  have hp := pow128_le k hk
  have hM0 : 0 ≤ t * 128 ^ k := Int.mul_nonneg t0 (Int.le_of_lt (pow_pos128 k))
  rw [pow7, IntKind.wrap_u64, Int.emod_eq_of_lt hM0 (by omega)]
  obtain ⟨a, rfl⟩ := Int.eq_ofNat_of_zero_le h0
  obtain ⟨b, rfl⟩ := Int.eq_ofNat_of_zero_le t0
  have hb : ((b : Int) * 128 ^ k) = ((2 ^ (7 * k) * b : Nat) : Int) := by
    rw [Nat.mul_comm, Int.natCast_mul, Int.natCast_pow, ← pow7]; rfl
  have ha : a < 2 ^ (7 * k) := by
    have : ((a : Nat) : Int) < ((2 ^ (7 * k) : Nat) : Int) := by rw [Int.natCast_pow]; exact (pow7 k).symm ▸ h1
    omega
  rw [hb] at t1 ⊢
  rw [u64_or_nat _ _ (by omega) (by omega), Nat.or_comm, ← Nat.two_pow_add_eq_or_of_lt ha b]
  omega

/-- How far the reading has come: of the bytes xs the first k are read, acc is gathered; r is what comes out. -/
def GetAt (r : Int × Int × Int) (xs : List Int) (k : Nat) (acc : Int) : Prop := k ≤ 9 ∧ 0 ≤ acc ∧ acc < 128 ^ k ∧ r = getF k acc (xs.drop k)
theorem GetAt.start (xs : List Int) : GetAt (getR xs) xs 0 0 := ⟨by omega, by omega, by simp, by simp [getR]⟩
theorem GetAt.over {r : Int × Int × Int} {xs : List Int} {k : Nat} {acc : Int} (h : GetAt r xs k acc) (hk : xs.length ≤ k) : r = (0, 0, 4) := by
  obtain ⟨_, _, _, he⟩ := h
  rw [he, List.drop_eq_nil_of_le hk, getF]
section
variable {r : Int × Int × Int} {xs : List Int} {k : Nat} {acc q : Int}
theorem GetAt.long (h : GetAt r xs k acc) (hk : k < xs.length) (hq : xs[k] = q) (h9 : k = 9) (h1 : 1 < q) : r = (0, 0, 3) := by
  obtain ⟨_, _, _, he⟩ := h
  rw [he, List.drop_eq_getElem_cons hk, getF, hq, if_pos ⟨h9, h1⟩]
theorem GetAt.step (h : GetAt r xs k acc) (hk : k < xs.length) (hq : xs[k] = q) (h9 : k ≠ 9) (h1 : 128 ≤ q) : GetAt r xs (k + 1) (acc + q % 128 * 128 ^ k) := by
  obtain ⟨hk9, h0, hlt, he⟩ := h
  have hp := pow_pos128 k
  have hm0 : 0 ≤ q % 128 * 128 ^ k := Int.mul_nonneg (by omega) (Int.le_of_lt hp)
  have hm1 : q % 128 * 128 ^ k ≤ 127 * 128 ^ k := Int.mul_le_mul_of_nonneg_right (by omega) (Int.le_of_lt hp)
  refine ⟨by omega, by omega, by rw [Int.pow_succ]; omega, ?_⟩
  rw [he, List.drop_eq_getElem_cons hk, getF, hq, if_neg (by omega), if_pos h1]
theorem GetAt.zero (h : GetAt r xs k acc) (hk : k < xs.length) (hq : xs[k] = 0) (h1 : 0 < k) : r = (0, 0, 2) := by
  obtain ⟨_, _, _, he⟩ := h
  rw [he, List.drop_eq_getElem_cons hk, getF, hq, if_neg (by omega), if_neg (by omega), if_pos ⟨rfl, h1⟩]
theorem GetAt.fin (h : GetAt r xs k acc) (hk : k < xs.length) (hq : xs[k] = q) (h1 : q < 128) (h2 : ¬ (k = 9 ∧ 1 < q)) (h3 : ¬ (q = 0 ∧ 0 < k)) : r = (acc + q % 128 * 128 ^ k, (k : Int) + 1, 0) := by
  obtain ⟨_, _, _, he⟩ := h
  rw [he, List.drop_eq_getElem_cons hk, getF, hq, if_neg h2, if_neg (by omega), if_neg h3]
theorem GetAt.joined (h : GetAt r xs k acc) (h0 : 0 ≤ q) (h2 : ¬ (k = 9 ∧ 1 < q)) : bits .or .u64 acc (IntKind.u64.wrap (q % 128 * 2 ^ (7 * k))) = acc + q % 128 * 128 ^ k := by
  obtain ⟨hk9, ha, hlt, _⟩ := h
  refine or_join k hk9 acc (q % 128) ha hlt (by omega) ?_
  by_cases h9 : k = 9
  · subst h9
    rw [show (128 : Int) ^ 9 = 9223372036854775808 from by decide]
    omega
  · have h8 := pow128_mono (show k ≤ 8 by omega)
    rw [show (128 : Int) ^ 8 = 72057594037927936 from by decide] at h8
    have := Int.mul_le_mul (show q % 128 ≤ 127 by omega) h8 (Int.le_of_lt (pow_pos128 k)) (by decide)
    omega
theorem GetAt.bounds (h : GetAt r xs k acc) : k ≤ 9 ∧ 0 ≤ acc ∧ acc ≤ 9223372036854775807 := by
  obtain ⟨hk9, ha, hlt, _⟩ := h
  have := pow128_le k hk9
  omega
end

/-- Numbers one behind the other. -/
def rowL (l : List Int) : List Int := l.flatMap putL
theorem rowL_snoc (l : List Int) (k : Nat) (h : k < l.length) : rowL (l.take (k + 1)) = rowL (l.take k) ++ putL l[k] := by
  unfold rowL
  rw [List.take_succ_eq_append_getElem h, List.flatMap_append]
  simp
theorem rowL_length (l : List Int) : (rowL l).length ≤ 10 * l.length := by
  induction l with
  | nil => simp [rowL]
  | cons a t ih =>
    have := (putL_length a).2
    unfold rowL at ih ⊢
    rw [List.flatMap_cons, List.length_append, List.length_cons]
    omega
theorem rowL_drop (l : List Int) (k : Nat) (h : k < l.length) : (rowL l).drop (rowL (l.take k)).length = putL l[k] ++ rowL (l.drop (k + 1)) := by
  have e : rowL l = rowL (l.take k) ++ (putL l[k] ++ rowL (l.drop (k + 1))) := by
    have h1 : l = l.take k ++ (l[k] :: l.drop (k + 1)) := by rw [← List.drop_eq_getElem_cons h, List.take_append_drop]
    have h2 : rowL l = rowL (l.take k ++ (l[k] :: l.drop (k + 1))) := congrArg rowL h1
    rw [h2]
    unfold rowL
    rw [List.flatMap_append, List.flatMap_cons]
  rw [e, List.drop_left]
theorem rowL_range (l : List Int) (h : ∀ x ∈ l, 0 ≤ x ∧ x ≤ 18446744073709551615) : ∀ c ∈ rowL l, 0 ≤ c ∧ c ≤ 255 := by
  intro c hc
  unfold rowL at hc
  obtain ⟨x, hx, hc⟩ := List.mem_flatMap.1 hc
  exact putL_range x (h x hx).1 (h x hx).2 c hc
end Go.Proofs.YtaoflfdpagpgaaaDoor
