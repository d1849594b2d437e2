/- More mathematics of numbers written by seven bits a byte: a front is short; bytes that are read as a number begin with its own. No program is spoken of here. -/
import Derived.Test.YtaoflfdpagpgaaaDoorNum
namespace Go.Proofs.YtaoflfdpagpgaaaDoor

/-! ### A front is short -/
theorem getF_front (f : Nat) : ∀ (i : Nat) (acc y : Int) (n : Nat), i + f = 9 → 0 ≤ y → n < (putF f y).length → getF i acc ((putF f y).take n) = (0, 0, 4) := by
  induction f with
  | zero =>
    intro i acc y n _ _ hn
    simp [putF] at hn
    subst hn
    simp [getF]
  | succ f ih =>
    intro i acc y n hi h0 hn
    by_cases hs : y < 128
    · rw [putF_small _ _ hs] at hn ⊢
      simp at hn
      subst hn
      simp [getF]
    · rw [putF_big _ _ (by omega)] at hn ⊢
      cases n with
      | zero => simp [getF]
      | succ n =>
        have hi9 : ¬ i = 9 := by omega
        have hc : (128 : Int) ≤ y % 128 + 128 := by omega
        rw [List.take_succ_cons, getF, if_neg (by simp [hi9]), if_pos hc]
        exact ih (i + 1) _ (y / 128) n (by omega) (by omega) (by simpa using hn)
theorem getR_front (x : Int) (n : Nat) (h0 : 0 ≤ x) (hn : n < (putL x).length) : getR ((putL x).take n) = (0, 0, 4) := getF_front 9 0 0 x n rfl h0 hn

theorem getF_back : ∀ (bs : List Int) (i : Nat) (acc x k : Int), (∀ c ∈ bs, 0 ≤ c ∧ c ≤ 255) → i ≤ 9 → getF i acc bs = (x, k, 0) →
    ∃ y : Int, 0 ≤ y ∧ x = acc + y * 128 ^ i ∧ y < 2 * 128 ^ (9 - i) ∧ (0 < i → 0 < y) ∧ k = i + (putF (9 - i) y).length ∧ ∃ rest, bs = putF (9 - i) y ++ rest := by
  intro bs
  induction bs with
  | nil => intro i acc x k _ _ h; simp [getF] at h
  | cons c t ih =>
    intro i acc x k hb hi h
    obtain ⟨hc0, hc1⟩ := hb c (List.mem_cons_self ..)
    rw [getF] at h
    by_cases h1 : i = 9 ∧ 1 < c
    · rw [if_pos h1] at h; simp at h
    rw [if_neg h1] at h
    by_cases h2 : 128 ≤ c
    · rw [if_pos h2] at h
      have hi8 : i < 9 := by omega
      obtain ⟨y, hy0, hx, hlt, hp, hk, rest, ht⟩ := ih (i + 1) _ x k (fun d hd => hb d (List.mem_cons_of_mem _ hd)) (by omega) h
      have hy := hp (by omega)
      have e9 : 9 - i = (9 - (i + 1)) + 1 := by omega
      have hput : putF (9 - i) (c % 128 + 128 * y) = c :: putF (9 - (i + 1)) y := by
        rw [e9, putF_big _ _ (by omega), show (c % 128 + 128 * y) % 128 + 128 = c by omega, show (c % 128 + 128 * y) / 128 = y by omega]
      refine ⟨c % 128 + 128 * y, by omega, ?_, ?_, by omega, ?_, rest, ?_⟩
      · rw [hx, Int.pow_succ]
        generalize (128 : Int) ^ i = p
        generalize c % 128 = d
        rw [Int.add_mul, Int.mul_comm p 128, ← Int.mul_assoc, Int.mul_comm y 128, Int.add_assoc]
      · rw [e9, Int.pow_succ]; omega
      · rw [hput, hk, List.length_cons]; omega
      · rw [hput, ht]; rfl
    · rw [if_neg h2] at h
      by_cases h3 : c = 0 ∧ 0 < i
      · rw [if_pos h3] at h; simp at h
      rw [if_neg h3] at h
      simp only [Prod.mk.injEq, and_true] at h
      have hput := putF_small (9 - i) c (by omega)
      refine ⟨c, hc0, ?_, ?_, by omega, ?_, t, ?_⟩
      · rw [← h.1, show c % 128 = c by omega]
      · by_cases h9 : i = 9
        · subst h9
          simp
          omega
        · have := pow128_mono (show 1 ≤ 9 - i by omega)
          rw [show (128 : Int) ^ 1 = 128 from by decide] at this
          omega
      · rw [hput, ← h.2]; simp
      · rw [hput]; rfl
theorem getR_back {bs : List Int} {x k : Int} (hb : ∀ c ∈ bs, 0 ≤ c ∧ c ≤ 255) (h : getR bs = (x, k, 0)) :
    0 ≤ x ∧ x ≤ 18446744073709551615 ∧ k = (putL x).length ∧ ∃ rest, bs = putL x ++ rest := by
  obtain ⟨y, hy, hx, hlt, _, hk, rest, hbs⟩ := getF_back bs 0 0 x k hb (by omega) h
  obtain rfl : x = y := by rw [hx]; simp
  have e : (2 : Int) * 128 ^ (9 - 0) = 18446744073709551616 := by decide
  rw [e] at hlt
  exact ⟨hy, by omega, by rw [hk]; simp [putL], rest, hbs⟩
end Go.Proofs.YtaoflfdpagpgaaaDoor
