/- What chapter 14's RetainWhole wants of the mathematics. No statement of the program is proved here. -/
import Derived.Test.YtoienjlpncphgaaLSegNum
namespace Go.Proofs.Ytoienjlpncphgaa

def SmallS (s : LSeg) : Prop := (0 ≤ s.size ∧ s.size ≤ 1125899906842624) ∧ (-1125899906842624 ≤ s.time ∧ s.time ≤ 1125899906842624)
theorem small_plus {s : LSeg} (h : SmallS s) : plus s.size = s.size := by unfold plus; rw [if_neg (by have := h.1.1; omega)]
theorem dropL_none {keep age now : Int} (l : List LSeg) (h1 : keep ≤ 0) (h2 : age ≤ 0) : dropL keep age now l = 0 := by
  refine dropL_is (Nat.zero_le _) (fun i _ h => absurd h (by omega)) fun h => ?_
  unfold goesB oldB muchB
  rw [decide_eq_false (by omega : ¬ 0 < age), decide_eq_false (by omega : ¬ 0 < keep)]
  simp
theorem dropL_shut {keep age now : Int} {l : List LSeg} {i : Nat} (h1 : i < dropL keep age now l) (h : i < l.length) : l[i].shut = true := by
  have := dropL_goes h1 h
  unfold goesB at this
  cases hs : l[i].shut
  · rw [hs] at this; cases this
  · rfl
/-- What stays is neither too old nor too much. -/
theorem dropL_left {keep age now : Int} {l : List LSeg} {n : Nat} (hn : dropL keep age now l = n) (h : n < l.length) (hs : l[n].shut = true) : (0 < age → now - l[n].time ≤ age) ∧ (0 < keep → sizesL (l.drop n) ≤ keep) := by
  subst hn
  have := dropL_stays h
  unfold goesB at this
  rw [hs, Bool.true_and, Bool.or_eq_false_iff] at this
  unfold oldB muchB at this
  refine ⟨fun h0 => ?_, fun h0 => ?_⟩
  · have h1 := this.1
    rw [decide_eq_true h0, Bool.true_and] at h1
    have := of_decide_eq_false h1
    omega
  · have h1 := this.2
    rw [decide_eq_true h0, Bool.true_and] at h1
    have := of_decide_eq_false h1
    omega
end Go.Proofs.Ytoienjlpncphgaa
