/- Contracts of the program's own surplus and behind (chapter 14). -/
import Derived.Test.YtoienjlpncphgaaSegLie
import Derived.Lib.EndianBits
namespace Go.Proofs.Ytoienjlpncphgaa
open Go.RowKit

set_option maxHeartbeats 1600000 in
theorem behind_any (w : World) (t n a : Int) (ht : -9223372036854775808 ≤ t ∧ t ≤ 9223372036854775807) (hn : -9223372036854775808 ≤ n ∧ n ≤ 9223372036854775807) (ha : 0 < a ∧ a ≤ 9223372036854775807) :
    Calls Try.prog 10 #[.int .i64 t, .int .i64 n, .int .i64 a] w (fun e w' => e = .returned (.bool (decide (a < n - t))) ∧ w = w') := by
  by_cases h1 : t < n
  · have q1 : decide (t < n) = true := decide_eq_true h1
    have e3 : IntKind.u64.wrap a = a := by rw [IntKind.wrap_u64]; omega
    have e5 : IntKind.u64.wrap (IntKind.u64.wrap n - IntKind.u64.wrap t) = n - t := by rw [IntKind.wrap_u64, IntKind.wrap_u64, IntKind.wrap_u64]; omega
    go_enter Try.func10, Try.ntmps10
    go_wp2_with fail
    go_ret
    exact ⟨rfl, rfl⟩
  · have q1 : decide (t < n) = false := decide_eq_false h1
    have q3 := Lib.hid (show false = decide (a < n - t) from (decide_eq_false (by omega)).symm)
    go_enter Try.func10, Try.ntmps10
    go_wp2_with fail
    go_ret
    exact ⟨congrArg (fun b => Ending.returned (.bool b)) q3.out, rfl⟩

/-- The first m are together with all behind them too much. -/
def Surplus (keep : Int) (ss : List LSeg) (m : Nat) : Prop := m ≤ ss.length ∧ ∀ i, i < ss.length → decide (i < m) = muchB keep (ss.drop i)
theorem Surplus.zero {keep : Int} {ss : List LSeg} (h : keep ≤ 0) : Surplus keep ss 0 := by
  refine ⟨Nat.zero_le _, fun i _ => ?_⟩
  unfold muchB
  rw [decide_eq_false (by omega : ¬ 0 < keep)]
  simp
theorem Surplus.none {keep : Int} {ss : List LSeg} (h : sizesL ss ≤ keep) : Surplus keep ss 0 := by
  refine ⟨Nat.zero_le _, fun i _ => ?_⟩
  have := sizesL_anti ss (Nat.zero_le i)
  rw [List.drop_zero] at this
  unfold muchB
  rw [decide_eq_false (by omega : ¬ keep < sizesL (ss.drop i))]
  simp
theorem Surplus.some_ {keep : Int} {ss : List LSeg} {n : Nat} (h0 : 0 < keep) (h : n < ss.length) (h1 : keep < sizesL (ss.drop n)) (h2 : sizesL (ss.drop (n + 1)) ≤ keep) : Surplus keep ss (n + 1) := by
  refine ⟨h, fun i _ => ?_⟩
  unfold muchB
  rw [decide_eq_true h0, Bool.true_and]
  rcases Nat.lt_or_ge i (n + 1) with h3 | h3
  · have := sizesL_anti ss (i := i) (j := n) (by omega)
    rw [decide_eq_true h3, decide_eq_true (by omega : keep < sizesL (ss.drop i))]
  · have := sizesL_anti ss h3
    rw [decide_eq_false (by omega : ¬ i < n + 1), decide_eq_false (by omega : ¬ keep < sizesL (ss.drop i))]
set_option maxHeartbeats 1600000 in
theorem surplus_any (w : World) (S : Nat → Prop) (ss : List LSeg) (A : Option Addr) (cap : Nat) (h : RowsLie segRep w S A ss cap) (hwf : ∀ s ∈ ss, s.wf) (keep : Int) (hk : keep ≤ 9223372036854775807) (hl : ss.length ≤ 1000000000) :
    Calls Try.prog 9 #[.slice A ss.length cap, .int .i64 keep] w (fun e w' => ∃ m, e = .returned (.int .i64 (m : Nat)) ∧ Surplus keep ss m ∧ w' = w) := by
  have H := Lib.hid h
  have HW := Lib.hid hwf
  have hcl := h.2.1
  have hcm := h.2.2
  unfold maxLen at hcm
  clear h hwf
  by_cases h0 : 0 < keep
  · have q0 : decide (keep ≤ 0) = false := decide_eq_false (by omega)
    go_enter Try.func9, Try.ntmps9
    go_wp2_with fail
    go_loop [5, 6, 7] (fun lv nv _ => ∃ n : Nat, nv = .int .i64 n ∧ n ≤ ss.length ∧ lv = .int .i64 (keep - sizesL (ss.drop n)) ∧ 0 ≤ keep - sizesL (ss.drop n)) (fun _ nv _ => (intOf nv).toNat)
    case atStart => exact ⟨ss.length, rfl, Nat.le_refl _, by rw [List.drop_length]; show _ = Value.int .i64 (keep - 0); rw [Int.sub_zero], by rw [List.drop_length]; show 0 ≤ keep - 0; omega⟩
    case round =>
      obtain ⟨n, rfl, hn, rfl, hle⟩ := hrel
      obtain ⟨L, hL⟩ : ∃ L, keep - sizesL (ss.drop n) = L := ⟨_, rfl⟩
      rw [hL] at hle ⊢
      have hLk : L ≤ keep := by have := sizesL_nonneg (ss.drop n); omega
      have HL := Lib.hid hL
      clear hL
      cases n with
      | zero =>
        go_wp2_with fail
        go_ret
        exact ⟨0, rfl, Surplus.none (by have := HL.out; rw [List.drop_zero] at this; omega), rfl⟩
      | succ k =>
        have q1 : decide (0 < ((k + 1 : Nat) : Int)) = true := decide_eq_true (by omega)
        have q2 : ((k + 1 : Nat) : Int) - 1 = (k : Int) := by omega
        obtain ⟨b, off, B, c, rfl, hb, hs, hc, _⟩ := SegsLie.at_ H.out hn
        have hSZ := HW.out _ (List.getElem_mem hn)
        have HD := Lib.hid (sizesL_drop hn)
        obtain ⟨s, hs2⟩ : ∃ s, ss[k]'hn = s := ⟨_, rfl⟩
        rw [hs2] at hc hSZ HD
        obtain ⟨c0, c1, c2, c3, c4, c5, c6, c7, c8, c9⟩ := hc
        obtain ⟨z, hz⟩ : ∃ z, s.size = z := ⟨_, rfl⟩
        rw [hz] at c8 HD
        have hzb : -9223372036854775808 ≤ z ∧ z ≤ 9223372036854775807 := by rw [← hz]; exact hSZ.2.2.2.2.1
        clear c0 c1 c2 c3 c4 c5 c6 c7 c9 hs2 hz hSZ hb hs
        by_cases hz0 : z < 0
        · have hpl : plus z = 0 := by unfold plus; rw [if_pos hz0]
          have r0 : (if z < 0 then 0 else z) = 0 := if_pos hz0
          by_cases hq : 0 < L + 1
          · have r1 : decide (L < 0) = false := decide_eq_false (by omega)
            have HF : Hid (0 ≤ keep - sizesL (ss.drop k) ∧ L = keep - sizesL (ss.drop k)) := Lib.hid (by have h1 := HD.out; have h2 := HL.out; rw [hpl] at h1; omega)
            clear HD HL hpl
            go_wp2_with fail
            go_round
            case rel => exact ⟨k, rfl, by omega, congrArg (Value.int .i64) HF.out.2, HF.out.1⟩
            case measure => simp [intOf]
          · omega
        · have hpl : plus z = z := by unfold plus; rw [if_neg hz0]
          have r0 : (if z < 0 then 0 else z) = z := if_neg hz0
          by_cases hq : z < L + 1
          · have r1 : decide (L < z) = false := decide_eq_false (by omega)
            have HF : Hid (0 ≤ keep - sizesL (ss.drop k) ∧ L - z = keep - sizesL (ss.drop k)) := Lib.hid (by have h1 := HD.out; have h2 := HL.out; rw [hpl] at h1; omega)
            clear HD HL hpl
            go_wp2_with fail
            go_round
            case rel => exact ⟨k, rfl, by omega, congrArg (Value.int .i64) HF.out.2, HF.out.1⟩
            case measure => simp [intOf]
          · have r1 : decide (L < z) = true := decide_eq_true (by omega)
            have HF : Hid (Surplus keep ss (k + 1)) := Lib.hid (Surplus.some_ h0 hn (by have h1 := HD.out; have h2 := HL.out; rw [hpl] at h1; omega) (by have h2 := HL.out; omega))
            clear HD HL hpl
            go_wp2_with fail
            go_ret
            exact ⟨k + 1, rfl, HF.out, rfl⟩
  · have q0 : decide (keep ≤ 0) = true := decide_eq_true (by omega)
    go_enter Try.func9, Try.ntmps9
    go_wp2_with fail
    go_ret
    exact ⟨0, rfl, Surplus.zero (by omega), rfl⟩
end Go.Proofs.Ytoienjlpncphgaa
