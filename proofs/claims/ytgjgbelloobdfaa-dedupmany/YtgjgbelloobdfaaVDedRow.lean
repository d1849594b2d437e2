/- Contracts of what the program's own table of producers looks a row up with: cmp.Compare, the closure, slices.BinarySearchFunc. -/
import Derived.Test.YtgjgbelloobdfaaPidRows
namespace Go.Proofs.Ytgjgbelloobdfaa
open Go.RowKit

/-- Which of two numbers is the lesser one. -/
def cmp3 (a b : Int) : Int := if a < b then -1 else if b < a then 1 else 0
theorem isnan_any (n : Int) (w : World) : Calls Try.prog 20 #[.int .i64 n] w (fun e w' => e = .returned (.bool false) ∧ w = w') := by
  have b : (n != n) = false := by simp
  go_enter Try.func20, Try.ntmps20
  go_wp2
  go_ret
  exact ⟨rfl, rfl⟩
theorem compare_any (a b : Int) (w : World) : Calls Try.prog 19 #[.int .i64 a, .int .i64 b] w (fun e w' => e = .returned (.int .i64 (cmp3 a b)) ∧ w = w') := by
  have HN := Lib.hid isnan_any
  by_cases h1 : a < b
  · have d1 : decide (a < b) = true := decide_eq_true h1
    have HV : Hid (cmp3 a b = -1) := Lib.hid (if_pos h1)
    go_enter Try.func19, Try.ntmps19
    go_wp2_with (go_at_call 20; refine (HN.out _ _).mono ?_; rintro e w2 ⟨rfl, rfl⟩)
    go_ret
    exact ⟨by rw [HV.out]; rfl, rfl⟩
  · have d1 : decide (a < b) = false := decide_eq_false h1
    by_cases h2 : b < a
    · have d2 : decide (b < a) = true := decide_eq_true h2
      have HV : Hid (cmp3 a b = 1) := Lib.hid ((if_neg h1).trans (if_pos h2))
      clear h1
      go_enter Try.func19, Try.ntmps19
      go_wp2_with (go_at_call 20; refine (HN.out _ _).mono ?_; rintro e w2 ⟨rfl, rfl⟩)
      go_ret
      exact ⟨by rw [HV.out]; rfl, rfl⟩
    · have d2 : decide (b < a) = false := decide_eq_false h2
      have HV : Hid (cmp3 a b = 0) := Lib.hid ((if_neg h1).trans (if_neg h2))
      go_enter Try.func19, Try.ntmps19
      go_wp2_with (go_at_call 20; refine (HN.out _ _).mono ?_; rintro e w2 ⟨rfl, rfl⟩)
      go_ret
      exact ⟨by rw [HV.out]; rfl, rfl⟩
theorem dfind1_any (w : World) (m : PidM) (p : Int) :
    Calls Try.prog 18 #[.agg #[.int .i64 m.pid, .int .i64 m.seq, .int .i64 m.off], .int .i64 p] w (fun e w' => e = .returned (.int .i64 (cmp3 m.pid p)) ∧ Below w.heap.size w w') := by
  obtain ⟨mp, ms, mo⟩ := m
  have HB := Lib.hid ((Below.refl w.heap.size w).alloc (Nat.le_refl _) (.cells #[.int .i64 mp, .int .i64 ms, .int .i64 mo] 25))
  have HC := Lib.hid (compare_any mp p)
  dsimp only
  go_enter Try.func18, Try.ntmps18
  go_wp2_with fail
  refine (HC.out _).mono ?_
  rintro e w2 ⟨rfl, rfl⟩
  go_wp2
  go_ret
  exact ⟨rfl, HB.out⟩
/-- Where a row of p stands, or would stand. -/
def Stands (l : List PidM) (p : Int) (k : Nat) : Prop := Ahead l p k ∧ ∀ i (h : i < l.length), k ≤ i → p ≤ l[i].pid
theorem ahead_to {l : List PidM} {p : Int} {h : Nat} (hs : SortedP l) (hh : h < l.length) (hp : l[h].pid < p) : Ahead l p (h + 1) := by
  refine ⟨hh, fun x hx => ?_⟩
  obtain ⟨i, hi, rfl⟩ := List.getElem_of_mem hx
  rw [List.length_take] at hi
  rw [List.getElem_take]
  rcases Nat.lt_or_ge i h with h1 | h1
  · have := List.pairwise_iff_getElem.1 hs i h (by omega) hh h1
    omega
  · have e : i = h := by omega
    subst e
    exact hp
theorem behind_from {l : List PidM} {p : Int} {h : Nat} (hs : SortedP l) (hh : h < l.length) (hp : p ≤ l[h].pid) : ∀ k (hk : k < l.length), h ≤ k → p ≤ l[k].pid := by
  intro k hk hle
  rcases Nat.lt_or_ge h k with h1 | h1
  · have := List.pairwise_iff_getElem.1 hs h k hh hk h1
    omega
  · have e : k = h := by omega
    subst e
    exact hp
set_option maxHeartbeats 1600000 in
theorem bsearch_any (w : World) (S : Nat → Prop) (A : Option Addr) (l : List PidM) (cap : Nat) (hs : SortedP l) (hl : RowsLie pidRep w S A l cap) (hS : ∀ b, S b → b < w.heap.size) (hfew : l.length ≤ 100) (p : Int) :
    Calls Try.prog 17 #[.slice A l.length cap, .int .i64 p, .func (.func 18) #[] #[]] w
      (fun e w' => ∃ k : Nat, Stands l p k ∧ e = .returned (.tuple #[.int .i64 k, .bool (decide (∃ h : k < l.length, l[k].pid = p))]) ∧ Below w.heap.size w w') := by
  have HL := Lib.hid hl
  have HS := Lib.hid hS
  have HO := Lib.hid hs
  have hcl := hl.2.1
  have hcm := hl.2.2
  unfold maxLen at hcm
  clear hl hS hs
  go_enter Try.func17, Try.ntmps17
  go_wp2_with fail
  go_loopw [9, 10] (fun iv jv wr => ∃ i j : Nat, iv = .int .i64 i ∧ jv = .int .i64 j ∧ i ≤ j ∧ j ≤ l.length ∧ Ahead l p i ∧ (∀ k (h : k < l.length), j ≤ k → p ≤ l[k].pid) ∧ Below w.heap.size w wr) (fun iv jv _ => ((intOf jv) - (intOf iv)).toNat)
  case atStart => exact ⟨0, l.length, rfl, rfl, Nat.zero_le _, Nat.le_refl _, Ahead.zero l p, fun k h hk => absurd h (Nat.not_lt.2 hk), Below.refl _ _⟩
  case round =>
    obtain ⟨i, j, rfl, rfl, hij, hj, hah, hbeh, hbel⟩ := hrel
    have HB := Lib.hid hbel
    have HA := Lib.hid hah
    have HH := Lib.hid hbeh
    clear hbel hah hbeh
    by_cases hlt : i < j
    · have d1 : decide ((i : Int) < (j : Int)) = true := decide_eq_true (by omega)
      have d2 : decide (i < j) = true := decide_eq_true hlt
      obtain ⟨h, hhe⟩ : ∃ h : Nat, ((i : Int) + (j : Int)) / 2 = (h : Int) := ⟨(i + j) / 2, by omega⟩
      have hih : i ≤ h := by omega
      have hhj : h < j := by omega
      have hhl : h < l.length := by omega
      obtain ⟨b, off, rfl, hb0, _, g0, g1, g2⟩ := PidsLie.at_ (HL.out.below HB.out HS.out) hhl
      have HLO := Lib.hid (fun (hp : l[h].pid < p) => ahead_to HO.out hhl hp)
      have HHI := Lib.hid (fun (hp : ¬ l[h].pid < p) => behind_from HO.out hhl (Int.not_lt.1 hp))
      obtain ⟨m, hm⟩ : ∃ m, l[h] = m := ⟨_, rfl⟩
      rw [hm] at g0 g1 g2 HLO HHI
      have HC := Lib.hid (dfind1_any wr m p)
      obtain ⟨mp, ms, mo⟩ := m
      dsimp only at g0 g1 g2 HLO HHI HC
      clear hm
      by_cases hp : mp < p
      · have HV : Hid (cmp3 mp p = -1) := Lib.hid (if_pos hp)
        rw [HV.out] at HC
        have HN := Lib.hid (HLO.out hp)
        clear HLO HHI hp
        go_wp2_with (go_at_call 18; refine HC.out.mono ?_; rintro e w2 ⟨rfl, hb2⟩; have HB2 := Lib.hid (HB.out.trans (hb2.mono HB.out.size)); clear hb2)
        go_roundw
        case rel => exact ⟨h + 1, j, by go_num, rfl, hhj, hj, HN.out, HH.out, HB2.out⟩
        case measure => simp [intOf]; omega
      · have hv : 0 ≤ cmp3 mp p := by unfold cmp3; split; omega; split <;> omega
        obtain ⟨v, hv2⟩ : ∃ v, cmp3 mp p = v := ⟨_, rfl⟩
        rw [hv2] at HC hv
        have d3 : decide (v < 0) = false := decide_eq_false (by omega)
        have HN := Lib.hid (HHI.out hp)
        clear HLO HHI hp hv2
        go_wp2_with (go_at_call 18; refine HC.out.mono ?_; rintro e w2 ⟨rfl, hb2⟩; have HB2 := Lib.hid (HB.out.trans (hb2.mono HB.out.size)); clear hb2)
        go_roundw
        case rel => exact ⟨i, h, rfl, rfl, hih, Nat.le_of_lt hhl, HA.out, HN.out, HB2.out⟩
        case measure => simp [intOf]; omega
    · obtain rfl : i = j := by omega
      have d1 : decide ((i : Int) < (i : Int)) = false := decide_eq_false (by omega)
      have HSt : Hid (Stands l p i) := Lib.hid ⟨HA.out, HH.out⟩
      by_cases hil : i < l.length
      · have d2 : decide ((i : Int) < (l.length : Int)) = true := decide_eq_true (by omega)
        have d3 : decide (i < l.length) = true := decide_eq_true hil
        obtain ⟨b, off, rfl, hb0, _, g0, g1, g2⟩ := PidsLie.at_ (HL.out.below HB.out HS.out) hil
        have HE : Hid (decide (∃ h : i < l.length, l[i].pid = p) = decide (l[i].pid = p)) := Lib.hid (by simp [hil])
        obtain ⟨m, hm⟩ : ∃ m, l[i] = m := ⟨_, rfl⟩
        rw [hm] at g0 g1 g2 HE
        have HC := Lib.hid (dfind1_any wr m p)
        obtain ⟨mp, ms, mo⟩ := m
        dsimp only at g0 g1 g2 HC HE
        have HV : Hid ((cmp3 mp p == 0) = decide (mp = p)) := Lib.hid (by unfold cmp3; split; simp; omega; split; simp; omega; simp; omega)
        obtain ⟨v, hv2⟩ : ∃ v, cmp3 mp p = v := ⟨_, rfl⟩
        rw [hv2] at HC HV
        clear hm hv2
        go_wp2_with (go_at_call 18; refine HC.out.mono ?_; rintro e w2 ⟨rfl, hb2⟩; have HB2 := Lib.hid (HB.out.trans (hb2.mono HB.out.size)); clear hb2)
        go_ret2
        exact ⟨i, HSt.out, by rw [HE.out, ← HV.out]; rfl, HB2.out⟩
      · have d2 : decide ((i : Int) < (l.length : Int)) = false := decide_eq_false (by omega)
        have d3 : decide (i < l.length) = false := decide_eq_false hil
        have HE : Hid (decide (∃ h : i < l.length, l[i].pid = p) = false) := Lib.hid (by simp [hil])
        go_wp2_with fail
        go_ret2
        exact ⟨i, HSt.out, by rw [HE.out]; rfl, HB.out⟩
end Go.Proofs.Ytgjgbelloobdfaa
