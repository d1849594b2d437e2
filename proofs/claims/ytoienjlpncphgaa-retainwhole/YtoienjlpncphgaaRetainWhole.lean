/- Proved: for every list l of segments, every Conf c and every int now, RetainWhole returns true. -/
import Derived.Test.YtoienjlpncphgaaRows
import Derived.WalkKit
import Derived.ProofKit
import Derived.OpenShut
import Derived.ShutString
import Derived.ChangeOld
import Derived.Below
import Derived.Test.YtoienjlpncphgaaCame
import Derived.Test.YtoienjlpncphgaaRetAlive
import Derived.Test.YtoienjlpncphgaaRDrop
import Derived.Test.YtoienjlpncphgaaSegsCame
import Derived.Test.YtoienjlpncphgaaWholeNum
namespace Go.Proofs.Ytoienjlpncphgaa.retainWhole
open Go.ChangeShapes Go.WideShapes Go.ChangeAt Go.RowKit
open Go.ChangeMaps (open_string shut_string)
set_option linter.unusedVariables false

theorem own : ownKnob Try.prog.godebug = none := by kernel_rfl
theorem laidOut : laidOutB Try.prog = true := by kernel_rfl

def IsRow (k : IntKind) (w : World) (a : Option Addr) (len cap : Nat) (zs : List Int) : Prop :=
  (a = none ∧ len = 0 ∧ cap = 0 ∧ zs = []) ∨
  ∃ x, a = some x ∧ len ≤ cap ∧ cap ≤ maxLen ∧ zs.length = cap ∧ (∀ i, i < zs.length → w.cell? (x.add i) = some (.int k (zs.getD i 0))) ∧ ∀ n ∈ zs, (Lit.int k n).wf = true

set_option maxHeartbeats 12800000 in
set_option maxRecDepth 4000 in
theorem walk (a0 : Option Addr) (cap0 : Nat) (z0 : List LSeg) (cs1 ck1 ca1 cg1 : Int) (a2 : Int) (w : World) (w0 : RowsLie segRep w (fun b => b < w.heap.size) a0 z0 cap0 ∧ ∀ m ∈ z0, m.wf) (w1 : (-9223372036854775808 ≤ cs1 ∧ cs1 ≤ 9223372036854775807) ∧ (-9223372036854775808 ≤ ck1 ∧ ck1 ≤ 9223372036854775807) ∧ (-9223372036854775808 ≤ ca1 ∧ ca1 ≤ 9223372036854775807) ∧ (-9223372036854775808 ≤ cg1 ∧ cg1 ≤ 9223372036854775807)) (w2 : (Lit.int .i64 a2).wf = true) :
    Calls Try.prog 4 #[.slice a0 z0.length cap0, .agg #[.int .i64 cs1, .int .i64 ck1, .int .i64 ca1, .int .i64 cg1], .int .i64 a2] w fun e w' => e = .returned (.bool true) ∧ Below w.heap.size w w' := by
  have HAL := Lib.hid (fun W => alive14_any W)
  obtain ⟨hl0, hwf0⟩ := w0
  have b2 := bounds_i64 w2
  have hcl := hl0.2.1
  have hcm := hl0.2.2
  unfold maxLen at hcm
  have hb0 : Below w.heap.size w (w.alloc (.cells #[.int .i64 cs1, .int .i64 ck1, .int .i64 ca1, .int .i64 cg1] 24)) := (Below.refl _ _).alloc (Nat.le_refl _) _
  have hg0 : (w.alloc (.cells #[.int .i64 cs1, .int .i64 ck1, .int .i64 ca1, .int .i64 cg1] 24)).heap[w.heap.size]? = some (.cells #[.int .i64 cs1, .int .i64 ck1, .int .i64 ca1, .int .i64 cg1] 24) := heap_alloc_new _ _
  have H0 := Lib.hid (And.intro hb0 (And.intro hg0 (show (w.alloc (.cells #[.int .i64 cs1, .int .i64 ck1, .int .i64 ca1, .int .i64 cg1] 24)).heap.size = w.heap.size + 1 by simp)))
  have HL0 := Lib.hid hl0
  have HVD := Lib.hid (fun (W : World) (hb : Below w.heap.size w W) (hl : z0.length ≤ 1000000000) => vdrop_any W (fun b => b < w.heap.size) z0 a0 cap0 (hl0.below hb fun _ h => h) (fun _ h => Nat.lt_of_lt_of_le h hb.size) hwf0 cs1 ck1 ca1 cg1 a2 w1.2.1.2 w1.2.2.1.2 b2 hl)
  have HC0 := Lib.hid (fun (W : World) (h : W.heap[w.heap.size]? = some (.cells #[.int .i64 cs1, .int .i64 ck1, .int .i64 ca1, .int .i64 cg1] 24)) => show W.cell? ⟨w.heap.size, 0, none⟩ = some (.int .i64 cs1) ∧ W.cell? ⟨w.heap.size, 1, none⟩ = some (.int .i64 ck1) ∧ W.cell? ⟨w.heap.size, 2, none⟩ = some (.int .i64 ca1) ∧ W.cell? ⟨w.heap.size, 3, none⟩ = some (.int .i64 cg1) from ⟨by unfold World.cell?; rw [h]; rfl, by unfold World.cell?; rw [h]; rfl, by unfold World.cell?; rw [h]; rfl, by unfold World.cell?; rw [h]; rfl⟩)
  clear hl0 hwf0 b2 w1 w2 hb0 hg0
  go_enter Try.func4, Try.ntmps4
  go_wp2_with fail
  refine (HAL.out _).mono ?_
  rintro e w3 ⟨rfl, hb1⟩
  have HB3 := Lib.hid (H0.out.1.trans (hb1.mono (by rw [H0.out.2.2]; omega)))
  have HG3 : Hid (w3.heap[w.heap.size]? = some (.cells #[.int .i64 cs1, .int .i64 ck1, .int .i64 ca1, .int .i64 cg1] 24)) := Lib.hid ((hb1.block _ (by rw [H0.out.2.2]; omega)).trans H0.out.2.1)
  clear hb1 HAL H0
  obtain ⟨k0, k1, k2, k3⟩ := HC0.out w3 HG3.out
  by_cases h1 : 50 < z0.length
  · have q1 : decide ((50 : Int) < (z0.length : Int)) = true := decide_eq_true (by omega)
    clear HVD HC0 HL0
    go_wp2_with fail
    go_ret
    exact ⟨rfl, HB3.out⟩
  have q1 : decide ((50 : Int) < (z0.length : Int)) = false := decide_eq_false (by omega)
  by_cases h2 : a2 < -1125899906842624
  · have q2 : decide (a2 < -1125899906842624) = true := decide_eq_true (by omega)
    clear HVD HC0 HL0
    go_wp2_with fail
    go_ret
    exact ⟨rfl, HB3.out⟩
  have q2 : decide (a2 < -1125899906842624) = false := decide_eq_false (by omega)
  by_cases h3 : 1125899906842624 < a2
  · have q3 : decide (1125899906842624 < a2) = true := decide_eq_true (by omega)
    clear HVD HC0 HL0
    go_wp2_with fail
    go_ret
    exact ⟨rfl, HB3.out⟩
  have q3 : decide (1125899906842624 < a2) = false := decide_eq_false (by omega)
  by_cases h4 : 1125899906842624 < ca1
  · have q4 : decide (1125899906842624 < ca1) = true := decide_eq_true (by omega)
    clear HVD HC0 HL0
    go_wp2_with fail
    go_ret
    exact ⟨rfl, HB3.out⟩
  have q4 : decide (1125899906842624 < ca1) = false := decide_eq_false (by omega)
  by_cases h5 : 1125899906842624 < ck1
  · have q5 : decide (1125899906842624 < ck1) = true := decide_eq_true (by omega)
    clear HVD HC0 HL0
    go_wp2_with fail
    go_ret
    exact ⟨rfl, HB3.out⟩
  have q5 : decide (1125899906842624 < ck1) = false := decide_eq_false (by omega)
  have HN := Lib.hid (And.intro h2 (And.intro h3 (And.intro h4 h5)))
  have hlen : z0.length ≤ 50 := by omega
  have HLI := Lib.hid (HL0.out.below HB3.out fun _ h => h)
  clear h1 h2 h3 h4 h5 HL0
  go_wp2_with fail
  go_loop [8] (fun iv => ∃ i : Nat, iv = .int .i64 i ∧ i ≤ z0.length ∧ ∀ j (h : j < z0.length), j < i → SmallS z0[j]) (fun iv => z0.length - (intOf iv).toNat)
  case atStart => exact ⟨0, rfl, Nat.zero_le _, fun j _ h => absurd h (by omega)⟩
  case round =>
    obtain ⟨i, rfl, hi, hsm⟩ := hrel
    have HSM := Lib.hid hsm
    clear hsm
    by_cases hlt : i < z0.length
    · obtain ⟨b, off, B, c, rfl, hb, hs, hc, hrin⟩ := SegsLie.at_ HLI.out hlt
      obtain ⟨c0, c1, c2, c3, c4, c5, c6, c7, c8, c9⟩ := hc
      obtain ⟨z, hz⟩ : ∃ z, z0[i].size = z := ⟨_, rfl⟩
      obtain ⟨t, ht⟩ : ∃ t, z0[i].time = t := ⟨_, rfl⟩
      rw [hz] at c8
      rw [ht] at c2
      have HZT := Lib.hid (And.intro hz ht)
      clear c0 c1 c3 c4 c5 c6 c7 c9 hz ht hb hs hrin HVD HC0
      by_cases h1 : z < 0
      · have r1 : decide (z < 0) = true := decide_eq_true h1
        go_wp2_with fail
        go_ret
        exact ⟨rfl, HB3.out⟩
      have r1 : decide (z < 0) = false := decide_eq_false h1
      by_cases h2 : 1125899906842624 < z
      · have r2 : decide (1125899906842624 < z) = true := decide_eq_true h2
        go_wp2_with fail
        go_ret
        exact ⟨rfl, HB3.out⟩
      have r2 : decide (1125899906842624 < z) = false := decide_eq_false h2
      by_cases h3 : t < -1125899906842624
      · have r3 : decide (t < -1125899906842624) = true := decide_eq_true h3
        go_wp2_with fail
        go_ret
        exact ⟨rfl, HB3.out⟩
      have r3 : decide (t < -1125899906842624) = false := decide_eq_false h3
      by_cases h4 : 1125899906842624 < t
      · have r4 : decide (1125899906842624 < t) = true := decide_eq_true h4
        go_wp2_with fail
        go_ret
        exact ⟨rfl, HB3.out⟩
      have r4 : decide (1125899906842624 < t) = false := decide_eq_false h4
      have HF : Hid (∀ j (h : j < z0.length), j < i + 1 → SmallS z0[j]) := Lib.hid (fun j h hj => by
        rcases Nat.lt_or_ge j i with h9 | h9
        · exact HSM.out j h h9
        · obtain rfl : j = i := by omega
          unfold SmallS
          rw [HZT.out.1, HZT.out.2]
          omega)
      have HLT := Lib.hid hlt
      clear HSM h1 h2 h3 h4
      go_wp2_with fail
      go_round
      case rel => exact ⟨i + 1, by go_num, HLT.out, HF.out⟩
      case measure => simp [intOf]; have := HLT.out; omega
    · obtain rfl : i = z0.length := by omega
      have HS : Hid (∀ j (h : j < z0.length), SmallS z0[j]) := Lib.hid fun j h => HSM.out j h h
      clear HSM
      go_wp2_with fail
      refine (HVD.out w3 HB3.out (by omega)).mono ?_
      rintro e w4 ⟨rfl, hb4⟩
      have HB4 := Lib.hid (HB3.out.trans (hb4.mono HB3.out.size))
      have HG4 : Hid (w4.heap[w.heap.size]? = some (.cells #[.int .i64 cs1, .int .i64 ck1, .int .i64 ca1, .int .i64 cg1] 24)) := Lib.hid ((hb4.block _ (Array.getElem?_eq_some_iff.1 HG3.out).1).trans HG3.out)
      have HLI4 := Lib.hid (HLI.out.below hb4 fun b h => Nat.lt_of_lt_of_le h HB3.out.size)
      have HDL := Lib.hid (fun i (h1 : i < dropL ck1 ca1 a2 z0) h => dropL_shut (keep := ck1) (age := ca1) (now := a2) (l := z0) (i := i) h1 h)
      have hDle := dropL_le ck1 ca1 a2 z0
      obtain ⟨D, hD⟩ : ∃ D, dropL ck1 ca1 a2 z0 = D := ⟨_, rfl⟩
      rw [hD] at HDL hDle ⊢
      have HD := Lib.hid hD
      have q6 : decide ((D : Int) < 0) = false := decide_eq_false (by omega)
      have q7 : decide ((z0.length : Int) < (D : Int)) = false := decide_eq_false (by omega)
      clear hb4 hD HVD HB3 HG3 HLI k0 k1 k2 k3 hi hlt
      obtain ⟨k0, k1, k2, k3⟩ := HC0.out w4 HG4.out
      go_wp2_with fail
      go_loop [10] (fun iv => ∃ i : Nat, iv = .int .i64 i ∧ i ≤ D) (fun iv => D - (intOf iv).toNat)
      case atStart => exact ⟨0, rfl, Nat.zero_le _⟩
      case round =>
        obtain ⟨i, rfl, hi⟩ := hrel
        by_cases hlt : i < D
        · obtain ⟨b, off, B, c, rfl, hb, hs, hc, hrin⟩ := SegsLie.at_ HLI4.out (show i < z0.length by omega)
          obtain ⟨c0, c1, c2, c3, c4, c5, c6, c7, c8, c9⟩ := hc
          rw [HDL.out i hlt (by omega)] at c5
          have hil : i < z0.length := by omega
          have HLT := Lib.hid hlt
          have hq : decide ((i : Int) < (D : Int)) = true := decide_eq_true (by omega)
          clear c0 c1 c2 c3 c4 c6 c7 c8 c9 hb hs hrin
          go_wp2_with fail
          go_round
          case rel => exact ⟨i + 1, by go_num, HLT.out⟩
          case measure => simp [intOf]; have := HLT.out; omega
        · obtain rfl : i = D := by omega
          have hq : decide ((i : Int) < (i : Int)) = false := decide_eq_false (by omega)
          clear HDL
          by_cases hca : ca1 ≤ 0
          · have g1 : decide (ca1 ≤ 0) = true := decide_eq_true hca
            by_cases hck : ck1 ≤ 0
            · have g2 : decide (ck1 ≤ 0) = true := decide_eq_true hck
              have hd0 : i = 0 := by rw [← HD.out]; exact dropL_none z0 hck hca
              have hd1 : ((i : Int) == 0) = true := by rw [hd0]; rfl
              clear hd0
              go_wp2_with fail
              go_ret
              exact ⟨rfl, HB4.out⟩
            · have g2 : decide (ck1 ≤ 0) = false := decide_eq_false hck
              by_cases hfull : i = z0.length
              · have e1 : ((i : Int) == (z0.length : Int)) = true := by simp [hfull]
                clear hfull
                go_wp2_with fail
                go_ret
                exact ⟨rfl, HB4.out⟩
              have e1 : ((i : Int) == (z0.length : Int)) = false := by simp only [beq_eq_false_iff_ne, ne_eq]; omega
              have hil : i < z0.length := by omega
              obtain ⟨b, off, B, c, rfl, hb, hs, hc, hrin⟩ := SegsLie.at_ HLI4.out hil
              obtain ⟨c0, c1, c2, c3, c4, c5, c6, c7, c8, c9⟩ := hc
              have HLF := Lib.hid (fun hs => dropL_left HD.out hil hs)
              have HST := Lib.hid (HS.out i hil)
              obtain ⟨t, ht⟩ : ∃ t, z0[i].time = t := ⟨_, rfl⟩
              obtain ⟨sh, hsh⟩ : ∃ sh, z0[i].shut = sh := ⟨_, rfl⟩
              have HT := Lib.hid ht
              have HSH := Lib.hid hsh
              rw [ht] at c2
              rw [hsh] at c5
              clear c0 c1 c3 c4 c6 c7 c8 c9 hb hs hrin ht hsh hfull
              cases sh with
              | false =>
                go_wp2_with fail
                go_ret
                exact ⟨rfl, HB4.out⟩
              | true =>
                have hl1 := HLF.out HSH.out
                have hst := HST.out.2
                rw [HT.out] at hl1 hst
                have hst1 := hst.1
                have hst2 := hst.2
                have hn1 := HN.out.1
                have hn2 := HN.out.2.1
                have HL1 := Lib.hid hl1
                clear HLF HST HSH hl1 hst
                go_wp2_with fail
                go_loop [11, 12] (fun sv iv => ∃ j : Nat, iv = .int .i64 j ∧ i ≤ j ∧ j ≤ z0.length ∧ sv = .int .i64 (sizesL (z0.drop i) - sizesL (z0.drop j)) ∧ 0 ≤ sizesL (z0.drop i) - sizesL (z0.drop j) ∧ sizesL (z0.drop i) - sizesL (z0.drop j) ≤ (j : Int) * 1125899906842624) (fun _ iv => z0.length - (intOf iv).toNat)
                case atStart => exact ⟨i, rfl, Nat.le_refl _, Nat.le_of_lt hil, by rw [Int.sub_self], by omega, by omega⟩
                case round =>
                  obtain ⟨j, rfl, hij, hj, rfl, hlo, hhi⟩ := hrel
                  obtain ⟨T, hT⟩ : ∃ T, sizesL (z0.drop i) - sizesL (z0.drop j) = T := ⟨_, rfl⟩
                  rw [hT] at hlo hhi ⊢
                  have HTT := Lib.hid hT
                  clear hT
                  by_cases hlt2 : j < z0.length
                  · obtain ⟨b2, off2, B2, cc2, he2, hb2, hs2, hc2, hrin2⟩ := SegsLie.at_ HLI4.out hlt2
                    obtain ⟨rfl, rfl⟩ : b = b2 ∧ off = off2 := by injection he2 with he2; injection he2 with x1 x2; exact ⟨x1, x2⟩
                    obtain ⟨d0, d1, d2, d3, d4, d5, d6, d7, d8, d9⟩ := hc2
                    have hsm := HS.out j hlt2
                    have HSD := Lib.hid (sizesL_drop hlt2)
                    rw [small_plus hsm] at HSD
                    obtain ⟨z, hz⟩ : ∃ z, z0[j].size = z := ⟨_, rfl⟩
                    have hz1 := hsm.1.1
                    have hz2 := hsm.1.2
                    rw [hz] at d8 HSD hz1 hz2
                    have hjn : (j : Int) ≤ 50 := by omega
                    have HF : Hid (T + z = sizesL (z0.drop i) - sizesL (z0.drop (j + 1)) ∧ 0 ≤ T + z ∧ T + z ≤ ((j + 1 : Nat) : Int) * 1125899906842624) := Lib.hid (by have h1 := HTT.out; have h2 := HSD.out; omega)
                    have HLT2 := Lib.hid (And.intro hlt2 hij)
                    have hTb : T ≤ 1000000000000000000 := by omega
                    clear d0 d1 d2 d3 d4 d5 d6 d7 d9 hz hsm HSD HTT hrin2 hb2 hs2 he2 hhi
                    go_wp2_with fail
                    go_round
                    case rel => exact ⟨j + 1, by go_num, by have := HLT2.out.2; omega, HLT2.out.1, congrArg (Value.int .i64) HF.out.1, by rw [← HF.out.1]; exact HF.out.2.1, by rw [← HF.out.1]; exact HF.out.2.2⟩
                    case measure => simp [intOf]; have := HLT2.out.1; omega
                  · obtain rfl : j = z0.length := by omega
                    have hT2 : T = sizesL (z0.drop i) := by have h1 := HTT.out; rw [List.drop_length] at h1; change sizesL (z0.drop i) - 0 = T at h1; omega
                    have f2 : decide (T ≤ ck1) = true := decide_eq_true (by rw [hT2]; exact HL1.out.2 (by omega))
                    have HB5 : Hid (∀ nq, Below w.heap.size w (w4.drewN nq)) := Lib.hid fun nq => below_dr HB4.out nq
                    clear hT2 HTT HL1
                    go_wp2_with fail
                    go_quiet (fail)
                    go_wp2_with fail
                    go_ret
                    exact ⟨rfl, HB5.out _⟩
          · have g1 : decide (ca1 ≤ 0) = false := decide_eq_false hca
            by_cases hck : ck1 ≤ 0
            · have g2 : decide (ck1 ≤ 0) = true := decide_eq_true hck
              by_cases hfull : i = z0.length
              · have e1 : ((i : Int) == (z0.length : Int)) = true := by simp [hfull]
                clear hfull
                go_wp2_with fail
                go_ret
                exact ⟨rfl, HB4.out⟩
              have e1 : ((i : Int) == (z0.length : Int)) = false := by simp only [beq_eq_false_iff_ne, ne_eq]; omega
              have hil : i < z0.length := by omega
              obtain ⟨b, off, B, c, rfl, hb, hs, hc, hrin⟩ := SegsLie.at_ HLI4.out hil
              obtain ⟨c0, c1, c2, c3, c4, c5, c6, c7, c8, c9⟩ := hc
              have HLF := Lib.hid (fun hs => dropL_left HD.out hil hs)
              have HST := Lib.hid (HS.out i hil)
              obtain ⟨t, ht⟩ : ∃ t, z0[i].time = t := ⟨_, rfl⟩
              obtain ⟨sh, hsh⟩ : ∃ sh, z0[i].shut = sh := ⟨_, rfl⟩
              have HT := Lib.hid ht
              have HSH := Lib.hid hsh
              rw [ht] at c2
              rw [hsh] at c5
              clear c0 c1 c3 c4 c6 c7 c8 c9 hb hs hrin ht hsh hfull
              cases sh with
              | false =>
                go_wp2_with fail
                go_ret
                exact ⟨rfl, HB4.out⟩
              | true =>
                have hl1 := HLF.out HSH.out
                have hst := HST.out.2
                rw [HT.out] at hl1 hst
                have hst1 := hst.1
                have hst2 := hst.2
                have hn1 := HN.out.1
                have hn2 := HN.out.2.1
                have HL1 := Lib.hid hl1
                clear HLF HST HSH hl1 hst
                go_wp2_with fail
                go_loop [11, 12] (fun sv iv => ∃ j : Nat, iv = .int .i64 j ∧ i ≤ j ∧ j ≤ z0.length ∧ sv = .int .i64 (sizesL (z0.drop i) - sizesL (z0.drop j)) ∧ 0 ≤ sizesL (z0.drop i) - sizesL (z0.drop j) ∧ sizesL (z0.drop i) - sizesL (z0.drop j) ≤ (j : Int) * 1125899906842624) (fun _ iv => z0.length - (intOf iv).toNat)
                case atStart => exact ⟨i, rfl, Nat.le_refl _, Nat.le_of_lt hil, by rw [Int.sub_self], by omega, by omega⟩
                case round =>
                  obtain ⟨j, rfl, hij, hj, rfl, hlo, hhi⟩ := hrel
                  obtain ⟨T, hT⟩ : ∃ T, sizesL (z0.drop i) - sizesL (z0.drop j) = T := ⟨_, rfl⟩
                  rw [hT] at hlo hhi ⊢
                  have HTT := Lib.hid hT
                  clear hT
                  by_cases hlt2 : j < z0.length
                  · obtain ⟨b2, off2, B2, cc2, he2, hb2, hs2, hc2, hrin2⟩ := SegsLie.at_ HLI4.out hlt2
                    obtain ⟨rfl, rfl⟩ : b = b2 ∧ off = off2 := by injection he2 with he2; injection he2 with x1 x2; exact ⟨x1, x2⟩
                    obtain ⟨d0, d1, d2, d3, d4, d5, d6, d7, d8, d9⟩ := hc2
                    have hsm := HS.out j hlt2
                    have HSD := Lib.hid (sizesL_drop hlt2)
                    rw [small_plus hsm] at HSD
                    obtain ⟨z, hz⟩ : ∃ z, z0[j].size = z := ⟨_, rfl⟩
                    have hz1 := hsm.1.1
                    have hz2 := hsm.1.2
                    rw [hz] at d8 HSD hz1 hz2
                    have hjn : (j : Int) ≤ 50 := by omega
                    have HF : Hid (T + z = sizesL (z0.drop i) - sizesL (z0.drop (j + 1)) ∧ 0 ≤ T + z ∧ T + z ≤ ((j + 1 : Nat) : Int) * 1125899906842624) := Lib.hid (by have h1 := HTT.out; have h2 := HSD.out; omega)
                    have HLT2 := Lib.hid (And.intro hlt2 hij)
                    have hTb : T ≤ 1000000000000000000 := by omega
                    clear d0 d1 d2 d3 d4 d5 d6 d7 d9 hz hsm HSD HTT hrin2 hb2 hs2 he2 hhi
                    go_wp2_with fail
                    go_round
                    case rel => exact ⟨j + 1, by go_num, by have := HLT2.out.2; omega, HLT2.out.1, congrArg (Value.int .i64) HF.out.1, by rw [← HF.out.1]; exact HF.out.2.1, by rw [← HF.out.1]; exact HF.out.2.2⟩
                    case measure => simp [intOf]; have := HLT2.out.1; omega
                  · obtain rfl : j = z0.length := by omega
                    have hT2 : T = sizesL (z0.drop i) := by have h1 := HTT.out; rw [List.drop_length] at h1; change sizesL (z0.drop i) - 0 = T at h1; omega
                    have f1 : decide (a2 - t ≤ ca1) = true := decide_eq_true (HL1.out.1 (by omega))
                    have HB5 : Hid (∀ nq, Below w.heap.size w (w4.drewN nq)) := Lib.hid fun nq => below_dr HB4.out nq
                    clear hT2 HTT HL1
                    go_wp2_with fail
                    go_quiet (fail)
                    go_wp2_with fail
                    go_ret
                    exact ⟨rfl, HB5.out _⟩
            · have g2 : decide (ck1 ≤ 0) = false := decide_eq_false hck
              by_cases hfull : i = z0.length
              · have e1 : ((i : Int) == (z0.length : Int)) = true := by simp [hfull]
                clear hfull
                go_wp2_with fail
                go_ret
                exact ⟨rfl, HB4.out⟩
              have e1 : ((i : Int) == (z0.length : Int)) = false := by simp only [beq_eq_false_iff_ne, ne_eq]; omega
              have hil : i < z0.length := by omega
              obtain ⟨b, off, B, c, rfl, hb, hs, hc, hrin⟩ := SegsLie.at_ HLI4.out hil
              obtain ⟨c0, c1, c2, c3, c4, c5, c6, c7, c8, c9⟩ := hc
              have HLF := Lib.hid (fun hs => dropL_left HD.out hil hs)
              have HST := Lib.hid (HS.out i hil)
              obtain ⟨t, ht⟩ : ∃ t, z0[i].time = t := ⟨_, rfl⟩
              obtain ⟨sh, hsh⟩ : ∃ sh, z0[i].shut = sh := ⟨_, rfl⟩
              have HT := Lib.hid ht
              have HSH := Lib.hid hsh
              rw [ht] at c2
              rw [hsh] at c5
              clear c0 c1 c3 c4 c6 c7 c8 c9 hb hs hrin ht hsh hfull
              cases sh with
              | false =>
                go_wp2_with fail
                go_ret
                exact ⟨rfl, HB4.out⟩
              | true =>
                have hl1 := HLF.out HSH.out
                have hst := HST.out.2
                rw [HT.out] at hl1 hst
                have hst1 := hst.1
                have hst2 := hst.2
                have hn1 := HN.out.1
                have hn2 := HN.out.2.1
                have HL1 := Lib.hid hl1
                clear HLF HST HSH hl1 hst
                go_wp2_with fail
                go_loop [11, 12] (fun sv iv => ∃ j : Nat, iv = .int .i64 j ∧ i ≤ j ∧ j ≤ z0.length ∧ sv = .int .i64 (sizesL (z0.drop i) - sizesL (z0.drop j)) ∧ 0 ≤ sizesL (z0.drop i) - sizesL (z0.drop j) ∧ sizesL (z0.drop i) - sizesL (z0.drop j) ≤ (j : Int) * 1125899906842624) (fun _ iv => z0.length - (intOf iv).toNat)
                case atStart => exact ⟨i, rfl, Nat.le_refl _, Nat.le_of_lt hil, by rw [Int.sub_self], by omega, by omega⟩
                case round =>
                  obtain ⟨j, rfl, hij, hj, rfl, hlo, hhi⟩ := hrel
                  obtain ⟨T, hT⟩ : ∃ T, sizesL (z0.drop i) - sizesL (z0.drop j) = T := ⟨_, rfl⟩
                  rw [hT] at hlo hhi ⊢
                  have HTT := Lib.hid hT
                  clear hT
                  by_cases hlt2 : j < z0.length
                  · obtain ⟨b2, off2, B2, cc2, he2, hb2, hs2, hc2, hrin2⟩ := SegsLie.at_ HLI4.out hlt2
                    obtain ⟨rfl, rfl⟩ : b = b2 ∧ off = off2 := by injection he2 with he2; injection he2 with x1 x2; exact ⟨x1, x2⟩
                    obtain ⟨d0, d1, d2, d3, d4, d5, d6, d7, d8, d9⟩ := hc2
                    have hsm := HS.out j hlt2
                    have HSD := Lib.hid (sizesL_drop hlt2)
                    rw [small_plus hsm] at HSD
                    obtain ⟨z, hz⟩ : ∃ z, z0[j].size = z := ⟨_, rfl⟩
                    have hz1 := hsm.1.1
                    have hz2 := hsm.1.2
                    rw [hz] at d8 HSD hz1 hz2
                    have hjn : (j : Int) ≤ 50 := by omega
                    have HF : Hid (T + z = sizesL (z0.drop i) - sizesL (z0.drop (j + 1)) ∧ 0 ≤ T + z ∧ T + z ≤ ((j + 1 : Nat) : Int) * 1125899906842624) := Lib.hid (by have h1 := HTT.out; have h2 := HSD.out; omega)
                    have HLT2 := Lib.hid (And.intro hlt2 hij)
                    have hTb : T ≤ 1000000000000000000 := by omega
                    clear d0 d1 d2 d3 d4 d5 d6 d7 d9 hz hsm HSD HTT hrin2 hb2 hs2 he2 hhi
                    go_wp2_with fail
                    go_round
                    case rel => exact ⟨j + 1, by go_num, by have := HLT2.out.2; omega, HLT2.out.1, congrArg (Value.int .i64) HF.out.1, by rw [← HF.out.1]; exact HF.out.2.1, by rw [← HF.out.1]; exact HF.out.2.2⟩
                    case measure => simp [intOf]; have := HLT2.out.1; omega
                  · obtain rfl : j = z0.length := by omega
                    have hT2 : T = sizesL (z0.drop i) := by have h1 := HTT.out; rw [List.drop_length] at h1; change sizesL (z0.drop i) - 0 = T at h1; omega
                    have f1 : decide (a2 - t ≤ ca1) = true := decide_eq_true (HL1.out.1 (by omega))
                    have f2 : decide (T ≤ ck1) = true := decide_eq_true (by rw [hT2]; exact HL1.out.2 (by omega))
                    have HB5 : Hid (∀ nq, Below w.heap.size w (w4.drewN nq)) := Lib.hid fun nq => below_dr HB4.out nq
                    clear hT2 HTT HL1
                    go_wp2_with fail
                    go_quiet (fail)
                    go_wp2_with fail
                    go_ret
                    exact ⟨rfl, HB5.out _⟩

set_option maxRecDepth 100000 in
theorem lifted (os : Os) (started : os.Started) (H : Type) (enc : TypeId × Value → H) :
    ReturnsInHanded {} Try.checked os 4 .any (Rows.retainWholeSpec.pre6 enc Try.prog Try.f4 Rows.retainWholeRow.domain false) (Rows.retainWholeSpec.post enc Try.prog Try.f4 false true false false) := by
  refine returnsInHanded_of_change (C := Try.checked) own started (by kernel_rfl) Try.func4
    (ChangeSpec.witness6 (enc := enc) (C := Try.checked) false ⟨#[], #[.slice none 0 0, .agg #[.int .i64 0, .int .i64 0, .int .i64 0, .int .i64 0], .int .i64 0], []⟩ 8 (by kernel_rfl) (by kernel_rfl) (by kernel_rfl) (by kernel_rfl)) ?_
  intro W base args ds gs before hval0 hW hcnd _
  have hval : ∀ (j : Nat) t v, Try.f4.params[j]? = some t → args[j]? = some v → Value.okWide Try.prog W .any base t v := hval0
  have hW' := hW
  obtain ⟨p, q, hA0, hV, rfl, hfz, hnd⟩ := hW
  have hA : DataW.TrodAll enc Try.prog W 0 (fun _ => true) true Try.f4.params.toList args.toList ds p := hA0
  rw [Try.params4] at hA hval
  obtain ⟨v0, vs0, d0, ds0, p0, q0, hargs, rfl, rfl, h0, r0⟩ := trodAll_cons hA
  obtain ⟨v1, vs1, d1, ds1, p1, q1, rfl, rfl, rfl, h1, r1⟩ := trodAll_cons r0
  obtain ⟨v2, vs2, d2, ds2, p2, q2, rfl, rfl, rfl, h2, r2⟩ := trodAll_cons r1
  obtain ⟨rfl, rfl, rfl⟩ := trodAll_nil r2
  obtain rfl : args = #[v0, v1, v2] := by cases args; simp_all
  obtain ⟨rfl, rfl⟩ := trodVars_none hV
  have k0 := h0
  have lt0 : ∀ x ∈ p0, x.block < W.heap.size := by obtain ⟨m, hm⟩ := k0; exact DataW.trod_lt m _ _ _ hm
  obtain ⟨a0, cap0, z0, rfl, w0⟩ := segs_came (hval 0 22 v0 rfl rfl) h0
  have k1 := h1
  have lt1 : ∀ x ∈ p1, x.block < W.heap.size := by obtain ⟨m, hm⟩ := k1; exact DataW.trod_lt m _ _ _ hm
  obtain ⟨cs1, ck1, ca1, cg1, rfl, w1⟩ := conf_came (hval 1 24 v1 rfl rfl) h1
  obtain ⟨a2, rfl, rfl, rfl, w2⟩ := open_int Try.underlying3 (hval 2 3 v2 rfl rfl) h2
  clear hA0 hval0
  refine (walk a0 cap0 z0 cs1 ck1 ca1 cg1 a2 W w0 w1 w2).mono fun e W' ⟨he, bel⟩ => ?_
  subst he
  exact ⟨_, rfl, _, _, _, [], _, [], hW', trodAll_mk1 (shut_bool Try.underlying4 _), (trodAll_cons_mk (Below.trod laidOut (by kernel_rfl) (of_decide_eq_true (by kernel_rfl)) k0 bel lt0) (trodAll_cons_mk (Below.trod laidOut (by kernel_rfl) (of_decide_eq_true (by kernel_rfl)) k1 bel lt1) (trodAll_cons_mk (shut_int Try.underlying3 w2) trodAll_mk0))), rfl, bel.frame _, fun h => by cases h⟩

theorem over : Rows.retainWholeRow.holds Try.pinned (OpenSpec.ofChange Rows.retainWholeSpec) :=
  OpenClaim.holds_of_wide 4 Try.f4 rfl rfl rfl rfl rfl rfl rfl ⟨rfl, rfl, rfl, rfl, rfl⟩ rfl rfl rfl rfl rfl (by kernel_rfl) Try.func4 (by kernel_rfl)
    (of_decide_eq_true (by kernel_rfl)) (by unfold Func.isWrapper; first | (rw [if_pos (by decide +kernel)]; kernel_rfl) | (rw [if_neg (by decide +kernel)]; exact ⟨rfl, rfl⟩))
    (fun os started H enc _ => lifted os started H enc)

theorem proved : Rows.RetainWholeSaid := over
#print axioms proved
end Go.Proofs.Ytoienjlpncphgaa.retainWhole
