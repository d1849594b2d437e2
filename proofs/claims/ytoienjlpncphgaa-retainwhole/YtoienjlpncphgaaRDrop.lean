/- Contracts of the document's own above and Drop (chapter 14). -/
import Derived.Test.YtoienjlpncphgaaSegLie
import Derived.Test.YtoienjlpncphgaaROlder
import Derived.Deep.QuietTactic
import Derived.BigQuiet
namespace Go.Proofs.Ytoienjlpncphgaa
open Go.RowKit

set_option maxHeartbeats 1600000 in
theorem above_any (w : World) (S : Nat → Prop) (ss : List LSeg) (A : Option Addr) (cap : Nat) (h : RowsLie segRep w S A ss cap) (hwf : ∀ s ∈ ss, s.wf) (keep : Int) (h0 : 0 ≤ keep) (hk : keep ≤ 9223372036854775807) (hl : ss.length ≤ 1000000000) :
    Calls Try.prog 12 #[.slice A ss.length cap, .int .i64 keep] w (fun e w' => e = .returned (.bool (decide (keep < sizesL ss))) ∧ w' = w) := by
  have H := Lib.hid h
  have HW := Lib.hid hwf
  have hcl := h.2.1
  have hcm := h.2.2
  unfold maxLen at hcm
  clear h hwf
  go_enter Try.func12, Try.ntmps12
  go_wp2_with fail
  go_loop [5, 6] (fun lv iv => ∃ i : Nat, iv = .int .i64 i ∧ i ≤ ss.length ∧ lv = .int .i64 (keep - (sizesL ss - sizesL (ss.drop i))) ∧ 0 ≤ keep - (sizesL ss - sizesL (ss.drop i))) (fun _ iv => ss.length - (intOf iv).toNat)
  case atStart => exact ⟨0, rfl, Nat.zero_le _, by rw [List.drop_zero, Int.sub_self, Int.sub_zero], by rw [List.drop_zero]; omega⟩
  case round =>
    obtain ⟨i, rfl, hi, rfl, hle⟩ := hrel
    obtain ⟨L, hL⟩ : ∃ L, keep - (sizesL ss - sizesL (ss.drop i)) = L := ⟨_, rfl⟩
    rw [hL] at hle ⊢
    have hLk : L ≤ keep := by have := sizesL_anti ss (Nat.zero_le i); rw [List.drop_zero] at this; omega
    have HL := Lib.hid hL
    clear hL
    by_cases hlt : i < ss.length
    · obtain ⟨b, off, B, c, rfl, hb, hs, hc, hrin⟩ := SegsLie.at_ H.out hlt
      have hSZ := HW.out _ (List.getElem_mem hlt)
      have HD := Lib.hid (sizesL_drop hlt)
      have HP := Lib.hid (sizesL_nonneg (ss.drop (i + 1)))
      obtain ⟨s, hs2⟩ : ∃ s, ss[i] = s := ⟨_, rfl⟩
      rw [hs2] at hc hSZ HD
      obtain ⟨c0, c1, c2, c3, c4, c5, c6, c7, c8, c9⟩ := hc
      obtain ⟨z, hz⟩ : ∃ z, s.size = z := ⟨_, rfl⟩
      rw [hz] at c8 HD
      have hzb : -9223372036854775808 ≤ z ∧ z ≤ 9223372036854775807 := by rw [← hz]; exact hSZ.2.2.2.2.1
      clear c0 c1 c2 c3 c4 c5 c6 c7 c9 hs2 hz hSZ hb hs hrin
      by_cases hq : L < z
      · have r1 : decide (L < z) = true := decide_eq_true hq
        have HF : Hid (decide (keep < sizesL ss) = true) := Lib.hid (decide_eq_true (by have h1 := HD.out; have h2 := HL.out; have h3 := HP.out; have h4 := plus_ge z; omega))
        clear HD HL HP
        go_wp2_with fail
        go_ret
        exact ⟨by rw [HF.out]; rfl, rfl⟩
      · have r1 : decide (L < z) = false := decide_eq_false hq
        by_cases hz0 : 0 < z
        · have r2 : decide (0 < z) = true := decide_eq_true hz0
          have HF : Hid (0 ≤ keep - (sizesL ss - sizesL (ss.drop (i + 1))) ∧ L - z = keep - (sizesL ss - sizesL (ss.drop (i + 1)))) := Lib.hid (by have h1 := HD.out; have h2 := HL.out; have h5 : plus z = z := (by unfold plus; rw [if_neg (by omega)]); rw [h5] at h1; omega)
          have HLT := Lib.hid hlt
          clear HD HL HP hlt
          go_wp2_with fail
          go_round
          case rel => exact ⟨i + 1, by go_num, HLT.out, congrArg (Value.int .i64) HF.out.2, HF.out.1⟩
          case measure => simp [intOf]; have := HLT.out; omega
        · have r2 : decide (0 < z) = false := decide_eq_false hz0
          have HF : Hid (0 ≤ keep - (sizesL ss - sizesL (ss.drop (i + 1))) ∧ L = keep - (sizesL ss - sizesL (ss.drop (i + 1)))) := Lib.hid (by have h1 := HD.out; have h2 := HL.out; have h5 : plus z = 0 := (by unfold plus; split <;> omega); rw [h5] at h1; omega)
          have HLT := Lib.hid hlt
          clear HD HL HP hlt
          go_wp2_with fail
          go_round
          case rel => exact ⟨i + 1, by go_num, HLT.out, congrArg (Value.int .i64) HF.out.2, HF.out.1⟩
          case measure => simp [intOf]; have := HLT.out; omega
    · obtain rfl : i = ss.length := by omega
      have HF : Hid (decide (keep < sizesL ss) = false) := Lib.hid (decide_eq_false (by have h2 := HL.out; rw [List.drop_length] at h2; change keep - (sizesL ss - 0) = L at h2; omega))
      clear HL
      go_wp2_with fail
      go_ret
      exact ⟨by rw [HF.out]; rfl, rfl⟩

theorem below_dr {B : Nat} {w w' : World} (h : Below B w w') (m : Nat) : Below B w (w'.drewN m) := ⟨h.os, h.tape, h.output, h.size, h.block⟩
set_option maxHeartbeats 6400000 in
theorem refdrop_any (w : World) (S : Nat → Prop) (ss : List LSeg) (A : Option Addr) (cap : Nat) (h : RowsLie segRep w S A ss cap) (hS : ∀ b, S b → b < w.heap.size) (hwf : ∀ s ∈ ss, s.wf) (cs ck ca cg now : Int)
    (hk : ck ≤ 9223372036854775807) (ha : -9223372036854775808 ≤ ca ∧ ca ≤ 9223372036854775807) (hn : -9223372036854775808 ≤ now ∧ now ≤ 9223372036854775807) (hl : ss.length ≤ 1000000000) :
    Calls Try.prog 8 #[.slice A ss.length cap, .agg #[.int .i64 cs, .int .i64 ck, .int .i64 ca, .int .i64 cg], .int .i64 now] w (fun e w' => e = .returned (.int .i64 (dropL ck ca now ss : Nat)) ∧ Below w.heap.size w w') := by
  have HW := Lib.hid hwf
  have HN := Lib.hid (And.intro hn ha)
  have hcl := h.2.1
  have hcm := h.2.2
  unfold maxLen at hcm
  obtain ⟨w1, hw1⟩ : ∃ w1, w.alloc (.cells #[.int .i64 cs, .int .i64 ck, .int .i64 ca, .int .i64 cg] 24) = w1 := ⟨_, rfl⟩
  have hb1 : Below w.heap.size w w1 := by rw [← hw1]; exact (Below.refl _ _).alloc (Nat.le_refl _) _
  have hc1 : w1.heap[w.heap.size]? = some (.cells #[.int .i64 cs, .int .i64 ck, .int .i64 ca, .int .i64 cg] 24) := by rw [← hw1]; exact heap_alloc_new _ _
  have H := Lib.hid (h.below hb1 hS)
  have HB1 := Lib.hid (And.intro hb1 hc1)
  clear h hwf hb1 hc1 hn
  go_enter Try.func8, Try.ntmps8
  go_wp2_with fail
  clear hw1
  go_loopw [7] (fun iv wr => ∃ i : Nat, iv = .int .i64 i ∧ i ≤ ss.length ∧ wr.heap = w1.heap ∧ Below w.heap.size w wr ∧ i + dropL ck ca now (ss.drop i) = dropL ck ca now ss) (fun iv _ => ss.length - (intOf iv).toNat)
  case atStart => exact ⟨0, rfl, Nat.zero_le _, rfl, HB1.out.1, by rw [Nat.zero_add]; rfl⟩
  case round =>
    obtain ⟨i, rfl, hi, hh, hbw, hE⟩ := hrel
    have hk1 : wr.cell? ⟨w.heap.size, 1, none⟩ = some (.int .i64 ck) := by unfold World.cell?; rw [hh, HB1.out.2]; rfl
    have hk2 : wr.cell? ⟨w.heap.size, 2, none⟩ = some (.int .i64 ca) := by unfold World.cell?; rw [hh, HB1.out.2]; rfl
    have HH := Lib.hid (And.intro hh hbw)
    clear hh hbw
    by_cases hlt : i < ss.length
    · obtain ⟨b, off, B, c, rfl, hbl, hs, hc, hrin⟩ := SegsLie.at_ H.out hlt
      obtain ⟨c0, c1, c2, c3, c4, c5, c6, c7, c8, c9⟩ := hc.keep (w' := wr) fun j => by unfold World.cell?; rw [HH.out.1]
      have HTW : Hid (-9223372036854775808 ≤ ss[i].time ∧ ss[i].time ≤ 9223372036854775807) := Lib.hid (HW.out _ (List.getElem_mem hlt)).2.2.1
      have HY := Lib.hid (fun hg => dropL_yes (keep := ck) (age := ca) (now := now) hlt hg)
      have HZ := Lib.hid (fun hg => dropL_no (keep := ck) (age := ca) (now := now) hlt hg)
      have HDR : Hid (RowsLie segRep w1 S (some ⟨b, off + i * 10, none⟩) (ss.drop i) (cap - i)) := Lib.hid (SegsLie.drop H.out i hi)
      have HAB := Lib.hid (fun (h0 : 0 < ck) W (hW : W.heap = w1.heap) => above_any W S (ss.drop i) (some ⟨b, off + i * 10, none⟩) (cap - i) (HDR.out.keep (by rw [hW]; exact Nat.le_refl _) fun _ _ => by rw [hW]) (fun s hs => HW.out s (List.mem_of_mem_drop hs)) ck (Int.le_of_lt h0) hk (by rw [List.length_drop]; omega))
      simp only [List.length_drop] at HAB
      have HG : Hid (goesB ck ca now ss[i] (ss.drop i) = (ss[i].shut && (oldB ca now ss[i].time || muchB ck (ss.drop i)))) := Lib.hid rfl
      obtain ⟨s, hs2⟩ : ∃ s, ss[i] = s := ⟨_, rfl⟩
      rw [hs2] at c0 c1 c2 c3 c4 c5 c6 c7 c8 c9 HTW HY HZ HG
      obtain ⟨sb, sn, st, sg, sr, su, scl, sre, sz, sm⟩ := s
      dsimp only at c0 c1 c2 c3 c4 c5 c6 c7 c8 c9 HTW HG
      have HE := Lib.hid hE
      have HLT := Lib.hid hlt
      have HOL := Lib.hid (fun W => (older_any W st now ca HTW.out HN.out.1 HN.out.2).mono fun e w' h => (⟨h.1, h.2.symm⟩ : e = .returned (.bool (decide (ca < now - st))) ∧ w' = W))
      unfold oldB muchB at HG
      generalize hM : decide (ck < sizesL (ss.drop i)) = M at HAB HG
      generalize hO : decide (ca < now - st) = O at HOL HG
      clear hs2 hc hE hbl hs hrin c0 c1 c3 c4 c6 c7 c8 c9 hO hM HDR H HTW
      cases su with
      | false =>
        have HF : Hid (dropL ck ca now ss = i) := Lib.hid (by have h1 := HE.out; have h2 := HZ.out (by rw [HG.out]; rfl); omega)
        clear HE HY HZ HG HAB HOL
        go_wp2_with fail
        go_ret
        exact ⟨by rw [HF.out]; rfl, HH.out.2⟩
      | true =>
        by_cases ha0 : 0 < ca
        · have q1 : decide (0 < ca) = true := decide_eq_true ha0
          cases O with
          | true =>
            by_cases hk0 : 0 < ck
            · have q3 : decide (0 < ck) = true := decide_eq_true hk0
              cases M with
              | true =>
                have HF : Hid ((i + 1) + dropL ck ca now (ss.drop (i + 1)) = dropL ck ca now ss) := Lib.hid (by have h1 := HE.out; have h2 := HY.out (by rw [HG.out]; rw [q1]; rw [q3]; rfl); omega)
                clear HE HY HZ HG
                go_wp2_with fail
                go_quiet (first | (go_at_call 11; refine Calls.quiet_of_same (HOL.out _)))
                have j1 : (wr.drewN nq).cell? ⟨w.heap.size, 1, none⟩ = some (.int .i64 ck) := hk1
                have HH2 : Hid ((wr.drewN nq).heap = w1.heap ∧ Below w.heap.size w (wr.drewN nq)) := Lib.hid ⟨HH.out.1, below_dr HH.out.2 _⟩
                clear hk1 hk2 c2 c5 HH
                generalize wr.drewN nq = wq at *
                go_wp2_with fail
                go_quiet (first | (go_at_call 12; refine Calls.quiet_of_same (HAB.out hk0 _ HH2.out.1)))
                have HH3 : Hid ((wq.drewN nq).heap = w1.heap ∧ Below w.heap.size w (wq.drewN nq)) := Lib.hid ⟨HH2.out.1, below_dr HH2.out.2 _⟩
                clear j1 HH2
                generalize wq.drewN nq = wp at *
                go_wp2_with fail
                go_roundw
                case rel => exact ⟨i + 1, by go_num, HLT.out, HH3.out.1, HH3.out.2, HF.out⟩
                case measure => simp [intOf]; have := HLT.out; omega
              | false =>
                have HF : Hid ((i + 1) + dropL ck ca now (ss.drop (i + 1)) = dropL ck ca now ss) := Lib.hid (by have h1 := HE.out; have h2 := HY.out (by rw [HG.out]; rw [q1]; rw [q3]; rfl); omega)
                clear HE HY HZ HG
                go_wp2_with fail
                go_quiet (first | (go_at_call 11; refine Calls.quiet_of_same (HOL.out _)))
                have j1 : (wr.drewN nq).cell? ⟨w.heap.size, 1, none⟩ = some (.int .i64 ck) := hk1
                have HH2 : Hid ((wr.drewN nq).heap = w1.heap ∧ Below w.heap.size w (wr.drewN nq)) := Lib.hid ⟨HH.out.1, below_dr HH.out.2 _⟩
                clear hk1 hk2 c2 c5 HH
                generalize wr.drewN nq = wq at *
                go_wp2_with fail
                go_quiet (first | (go_at_call 12; refine Calls.quiet_of_same (HAB.out hk0 _ HH2.out.1)))
                have HH3 : Hid ((wq.drewN nq).heap = w1.heap ∧ Below w.heap.size w (wq.drewN nq)) := Lib.hid ⟨HH2.out.1, below_dr HH2.out.2 _⟩
                clear j1 HH2
                generalize wq.drewN nq = wp at *
                go_wp2_with fail
                go_roundw
                case rel => exact ⟨i + 1, by go_num, HLT.out, HH3.out.1, HH3.out.2, HF.out⟩
                case measure => simp [intOf]; have := HLT.out; omega
            · have q3 : decide (0 < ck) = false := decide_eq_false hk0
              have HF : Hid ((i + 1) + dropL ck ca now (ss.drop (i + 1)) = dropL ck ca now ss) := Lib.hid (by have h1 := HE.out; have h2 := HY.out (by rw [HG.out]; rw [q1]; rw [q3]; rfl); omega)
              clear HE HY HZ HG
              go_wp2_with fail
              go_quiet (first | (go_at_call 11; refine Calls.quiet_of_same (HOL.out _)))
              have j1 : (wr.drewN nq).cell? ⟨w.heap.size, 1, none⟩ = some (.int .i64 ck) := hk1
              have HH2 : Hid ((wr.drewN nq).heap = w1.heap ∧ Below w.heap.size w (wr.drewN nq)) := Lib.hid ⟨HH.out.1, below_dr HH.out.2 _⟩
              clear hk1 hk2 c2 c5 HH
              generalize wr.drewN nq = wq at *
              go_wp2_with fail
              go_quiet (fail)
              have HH3 : Hid ((wq.drewN nq).heap = w1.heap ∧ Below w.heap.size w (wq.drewN nq)) := Lib.hid ⟨HH2.out.1, below_dr HH2.out.2 _⟩
              clear j1 HH2
              generalize wq.drewN nq = wp at *
              go_wp2_with fail
              go_roundw
              case rel => exact ⟨i + 1, by go_num, HLT.out, HH3.out.1, HH3.out.2, HF.out⟩
              case measure => simp [intOf]; have := HLT.out; omega
          | false =>
            by_cases hk0 : 0 < ck
            · have q3 : decide (0 < ck) = true := decide_eq_true hk0
              cases M with
              | true =>
                have HF : Hid ((i + 1) + dropL ck ca now (ss.drop (i + 1)) = dropL ck ca now ss) := Lib.hid (by have h1 := HE.out; have h2 := HY.out (by rw [HG.out]; rw [q1]; rw [q3]; rfl); omega)
                clear HE HY HZ HG
                go_wp2_with fail
                go_quiet (first | (go_at_call 11; refine Calls.quiet_of_same (HOL.out _)))
                have j1 : (wr.drewN nq).cell? ⟨w.heap.size, 1, none⟩ = some (.int .i64 ck) := hk1
                have HH2 : Hid ((wr.drewN nq).heap = w1.heap ∧ Below w.heap.size w (wr.drewN nq)) := Lib.hid ⟨HH.out.1, below_dr HH.out.2 _⟩
                clear hk1 hk2 c2 c5 HH
                generalize wr.drewN nq = wq at *
                go_wp2_with fail
                go_quiet (first | (go_at_call 12; refine Calls.quiet_of_same (HAB.out hk0 _ HH2.out.1)))
                have HH3 : Hid ((wq.drewN nq).heap = w1.heap ∧ Below w.heap.size w (wq.drewN nq)) := Lib.hid ⟨HH2.out.1, below_dr HH2.out.2 _⟩
                clear j1 HH2
                generalize wq.drewN nq = wp at *
                go_wp2_with fail
                go_roundw
                case rel => exact ⟨i + 1, by go_num, HLT.out, HH3.out.1, HH3.out.2, HF.out⟩
                case measure => simp [intOf]; have := HLT.out; omega
              | false =>
                have HF : Hid (dropL ck ca now ss = i) := Lib.hid (by have h1 := HE.out; have h2 := HZ.out (by rw [HG.out]; rw [q1]; rw [q3]; rfl); omega)
                clear HE HY HZ HG
                go_wp2_with fail
                go_quiet (first | (go_at_call 11; refine Calls.quiet_of_same (HOL.out _)))
                have j1 : (wr.drewN nq).cell? ⟨w.heap.size, 1, none⟩ = some (.int .i64 ck) := hk1
                have HH2 : Hid ((wr.drewN nq).heap = w1.heap ∧ Below w.heap.size w (wr.drewN nq)) := Lib.hid ⟨HH.out.1, below_dr HH.out.2 _⟩
                clear hk1 hk2 c2 c5 HH
                generalize wr.drewN nq = wq at *
                go_wp2_with fail
                go_quiet (first | (go_at_call 12; refine Calls.quiet_of_same (HAB.out hk0 _ HH2.out.1)))
                have HH3 : Hid ((wq.drewN nq).heap = w1.heap ∧ Below w.heap.size w (wq.drewN nq)) := Lib.hid ⟨HH2.out.1, below_dr HH2.out.2 _⟩
                clear j1 HH2
                generalize wq.drewN nq = wp at *
                go_wp2_with fail
                go_ret
                exact ⟨by rw [HF.out]; rfl, HH3.out.2⟩
            · have q3 : decide (0 < ck) = false := decide_eq_false hk0
              have HF : Hid (dropL ck ca now ss = i) := Lib.hid (by have h1 := HE.out; have h2 := HZ.out (by rw [HG.out]; rw [q1]; rw [q3]; rfl); omega)
              clear HE HY HZ HG
              go_wp2_with fail
              go_quiet (first | (go_at_call 11; refine Calls.quiet_of_same (HOL.out _)))
              have j1 : (wr.drewN nq).cell? ⟨w.heap.size, 1, none⟩ = some (.int .i64 ck) := hk1
              have HH2 : Hid ((wr.drewN nq).heap = w1.heap ∧ Below w.heap.size w (wr.drewN nq)) := Lib.hid ⟨HH.out.1, below_dr HH.out.2 _⟩
              clear hk1 hk2 c2 c5 HH
              generalize wr.drewN nq = wq at *
              go_wp2_with fail
              go_quiet (fail)
              have HH3 : Hid ((wq.drewN nq).heap = w1.heap ∧ Below w.heap.size w (wq.drewN nq)) := Lib.hid ⟨HH2.out.1, below_dr HH2.out.2 _⟩
              clear j1 HH2
              generalize wq.drewN nq = wp at *
              go_wp2_with fail
              go_ret
              exact ⟨by rw [HF.out]; rfl, HH3.out.2⟩
        · have q1 : decide (0 < ca) = false := decide_eq_false ha0
          by_cases hk0 : 0 < ck
          · have q3 : decide (0 < ck) = true := decide_eq_true hk0
            cases M with
            | true =>
              have HF : Hid ((i + 1) + dropL ck ca now (ss.drop (i + 1)) = dropL ck ca now ss) := Lib.hid (by have h1 := HE.out; have h2 := HY.out (by rw [HG.out]; rw [q1]; rw [q3]; rfl); omega)
              clear HE HY HZ HG
              go_wp2_with fail
              go_quiet (fail)
              have j1 : (wr.drewN nq).cell? ⟨w.heap.size, 1, none⟩ = some (.int .i64 ck) := hk1
              have HH2 : Hid ((wr.drewN nq).heap = w1.heap ∧ Below w.heap.size w (wr.drewN nq)) := Lib.hid ⟨HH.out.1, below_dr HH.out.2 _⟩
              clear hk1 hk2 c2 c5 HH
              generalize wr.drewN nq = wq at *
              go_wp2_with fail
              go_quiet (first | (go_at_call 12; refine Calls.quiet_of_same (HAB.out hk0 _ HH2.out.1)))
              have HH3 : Hid ((wq.drewN nq).heap = w1.heap ∧ Below w.heap.size w (wq.drewN nq)) := Lib.hid ⟨HH2.out.1, below_dr HH2.out.2 _⟩
              clear j1 HH2
              generalize wq.drewN nq = wp at *
              go_wp2_with fail
              go_roundw
              case rel => exact ⟨i + 1, by go_num, HLT.out, HH3.out.1, HH3.out.2, HF.out⟩
              case measure => simp [intOf]; have := HLT.out; omega
            | false =>
              have HF : Hid (dropL ck ca now ss = i) := Lib.hid (by have h1 := HE.out; have h2 := HZ.out (by rw [HG.out]; rw [q1]; rw [q3]; rfl); omega)
              clear HE HY HZ HG
              go_wp2_with fail
              go_quiet (fail)
              have j1 : (wr.drewN nq).cell? ⟨w.heap.size, 1, none⟩ = some (.int .i64 ck) := hk1
              have HH2 : Hid ((wr.drewN nq).heap = w1.heap ∧ Below w.heap.size w (wr.drewN nq)) := Lib.hid ⟨HH.out.1, below_dr HH.out.2 _⟩
              clear hk1 hk2 c2 c5 HH
              generalize wr.drewN nq = wq at *
              go_wp2_with fail
              go_quiet (first | (go_at_call 12; refine Calls.quiet_of_same (HAB.out hk0 _ HH2.out.1)))
              have HH3 : Hid ((wq.drewN nq).heap = w1.heap ∧ Below w.heap.size w (wq.drewN nq)) := Lib.hid ⟨HH2.out.1, below_dr HH2.out.2 _⟩
              clear j1 HH2
              generalize wq.drewN nq = wp at *
              go_wp2_with fail
              go_ret
              exact ⟨by rw [HF.out]; rfl, HH3.out.2⟩
          · have q3 : decide (0 < ck) = false := decide_eq_false hk0
            have HF : Hid (dropL ck ca now ss = i) := Lib.hid (by have h1 := HE.out; have h2 := HZ.out (by rw [HG.out]; rw [q1]; rw [q3]; rfl); omega)
            clear HE HY HZ HG
            go_wp2_with fail
            go_quiet (fail)
            have j1 : (wr.drewN nq).cell? ⟨w.heap.size, 1, none⟩ = some (.int .i64 ck) := hk1
            have HH2 : Hid ((wr.drewN nq).heap = w1.heap ∧ Below w.heap.size w (wr.drewN nq)) := Lib.hid ⟨HH.out.1, below_dr HH.out.2 _⟩
            clear hk1 hk2 c2 c5 HH
            generalize wr.drewN nq = wq at *
            go_wp2_with fail
            go_quiet (fail)
            have HH3 : Hid ((wq.drewN nq).heap = w1.heap ∧ Below w.heap.size w (wq.drewN nq)) := Lib.hid ⟨HH2.out.1, below_dr HH2.out.2 _⟩
            clear j1 HH2
            generalize wq.drewN nq = wp at *
            go_wp2_with fail
            go_ret
            exact ⟨by rw [HF.out]; rfl, HH3.out.2⟩
    · obtain rfl : i = ss.length := by omega
      have HF : Hid (dropL ck ca now ss = ss.length) := Lib.hid (by rw [List.drop_length] at hE; exact hE.symm.trans (by show ss.length + 0 = _; omega))
      clear hE
      go_wp2_with fail
      go_ret
      exact ⟨by rw [HF.out]; rfl, HH.out.2⟩
end Go.Proofs.Ytoienjlpncphgaa
