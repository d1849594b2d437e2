/- A contract of the program's own Drop (chapter 14). -/
import Derived.Test.YtoienjlpncphgaaVSurplus
import Derived.Deep.QuietTactic
import Derived.BigQuiet
namespace Go.Proofs.Ytoienjlpncphgaa
open Go.RowKit

set_option maxHeartbeats 3200000 in
theorem vdrop_any (w : World) (S : Nat → Prop) (ss : List LSeg) (A : Option Addr) (cap : Nat) (h : RowsLie segRep w S A ss cap) (hS : ∀ b, S b → b < w.heap.size) (hwf : ∀ s ∈ ss, s.wf) (cs ck ca cg now : Int)
    (hk : ck ≤ 9223372036854775807) (ha : ca ≤ 9223372036854775807) (hn : -9223372036854775808 ≤ now ∧ now ≤ 9223372036854775807) (hl : ss.length ≤ 1000000000) :
    Calls Try.prog 7 #[.slice A ss.length cap, .agg #[.int .i64 cs, .int .i64 ck, .int .i64 ca, .int .i64 cg], .int .i64 now] w (fun e w' => e = .returned (.int .i64 (dropL ck ca now ss : Nat)) ∧ Below w.heap.size w w') := by
  have H := Lib.hid h
  have HW := Lib.hid hwf
  have HN := Lib.hid hn
  have hcl := h.2.1
  have hcm := h.2.2
  unfold maxLen at hcm
  have hb1 : Below w.heap.size w (w.alloc (.cells #[.int .i64 cs, .int .i64 ck, .int .i64 ca, .int .i64 cg] 24)) := (Below.refl _ _).alloc (Nat.le_refl _) _
  have hw1 := heap_alloc_new w (.cells #[.int .i64 cs, .int .i64 ck, .int .i64 ca, .int .i64 cg] 24)
  have HC := Lib.hid (surplus_any _ S ss A cap (h.below hb1 hS) hwf ck hk hl)
  have hsz : (w.alloc (.cells #[.int .i64 cs, .int .i64 ck, .int .i64 ca, .int .i64 cg] 24)).heap.size = w.heap.size + 1 := by simp
  have HB1 := Lib.hid (And.intro (And.intro hb1 hw1) hsz)
  clear h hwf hb1 hw1 hn hsz
  go_enter Try.func7, Try.ntmps7
  go_wp2_with fail
  refine HC.out.mono ?_
  rintro e w1 ⟨m, rfl, hm, rfl⟩
  have HM := Lib.hid hm
  have hml := hm.1
  clear HC hm
  go_wp2_with fail
  go_loopw [17] (fun iv wr => ∃ i : Nat, iv = .int .i64 i ∧ i ≤ ss.length ∧ Below (w.heap.size + 1) (w.alloc (.cells #[.int .i64 cs, .int .i64 ck, .int .i64 ca, .int .i64 cg] 24)) wr ∧ i + dropL ck ca now (ss.drop i) = dropL ck ca now ss) (fun iv _ => ss.length - (intOf iv).toNat)
  case atStart => exact ⟨0, rfl, Nat.zero_le _, Below.refl _ _, by rw [Nat.zero_add]; rfl⟩
  case round =>
    obtain ⟨i, rfl, hi, hbel, hE⟩ := hrel
    have hb2 : Below w.heap.size w wr := HB1.out.1.1.trans (hbel.mono (by omega))
    have hbs : w.heap.size + 1 ≤ wr.heap.size := by have := hbel.size; rw [HB1.out.2] at this; exact this
    have hcf : wr.heap[w.heap.size]? = some (.cells #[.int .i64 cs, .int .i64 ck, .int .i64 ca, .int .i64 cg] 24) := (hbel.block _ (by omega)).trans HB1.out.1.2
    have k1 : wr.cell? ⟨w.heap.size, 1, none⟩ = some (.int .i64 ck) := by unfold World.cell?; rw [hcf]; rfl
    have k2 : wr.cell? ⟨w.heap.size, 2, none⟩ = some (.int .i64 ca) := by unfold World.cell?; rw [hcf]; rfl
    by_cases hlt : i < ss.length
    · have q0 : decide ((i : Int) < (ss.length : Int)) = true := decide_eq_true (by omega)
      obtain ⟨b, off, B, c, rfl, hbl, hs, hc, hrin⟩ := SegsLie.at_ H.out hlt
      obtain ⟨c0, c1, c2, c3, c4, c5, c6, c7, c8, c9⟩ := hc.keep (w' := wr) fun j => hb2.cell hbl
      have HTW : Hid (-9223372036854775808 ≤ ss[i].time ∧ ss[i].time ≤ 9223372036854775807) := Lib.hid (HW.out _ (List.getElem_mem hlt)).2.2.1
      have HY := Lib.hid (fun hg => dropL_yes (keep := ck) (age := ca) (now := now) hlt hg)
      have HZ := Lib.hid (fun hg => dropL_no (keep := ck) (age := ca) (now := now) hlt hg)
      have HG : Hid (goesB ck ca now ss[i] (ss.drop i) = (ss[i].shut && (oldB ca now ss[i].time || decide (i < m)))) := Lib.hid (by unfold goesB; rw [HM.out.2 i hlt])
      obtain ⟨s, hs2⟩ : ∃ s, ss[i] = s := ⟨_, rfl⟩
      rw [hs2] at c0 c1 c2 c3 c4 c5 c6 c7 c8 c9 HTW HY HZ HG
      obtain ⟨sb, sn, st, sg, sr, su, scl, sre, sz, sm⟩ := s
      dsimp only at c0 c1 c2 c3 c4 c5 c6 c7 c8 c9 HTW HG
      have HE := Lib.hid hE
      have HLT := Lib.hid hlt
      have HB3 : Hid (Below (w.heap.size + 1) (w.alloc (.cells #[.int .i64 cs, .int .i64 ck, .int .i64 ca, .int .i64 cg] 24)) (wr.alloc (.cells #[.int .i64 sb, .int .i64 sn, .int .i64 st, .int .i64 sg, .slice B sr.length c, .bool su, .bool scl, .bool sre, .int .i64 sz, .int .u32 sm] 31))) := Lib.hid (hbel.trans (((Below.refl _ _).alloc (Nat.le_refl _) _).mono hbs))
      have j1 : (wr.alloc (.cells #[.int .i64 sb, .int .i64 sn, .int .i64 st, .int .i64 sg, .slice B sr.length c, .bool su, .bool scl, .bool sre, .int .i64 sz, .int .u32 sm] 31)).cell? ⟨w.heap.size, 1, none⟩ = some (.int .i64 ck) := (((Below.refl wr.heap.size wr).alloc (Nat.le_refl _) _).cell (p := ⟨w.heap.size, 1, none⟩) (by show w.heap.size < _; omega)).trans k1
      have j2 : (wr.alloc (.cells #[.int .i64 sb, .int .i64 sn, .int .i64 st, .int .i64 sg, .slice B sr.length c, .bool su, .bool scl, .bool sre, .int .i64 sz, .int .u32 sm] 31)).cell? ⟨w.heap.size, 2, none⟩ = some (.int .i64 ca) := (((Below.refl wr.heap.size wr).alloc (Nat.le_refl _) _).cell (p := ⟨w.heap.size, 2, none⟩) (by show w.heap.size < _; omega)).trans k2
      have j3 : (wr.alloc (.cells #[.int .i64 sb, .int .i64 sn, .int .i64 st, .int .i64 sg, .slice B sr.length c, .bool su, .bool scl, .bool sre, .int .i64 sz, .int .u32 sm] 31)).cell? ⟨wr.heap.size, 2, none⟩ = some (.int .i64 st) := by unfold World.cell?; rw [heap_alloc_new]; rfl
      have j4 : (wr.alloc (.cells #[.int .i64 sb, .int .i64 sn, .int .i64 st, .int .i64 sg, .slice B sr.length c, .bool su, .bool scl, .bool sre, .int .i64 sz, .int .u32 sm] 31)).cell? ⟨wr.heap.size, 5, none⟩ = some (.bool su) := by unfold World.cell?; rw [heap_alloc_new]; rfl
      have HBH := Lib.hid (fun (h0 : 0 < ca) W => behind_any W st now ca HTW.out HN.out ⟨h0, ha⟩)
      have HBF : Hid (Below w.heap.size w (wr.alloc (.cells #[.int .i64 sb, .int .i64 sn, .int .i64 st, .int .i64 sg, .slice B sr.length c, .bool su, .bool scl, .bool sre, .int .i64 sz, .int .u32 sm] 31))) := Lib.hid (HB1.out.1.1.trans (HB3.out.mono (by omega)))
      clear hs2 hc hE hrin hlt hbl hs hbel hb2 hcf
      by_cases ha0 : 0 < ca
      · have q1 : decide (0 < ca) = true := decide_eq_true ha0
        by_cases hol : ca < now - st
        · have q2 : decide (ca < now - st) = true := decide_eq_true hol
          rw [q2] at HBH
          cases su with
          | false =>
            have HF : Hid (dropL ck ca now ss = i) := Lib.hid (by have h1 := HE.out; have h2 := HZ.out (by rw [HG.out]; rfl); omega)
            clear HE HY HZ HG
            go_wp2_with (first | (go_at_call 10; refine (HBH.out ha0 _).mono ?_; rintro e w9 ⟨rfl, rfl⟩))
            go_ret
            exact ⟨by rw [HF.out]; rfl, HBF.out⟩
          | true =>
            have HF : Hid ((i + 1) + dropL ck ca now (ss.drop (i + 1)) = dropL ck ca now ss) := Lib.hid (by have h1 := HE.out; have h2 := HY.out (by rw [HG.out]; unfold oldB; rw [q1, q2]; rfl); omega)
            clear HE HY HZ HG
            go_wp2_with (first | (go_at_call 10; refine (HBH.out ha0 _).mono ?_; rintro e w9 ⟨rfl, rfl⟩))
            go_roundw
            case rel => exact ⟨i + 1, by go_num, HLT.out, HB3.out, HF.out⟩
            case measure => simp [intOf]; have := HLT.out; omega
        · have q2 : decide (ca < now - st) = false := decide_eq_false hol
          rw [q2] at HBH
          cases su with
          | false =>
            have HF : Hid (dropL ck ca now ss = i) := Lib.hid (by have h1 := HE.out; have h2 := HZ.out (by rw [HG.out]; rfl); omega)
            clear HE HY HZ HG
            go_wp2_with (first | (go_at_call 10; refine (HBH.out ha0 _).mono ?_; rintro e w9 ⟨rfl, rfl⟩))
            go_ret
            exact ⟨by rw [HF.out]; rfl, HBF.out⟩
          | true =>
            by_cases hm1 : i < m
            · have r1 : decide ((m : Int) ≤ (i : Int)) = false := decide_eq_false (by omega)
              have HF : Hid ((i + 1) + dropL ck ca now (ss.drop (i + 1)) = dropL ck ca now ss) := Lib.hid (by have h1 := HE.out; have h2 := HY.out (by rw [HG.out]; unfold oldB; rw [q1, q2]; rw [decide_eq_true hm1]; rfl); omega)
              clear HE HY HZ HG
              go_wp2_with (first | (go_at_call 10; refine (HBH.out ha0 _).mono ?_; rintro e w9 ⟨rfl, rfl⟩))
              go_roundw
              case rel => exact ⟨i + 1, by go_num, HLT.out, HB3.out, HF.out⟩
              case measure => simp [intOf]; have := HLT.out; omega
            · have r1 : decide ((m : Int) ≤ (i : Int)) = true := decide_eq_true (by omega)
              have HF : Hid (dropL ck ca now ss = i) := Lib.hid (by have h1 := HE.out; have h2 := HZ.out (by rw [HG.out]; unfold oldB; rw [q1, q2]; rw [decide_eq_false hm1]; rfl); omega)
              clear HE HY HZ HG
              go_wp2_with (first | (go_at_call 10; refine (HBH.out ha0 _).mono ?_; rintro e w9 ⟨rfl, rfl⟩))
              go_ret
              exact ⟨by rw [HF.out]; rfl, HBF.out⟩
      · have q1 : decide (0 < ca) = false := decide_eq_false ha0
        cases su with
        | false =>
          have HF : Hid (dropL ck ca now ss = i) := Lib.hid (by have h1 := HE.out; have h2 := HZ.out (by rw [HG.out]; rfl); omega)
          clear HE HY HZ HG
          go_wp2_with fail
          go_ret
          exact ⟨by rw [HF.out]; rfl, HBF.out⟩
        | true =>
          by_cases hm1 : i < m
          · have r1 : decide ((m : Int) ≤ (i : Int)) = false := decide_eq_false (by omega)
            have HF : Hid ((i + 1) + dropL ck ca now (ss.drop (i + 1)) = dropL ck ca now ss) := Lib.hid (by have h1 := HE.out; have h2 := HY.out (by rw [HG.out]; unfold oldB; rw [q1]; rw [decide_eq_true hm1]; rfl); omega)
            clear HE HY HZ HG
            go_wp2_with fail
            go_roundw
            case rel => exact ⟨i + 1, by go_num, HLT.out, HB3.out, HF.out⟩
            case measure => simp [intOf]; have := HLT.out; omega
          · have r1 : decide ((m : Int) ≤ (i : Int)) = true := decide_eq_true (by omega)
            have HF : Hid (dropL ck ca now ss = i) := Lib.hid (by have h1 := HE.out; have h2 := HZ.out (by rw [HG.out]; unfold oldB; rw [q1]; rw [decide_eq_false hm1]; rfl); omega)
            clear HE HY HZ HG
            go_wp2_with fail
            go_ret
            exact ⟨by rw [HF.out]; rfl, HBF.out⟩
    · obtain rfl : i = ss.length := by omega
      have HF : Hid (dropL ck ca now ss = ss.length) := Lib.hid (by rw [List.drop_length] at hE; exact hE.symm.trans (by show ss.length + 0 = _; omega))
      have HBF := Lib.hid hb2
      clear hE hbel
      go_wp2_with fail
      go_ret
      exact ⟨by rw [HF.out]; rfl, HBF.out⟩
end Go.Proofs.Ytoienjlpncphgaa
