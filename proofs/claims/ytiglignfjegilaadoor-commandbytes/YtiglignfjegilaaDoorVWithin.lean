/- Contracts of the program's own within and batch: is a field within its bounds? -/
import Derived.Test.YtiglignfjegilaaDoorVAssert
import Derived.Test.YtiglignfjegilaaDoorValid
import Derived.Test.YtiglignfjegilaaDoorRecProg
namespace Go.Proofs.YtiglignfjegilaaDoor
open Go.RowKit

set_option maxHeartbeats 800000 in
theorem batch_any (w : World) (A : Option Addr) (rs : List Rec) (cap : Nat) (h : RecsLie w A rs cap) :
    Calls Tryd.prog 31 #[.slice A rs.length cap] w (fun e w' => e = .returned (.bool (decide (batch rs))) ∧ Below w.heap.size w w') := by
  have hcl := h.2.1
  have hcm := h.2.2.1
  unfold maxLen at hcm
  have H := Lib.hid h
  have HB := Lib.hid (Below.refl w.heap.size w)
  clear h
  by_cases h1 : rs.length < 1
  · have HN : Hid (decide (batch rs) = false) := Lib.hid (decide_eq_false fun hb => by have := hb.1; omega)
    have hq : decide ((rs.length : Int) < 1) = true := decide_eq_true (by omega)
    go_enter Tryd.func31, Tryd.ntmps31
    go_wp2_with fail
    go_ret
    exact ⟨congrArg (fun b => Ending.returned (.bool b)) HN.out.symm, HB.out⟩
  · have hq1 : decide ((rs.length : Int) < 1) = false := decide_eq_false (by omega)
    by_cases h50 : 50 < rs.length
    · have HN : Hid (decide (batch rs) = false) := Lib.hid (decide_eq_false fun hb => by have := hb.2.1; omega)
      have hq : decide ((50 : Int) < (rs.length : Int)) = true := decide_eq_true (by omega)
      go_enter Tryd.func31, Tryd.ntmps31
      go_wp2_with fail
      go_ret
      exact ⟨congrArg (fun b => Ending.returned (.bool b)) HN.out.symm, HB.out⟩
    · have hq : decide ((50 : Int) < (rs.length : Int)) = false := decide_eq_false (by omega)
      have HL := Lib.hid (And.intro h1 h50)
      go_enter Tryd.func31, Tryd.ntmps31
      go_wp2_with fail
      go_loopw [15] (fun iv wr => ∃ i : Nat, iv = .int .i64 i ∧ i ≤ rs.length ∧ (∀ r ∈ rs.take i, r.off = 0 ∧ r.right) ∧ Below w.heap.size w wr) (fun iv _ => rs.length - (intOf iv).toNat)
      case atStart => exact ⟨0, rfl, Nat.zero_le _, by simp, Below.refl _ _⟩
      case round =>
        obtain ⟨i, rfl, hi, hall, hbel⟩ := hrel
        by_cases hlt : i < rs.length
        · obtain ⟨b, off, rfl, hbl, hat⟩ := H.out.more hlt
          have HAT := Lib.hid (fun W (hb : Below w.heap.size w W) => hat.keep (w' := W) fun j => hb.cell hbl)
          obtain ⟨g0, g1, g2, g3, g4⟩ := HAT.out wr hbel
          have HWF := Lib.hid (H.out.2.2.2 _ (List.getElem_mem hlt))
          have HT : Hid (rs.take (i + 1) = rs.take i ++ [rs[i]]) := Lib.hid (List.take_succ_eq_append_getElem hlt)
          have HM := Lib.hid (List.getElem_mem hlt)
          obtain ⟨r, hr⟩ : ∃ r, rs[i] = r := ⟨_, rfl⟩
          rw [hr] at g0 g1 g2 g3 g4 HWF HT HM
          obtain ⟨xo, xt, xk, xv, xd⟩ := r
          dsimp only at g0 g1 g2 g3 g4
          have HRT := Lib.hid (fun W => rright_any ⟨xo, xt, xk, xv, xd⟩ W HWF.out)
          unfold recV at HRT
          dsimp only at HRT
          have hbs := hbel.size
          have HBX := Lib.hid (hbel.alloc hbs (.cells #[.int .i64 xo, .int .i64 xt, .string xk, .string xv, .bool xd] 39))
          have HA := Lib.hid hall
          have hnew : ∀ W, Below (wr.alloc (.cells #[.int .i64 xo, .int .i64 xt, .string xk, .string xv, .bool xd] 39)).heap.size (wr.alloc (.cells #[.int .i64 xo, .int .i64 xt, .string xk, .string xv, .bool xd] 39)) W → W.cell? ⟨wr.heap.size, 0, none⟩ = some (.int .i64 xo) := fun W hb => by
            have : W.heap[wr.heap.size]? = some (.cells #[.int .i64 xo, .int .i64 xt, .string xk, .string xv, .bool xd] 39) := by
              rw [hb.block _ (by simp)]
              show (wr.heap.push _)[wr.heap.size]? = _
              simp
            unfold World.cell?
            rw [this]
            rfl
          have HNW := Lib.hid hnew
          clear hat hr hbel hall hnew
          by_cases hrt : (⟨xo, xt, xk, xv, xd⟩ : Rec).right
          · have hq2 : decide (⟨xo, xt, xk, xv, xd⟩ : Rec).right = true := decide_eq_true hrt
            rw [hq2] at HRT
            have HR := Lib.hid hrt
            clear hrt hq2
            by_cases ho : xo = 0
            · subst ho
              go_wp2_with (go_at_call 42; refine (HRT.out _).mono ?_; rintro e w2 ⟨rfl, hb2⟩; have b0 := HNW.out w2 hb2; have HB2 := Lib.hid (HBX.out.trans (hb2.mono HBX.out.size)); clear hb2)
              go_roundw
              case rel =>
                refine ⟨i + 1, by go_num, hlt, ?_, HB2.out⟩
                rw [HT.out]
                intro q hq
                rcases List.mem_append.1 hq with hq | hq
                · exact HA.out q hq
                · rw [List.mem_singleton.1 hq]; exact ⟨rfl, HR.out⟩
              case measure => simp [intOf]; omega
            · have hob : (xo != 0) = true := by simpa using ho
              have HN : Hid (decide (batch rs) = false) := Lib.hid (decide_eq_false fun hb => ho (hb.2.2 _ HM.out).1)
              clear ho
              go_wp2_with (go_at_call 42; refine (HRT.out _).mono ?_; rintro e w2 ⟨rfl, hb2⟩; have b0 := HNW.out w2 hb2; have HB2 := Lib.hid (HBX.out.trans (hb2.mono HBX.out.size)); clear hb2)
              go_ret
              exact ⟨congrArg (fun b => Ending.returned (.bool b)) HN.out.symm, HB2.out⟩
          · have hq2 : decide (⟨xo, xt, xk, xv, xd⟩ : Rec).right = false := decide_eq_false hrt
            rw [hq2] at HRT
            have HN : Hid (decide (batch rs) = false) := Lib.hid (decide_eq_false fun hb => hrt (hb.2.2 _ HM.out).2)
            clear hrt hq2
            go_wp2_with (go_at_call 42; refine (HRT.out _).mono ?_; rintro e w2 ⟨rfl, hb2⟩; have HB2 := Lib.hid (HBX.out.trans (hb2.mono HBX.out.size)); clear hb2)
            go_ret
            exact ⟨congrArg (fun b => Ending.returned (.bool b)) HN.out.symm, HB2.out⟩
        · obtain rfl : i = rs.length := by omega
          have HA := Lib.hid hall
          have HBE := Lib.hid hbel
          clear hall hbel
          go_wp2_with fail
          go_ret
          refine ⟨?_, HBE.out⟩
          have h := HL.out
          have ha := HA.out
          rw [List.take_length] at ha
          have : batch rs := ⟨by omega, by omega, ha⟩
          exact congrArg (fun b => Ending.returned (.bool b)) (decide_eq_true this).symm
set_option maxHeartbeats 800000 in
theorem within_any (w : World) (hT : Tabs w) (g : Nat) (A : Option Addr) (cap : Nat) (c : Cmd) (f : Fld) (hf : f.good) (h : w.heap[g]? = some (cmdO (.slice A c.recs.length cap) c)) (hr : RecsLie w A c.recs cap) (hs : c.group.size ≤ maxLen) :
    Calls Tryd.prog 17 #[faceF g f] w (fun e w' => e = .returned (.bool (decide (f.ok c))) ∧ Below w.heap.size w w') := by
  have HB : Hid (Below w.heap.size w (w.alloc (.cells #[.pointer none, .int .i64 0, .int .i64 0] 59))) := Lib.hid ((Below.refl _ w).alloc (Nat.le_refl _) _)
  cases f with
  | num k lo hi =>
    have gk := num_at h hf.1
    have hlt := cell_block_lt gk
    have HD : Hid (decide (Fld.ok c (.num k lo hi)) = (decide (lo ≤ c.num k) && decide (c.num k ≤ hi))) := Lib.hid (by
      show decide (lo ≤ c.num k ∧ c.num k ≤ hi) = _
      rw [Bool.decide_and])
    obtain ⟨x, hx⟩ : ∃ x, c.num k = x := ⟨_, rfl⟩
    rw [hx] at gk HD
    clear h hr hx hf hT HB
    have hg2 : ∀ o, (w.alloc o).cell? ⟨g, k, none⟩ = some (.int .i64 x) := fun o => (World.cell?_alloc_lt _ _ _ hlt).trans gk
    have HB : ∀ o, Hid (Below w.heap.size w (w.alloc o)) := fun o => Lib.hid ((Below.refl _ w).alloc (Nat.le_refl _) _)
    unfold faceF
    have a_num := ta_num_num
    have a_recs := ta_num_recs
    have a_group := ta_num_group
    have a_sum := ta_num_sum
    go_enter Tryd.func17, Tryd.ntmps17
    by_cases h1 : lo ≤ x
    · have q1 : decide (lo ≤ x) = true := decide_eq_true h1
      rw [q1] at HD
      clear h1
      by_cases h2 : x ≤ hi
      · have q2 : decide (x ≤ hi) = true := decide_eq_true h2
        rw [q2] at HD
        clear h2
        go_upto_region 3 with fail
        go_quiet (fail)
        go_wp2_with fail
        go_ret
        exact ⟨congrArg (fun b => Ending.returned (.bool b)) HD.out.symm, below_drewN (HB _).out⟩
      · have q2 : decide (x ≤ hi) = false := decide_eq_false h2
        rw [q2] at HD
        clear h2
        go_upto_region 3 with fail
        go_quiet (fail)
        go_wp2_with fail
        go_ret
        exact ⟨congrArg (fun b => Ending.returned (.bool b)) HD.out.symm, below_drewN (HB _).out⟩
    · have q1 : decide (lo ≤ x) = false := decide_eq_false h1
      rw [q1] at HD
      clear h1
      go_upto_region 3 with fail
      go_quiet (fail)
      go_wp2_with fail
      go_ret
      exact ⟨congrArg (fun b => Ending.returned (.bool b)) HD.out.symm, below_drewN (HB _).out⟩
  | recs =>
    obtain ⟨_, _, _, g3, _⟩ := cmd_at h
    have hlt := cell_block_lt g3
    have hg2 : ∀ o, (w.alloc o).cell? ⟨g, 3, none⟩ = some (.slice A c.recs.length cap) := fun o => (World.cell?_alloc_lt _ _ _ hlt).trans g3
    have HR := Lib.hid (batch_any _ A c.recs cap (hr.below HB.out (Nat.le_refl _)))
    clear h hr hs hT
    unfold faceF
    have a_num := ta_recs_num
    have a_recs := ta_recs_recs
    have a_group := ta_recs_group
    have a_sum := ta_recs_sum
    go_enter Tryd.func17, Tryd.ntmps17
    go_wp2_with fail
    refine HR.out.mono ?_
    rintro e w2 ⟨rfl, hb2⟩
    have HB2 := Lib.hid (HB.out.trans (hb2.mono HB.out.size))
    clear hb2
    go_wp2_with fail
    go_ret
    exact ⟨rfl, HB2.out⟩
  | group =>
    obtain ⟨_, _, _, _, g4, _⟩ := cmd_at h
    have hlt := cell_block_lt g4
    have hg2 : ∀ o, (w.alloc o).cell? ⟨g, 4, none⟩ = some (.string c.group) := fun o => (World.cell?_alloc_lt _ _ _ hlt).trans g4
    have HR := Lib.hid (valid_any c.group _ hs (hT.below HB.out))
    clear h hr hs hT
    unfold faceF
    have a_num := ta_group_num
    have a_recs := ta_group_recs
    have a_group := ta_group_group
    have a_sum := ta_group_sum
    go_enter Tryd.func17, Tryd.ntmps17
    go_wp2_with fail
    refine HR.out.mono ?_
    rintro e w2 ⟨rfl, hb2⟩
    have HB2 := Lib.hid (HB.out.trans (hb2.mono HB.out.size))
    clear hb2
    go_wp2_with fail
    go_ret
    refine ⟨?_, HB2.out⟩
    exact congrArg (fun b => Ending.returned (.bool b)) (show validS c.group = decide (validS c.group = true) by rw [Bool.decide_eq_true])
  | sum =>
    clear h hr hs hT
    unfold faceF
    have a_num := ta_sum_num
    have a_recs := ta_sum_recs
    have a_group := ta_sum_group
    have a_sum := ta_sum_sum
    go_enter Tryd.func17, Tryd.ntmps17
    go_wp2_with fail
    go_ret
    exact ⟨rfl, HB.out⟩
end Go.Proofs.YtiglignfjegilaaDoor
