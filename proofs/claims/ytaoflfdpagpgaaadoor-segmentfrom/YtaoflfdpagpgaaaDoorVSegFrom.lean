/- Contract of the program's own From: of records, those of an offset and more, so many at most. -/
import Derived.Test.YtaoflfdpagpgaaaDoorRSeg
namespace Go.Proofs.YtaoflfdpagpgaaaDoor
open Go.RowKit

set_option maxHeartbeats 1600000 in
theorem vsegfrom_any (w : World) (rs : List Rec) (A : Option Addr) (cap : Nat) (h : RecsLie w A rs cap) (offset max : Int) (hl : rs.length ≤ 1000000000) :
    Calls Tryd.prog 12 #[.slice A rs.length cap, .int .i64 offset, .int .i64 max] w (NewRecs w (fromM rs offset max)) := by
  have hcl := h.2.1
  have hcm := h.2.2.1
  unfold maxLen at hcm
  have H := Lib.hid h
  have hsub : ∀ i, ∀ r ∈ fromM (rs.take i) offset max, r.wf := fun i r hr => h.2.2.2 r (List.mem_of_mem_take (List.mem_filter.1 (List.mem_of_mem_take hr)).1)
  have HS := Lib.hid hsub
  have HL := Lib.hid hl
  clear h hsub hl
  go_enter Tryd.func12, Tryd.ntmps12
  go_wp2_with fail
  go_loopw [7, 12] (fun v iv wr => ∃ i : Nat, iv = .int .i64 i ∧ i ≤ rs.length ∧ OwnR wr w.heap.size v (fromM (rs.take i) offset max) ∧ Below w.heap.size w wr) (fun _ iv _ => rs.length - (intOf iv).toNat)
  case atStart => exact ⟨0, rfl, Nat.zero_le _, by rw [List.take_zero, from_nil]; exact OwnR.nil, Below.refl _ _⟩
  case round =>
    obtain ⟨i, rfl, hi, hown, hbel⟩ := hrel
    have hll := HL.out
    obtain ⟨B, c, rfl, hlie, hB⟩ := hown.parts (HS.out i)
    have HO := Lib.hid hown
    have HB := Lib.hid hbel
    have hcc := hlie.2.1
    have hcc2 := hlie.2.2.1
    unfold maxLen at hcc2
    clear hown hlie hB
    obtain ⟨k, hk⟩ : ∃ k, (fromM (rs.take i) offset max).length = k := ⟨_, rfl⟩
    have hkl : k ≤ i := by
      have := (from_length (rs.take i) offset max).1
      rw [List.length_take] at this
      omega
    rw [hk] at hcc
    have HK := Lib.hid hk
    by_cases hlt : i < rs.length
    · obtain ⟨b, off, rfl, hbl, hat⟩ := H.out.more hlt
      obtain ⟨a0, a1, a2, a3, a4⟩ := hat.keep (w' := wr) fun j => hbel.cell hbl
      obtain ⟨r, hr⟩ : ∃ r, rs[i] = r := ⟨_, rfl⟩
      rw [hr] at a0 a1 a2 a3 a4
      have HSN := Lib.hid (fun ho hm => from_snoc (l := rs) (offset := offset) (max := max) hlt ho hm)
      have HSK := Lib.hid (fun ho => from_skip (l := rs) (offset := offset) (max := max) hlt ho)
      rw [hr] at HSN HSK
      obtain ⟨xo, xt, xk, xv, xd⟩ := r
      dsimp only at a0 a1 a2 a3 a4 HSN HSK
      have hb3 := hbel.size
      have HBX := Lib.hid (HB.out.alloc hb3 (.cells #[.int .i64 xo, .int .i64 xt, .string xk, .string xv, .bool xd] 38))
      have HOX := Lib.hid (HO.out.alloc (.cells #[.int .i64 xo, .int .i64 xt, .string xk, .string xv, .bool xd] 38))
      rw [hk] at HOX
      have HSZ : Hid (wr.heap.size + 1 = (wr.alloc (.cells #[.int .i64 xo, .int .i64 xt, .string xk, .string xv, .bool xd] 38)).heap.size) := Lib.hid (by simp)
      clear hat hr hbl hbel
      by_cases hm : (k : Int) < max
      · have hq0 : decide (max ≤ (k : Int)) = false := decide_eq_false (by omega)
        by_cases ho : offset ≤ xo
        · have hq : decide (offset ≤ xo) = true := decide_eq_true ho
          have HE := Lib.hid (HSN.out ho (by rw [HK.out]; exact hm))
          clear HSN HSK
          rw [hk]
          go_wp2_with (at_builtin; refine wpList_append_rec rfl (.tmp 24) (.tmp 26) rfl w.heap.size (.slice B k c) (fromM (rs.take i) offset max) rfl _ ⟨xo, xt, xk, xv, xd⟩ rfl HOX.out (congrArg (fun k => Value.slice (some ⟨k, 0, none⟩) 1 1) HSZ.out) (by rw [HK.out]; omega) HBX.out.size ?_; intro v4 w4 hown4 hb4 _ _; have HO4 := Lib.hid hown4; have HB4 := Lib.hid hb4; clear hown4 hb4)
          go_roundw
          case rel => exact ⟨i + 1, by go_num, hlt, by rw [HE.out]; exact HO4.out, HBX.out.trans HB4.out⟩
          case measure => simp [intOf]; omega
        · have hq : decide (offset ≤ xo) = false := decide_eq_false ho
          have HE := Lib.hid (HSK.out ho)
          clear HSN HSK
          rw [hk]
          go_wp2_with fail
          go_roundw
          case rel => exact ⟨i + 1, by go_num, hlt, by rw [HE.out]; exact HOX.out, HBX.out⟩
          case measure => simp [intOf]; omega
      · have hq0 : decide (max ≤ (k : Int)) = true := decide_eq_true (by omega)
        have HE := Lib.hid (from_full (l := rs) (offset := offset) (max := max) i (by rw [hk]; omega))
        clear HSN HSK
        rw [hk]
        go_wp2_with fail
        go_ret
        exact ⟨_, rfl, by rw [HE.out]; exact HOX.out, HBX.out⟩
    · have HE := Lib.hid (from_all (l := rs) (offset := offset) (max := max) (i := i) (by omega))
      obtain rfl : i = rs.length := by omega
      clear hbel
      rw [hk]
      go_wp2_with fail
      go_ret
      exact ⟨_, rfl, by rw [← HE.out, ← HK.out]; exact HO.out, HB.out⟩
end Go.Proofs.YtaoflfdpagpgaaaDoor
