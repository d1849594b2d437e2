/- Contracts of the document's own SameRecords (of two lists that are alike), From and Bytes. -/
import Derived.Test.YtaoflfdpagpgaaaDoorSegNum
import Derived.Test.YtaoflfdpagpgaaaDoorRecsOwn
import Derived.Test.YtaoflfdpagpgaaaDoorRRecPut
import Derived.Test.YtaoflfdpagpgaaaDoorRFrPut
import Derived.Deep.QuietTactic
import Derived.BigQuiet
namespace Go.Proofs.YtaoflfdpagpgaaaDoor
open Go.RowKit

theorem own_none {k : IntKind} {e : TypeId} {w : World} {b n c : Nat} {A : Option Addr} {xs : List Int} (h : Own k e w b (.slice A n c) xs) : A = none → c = 0 := fun h0 => by
  subst h0
  rcases h.2 with ⟨e, _⟩ | ⟨g, cap, cur, e, _⟩
  · injection e
  · cases e
theorem RecsLie.more {w : World} {A : Option Addr} {rs : List Rec} {cap : Nat} (h : RecsLie w A rs cap) {i : Nat} (hi : i < rs.length) : ∃ b off, A = some ⟨b, off, none⟩ ∧ b < w.heap.size ∧ RecAt w b (off + i * 5) rs[i] := by
  obtain ⟨b, off, e, hb, hc⟩ := h.1 (by rintro rfl; simp at hi)
  exact ⟨b, off, e, hb, hc i hi⟩
set_option maxHeartbeats 1600000 in
theorem samerecs_any (w : World) (rs : List Rec) (A1 A2 : Option Addr) (c1 c2 : Nat) (h1 : RecsLie w A1 rs c1) (h2 : RecsLie w A2 rs c2) :
    Calls Tryd.prog 11 #[.slice A1 rs.length c1, .slice A2 rs.length c2] w fun e w' => e = .returned (.bool true) ∧ ∃ m, w' = w.drewN m := by
  have hq : ((rs.length : Int) != (rs.length : Int)) = false := by simp
  have hq2 : (rs.length != rs.length) = false := by simp
  have hcl := h1.2.1
  have hcl2 := h2.2.1
  have hcm := h1.2.2.1
  have hcm2 := h2.2.2.1
  unfold maxLen at hcm hcm2
  have H1 := Lib.hid h1
  have H2 := Lib.hid h2
  clear h1 h2
  go_enter Tryd.func11, Tryd.ntmps11
  go_wp2_with fail
  go_loopw [5] (fun iv wr => ∃ (i m : Nat), iv = .int .i64 i ∧ i ≤ rs.length ∧ wr = w.drewN m) (fun iv _ => rs.length - (intOf iv).toNat)
  case atStart => exact ⟨0, 0, rfl, Nat.zero_le _, rfl⟩
  case round =>
    obtain ⟨i, m, rfl, hi, rfl⟩ := hrel
    by_cases hlt : i < rs.length
    · obtain ⟨b1, o1, rfl, _, k1⟩ := H1.out.more hlt
      obtain ⟨b2, o2, rfl, _, k2⟩ := H2.out.more hlt
      have e1 : RecAt (w.drewN m) b1 (o1 + i * 5) rs[i] := k1
      have e2 : RecAt (w.drewN m) b2 (o2 + i * 5) rs[i] := k2
      obtain ⟨t, ht⟩ : ∃ t, rs[i] = t := ⟨_, rfl⟩
      rw [ht] at e1 e2
      obtain ⟨to, tt, tk, tv, td⟩ := t
      obtain ⟨a0, a1, a2, a3, a4⟩ := e1
      obtain ⟨d0, d1, d2, d3, d4⟩ := e2
      dsimp only at a0 a1 a2 a3 a4 d0 d1 d2 d3 d4
      have s1 : (to != to) = false := by simp
      have s2 : (tt != tt) = false := by simp
      have s3 : (tk.toList != tk.toList) = false := by simp
      have s4 : (tv.toList != tv.toList) = false := by simp
      have s5 : (td != td) = false := by simp
      have HW := Lib.hid (fun n => World.drewN_drewN w m n)
      clear k1 k2 ht H1 H2
      generalize w.drewN m = W0 at *
      go_wp2_with fail
      go_quiet (fail)
      go_wp2
      go_roundw
      case rel => exact ⟨i + 1, m + nq, by go_num, by omega, HW.out nq⟩
      case measure => simp [intOf]; omega
    · obtain rfl : i = rs.length := by omega
      go_wp2
      go_ret
      exact ⟨rfl, m, rfl⟩
/-- What From answers, and the like. -/
def NewRecs (w : World) (rs : List Rec) (e : Ending) (w' : World) : Prop := ∃ v, e = .returned v ∧ OwnR w' w.heap.size v rs ∧ Below w.heap.size w w'
set_option maxHeartbeats 1600000 in
theorem reffrom_any (w : World) (rs : List Rec) (A : Option Addr) (cap : Nat) (h : RecsLie w A rs cap) (offset max : Int) (hl : rs.length ≤ 1000000000) :
    Calls Tryd.prog 13 #[.slice A rs.length cap, .int .i64 offset, .int .i64 max] w (NewRecs w (fromM rs offset max)) := by
  have hcl := h.2.1
  have hcm := h.2.2.1
  unfold maxLen at hcm
  have H := Lib.hid h
  have hsub : ∀ i, ∀ r ∈ fromM (rs.take i) offset max, r.wf := fun i r hr => h.2.2.2 r (List.mem_of_mem_take (List.mem_filter.1 (List.mem_of_mem_take hr)).1)
  have HS := Lib.hid hsub
  have HL := Lib.hid hl
  clear h hsub hl
  go_enter Tryd.func13, Tryd.ntmps13
  go_wp2_with fail
  go_loopw [7, 8] (fun v iv wr => ∃ i : Nat, iv = .int .i64 i ∧ i ≤ rs.length ∧ OwnR wr w.heap.size v (fromM (rs.take i) offset max) ∧ Below w.heap.size w wr) (fun _ iv _ => rs.length - (intOf iv).toNat)
  case atStart => exact ⟨0, rfl, Nat.zero_le _, by rw [List.take_zero, from_nil]; exact OwnR.nil, Below.refl _ _⟩
  case round =>
    obtain ⟨i, rfl, hi, hown, hbel⟩ := hrel
    have hll := HL.out
    obtain ⟨B, c, rfl, hlie, hB⟩ := hown.parts (HS.out i)
    have HO := Lib.hid hown
    have HB := Lib.hid hbel
    have hcc := hlie.2.1
    have hcc2 := hlie.2.2.1
    unfold maxLen at hcc2
    clear hown hlie hB
    obtain ⟨k, hk⟩ : ∃ k, (fromM (rs.take i) offset max).length = k := ⟨_, rfl⟩
    have hkl : k ≤ i := by
      have := (from_length (rs.take i) offset max).1
      rw [List.length_take] at this
      omega
    rw [hk] at hcc
    have HK := Lib.hid hk
    by_cases hlt : i < rs.length
    · by_cases hm : (k : Int) < max
      · obtain ⟨b, off, rfl, hbl, hat⟩ := H.out.more hlt
        obtain ⟨a0, a1, a2, a3, a4⟩ := hat.keep (w' := wr) fun j => hbel.cell hbl
        obtain ⟨r, hr⟩ : ∃ r, rs[i] = r := ⟨_, rfl⟩
        rw [hr] at a0 a1 a2 a3 a4
        by_cases ho : offset ≤ r.off
        · have hq : decide (offset ≤ r.off) = true := decide_eq_true ho
          have HE := Lib.hid (from_snoc (l := rs) (offset := offset) (max := max) hlt (by rw [hr]; exact ho) (by rw [hk]; exact hm))
          rw [hr] at HE
          have hb3 := hbel.size
          clear hat hr hbl hbel
          rw [hk]
          go_wp2_with (at_builtin; refine wpList_append_rec rfl (.tmp 28) (.tmp 33) rfl w.heap.size (.slice B k c) (fromM (rs.take i) offset max) rfl wr r rfl (by rw [← HK.out]; exact HO.out) rfl (by rw [HK.out]; omega) hb3 ?_; intro v4 w4 hown4 hb4 _ _; have HO4 := Lib.hid hown4; have HB4 := Lib.hid hb4; clear hown4 hb4)
          go_roundw
          case rel => exact ⟨i + 1, by go_num, hlt, by rw [HE.out]; exact HO4.out, HB.out.trans HB4.out⟩
          case measure => simp [intOf]; omega
        · have hq : decide (offset ≤ r.off) = false := decide_eq_false ho
          have HE := Lib.hid (from_skip (l := rs) (offset := offset) (max := max) hlt (by rw [hr]; exact ho))
          clear hat hr hbl hbel
          rw [hk]
          go_wp2_with fail
          go_roundw
          case rel => exact ⟨i + 1, by go_num, hlt, by rw [HE.out, ← HK.out]; exact HO.out, HB.out⟩
          case measure => simp [intOf]; omega
      · have hq : decide ((k : Int) < max) = false := decide_eq_false hm
        have HE := Lib.hid (from_full (l := rs) (offset := offset) (max := max) i (by rw [hk]; omega))
        clear hbel
        rw [hk]
        go_wp2_with fail
        go_ret
        exact ⟨_, rfl, by rw [HE.out, ← HK.out]; exact HO.out, HB.out⟩
    · have HE := Lib.hid (from_all (l := rs) (offset := offset) (max := max) (i := i) (by omega))
      obtain rfl : i = rs.length := by omega
      clear hbel
      rw [hk]
      go_wp2_with fail
      go_ret
      exact ⟨_, rfl, by rw [← HE.out, ← HK.out]; exact HO.out, HB.out⟩
set_option maxHeartbeats 1600000 in
theorem refbytes_any (w : World) (rs : List Rec) (A : Option Addr) (cap : Nat) (h : RecsLie w A rs cap) (hl : rs.length ≤ 1000000) :
    Calls Tryd.prog 10 #[.slice A rs.length cap] w (NewBytes w (segL rs)) := by
  obtain ⟨i0, hi0, hz0, hz1, hz2⟩ := info_parts byte_info
  have hcl := h.2.1
  have hcm := h.2.2.1
  unfold maxLen at hcm
  have H := Lib.hid h
  have HL := Lib.hid hl
  clear h hl
  go_enter Tryd.func10, Tryd.ntmps10
  go_wp2_with fail
  go_loopw [3, 4] (fun v iv wr => ∃ i : Nat, iv = .int .i64 i ∧ i ≤ rs.length ∧ Own .u8 5 wr w.heap.size v (segL (rs.take i)) ∧ Below w.heap.size w wr) (fun _ iv _ => rs.length - (intOf iv).toNat)
  case atStart => exact ⟨0, rfl, Nat.zero_le _, by rw [List.take_zero]; exact Own.nil, Below.refl _ _⟩
  case round =>
    obtain ⟨i, rfl, hi, hown, hbel⟩ := hrel
    have hll := HL.out
    have HO := Lib.hid hown
    have HB := Lib.hid hbel
    clear hown
    by_cases hlt : i < rs.length
    · obtain ⟨b, off, rfl, hbl, hat⟩ := H.out.more hlt
      obtain ⟨a0, a1, a2, a3, a4⟩ := hat.keep (w' := wr) fun j => hbel.cell hbl
      have hbs := hbel.size
      have HBL := Lib.hid hbl
      have HAT := Lib.hid hat
      have HSG := Lib.hid (segL_snoc rs i hlt)
      have HSK := Lib.hid (segL_skip rs i hlt)
      have HLN : Hid ((segL (rs.take i)).length ≤ 2400000000) := Lib.hid (by
        have := segL_length (rs.take i)
        rw [List.length_take] at this
        omega)
      obtain ⟨r, hr⟩ : ∃ r, rs[i] = r := ⟨_, rfl⟩
      rw [hr] at a0 a1 a2 a3 a4 HAT HSG HSK
      have HRT := Lib.hid (fun W => refright_any r W)
      unfold recV at HRT
      clear hat hr hbl hbel
      by_cases hrt : r.right
      · have hq : decide r.right = true := decide_eq_true hrt
        rw [hq] at HRT
        have hfl := frame_rec_length r hrt
        have hrl := recL_length r hrt
        have HRG := Lib.hid (recL_range r hrt)
        have HSG2 := Lib.hid (HSG.out hrt)
        have hpr : putR r = recL r := by unfold putR; rw [if_pos hrt]
        have HP := Lib.hid (fun W => refputrec_any none [] 0 r W Lies.nil (by simp) (fun _ => rfl) (by simp))
        rw [List.nil_append, hpr] at HP
        unfold recV at HP
        clear HSG HSK hpr hrt hq
        go_wp2_with fail
        refine (HRT.out _).mono ?_
        rintro e w2 ⟨rfl, hb2⟩
        have hbw := HB.out.trans (hb2.mono hbs)
        obtain ⟨a0', a1', a2', a3', a4'⟩ := HAT.out.keep (w' := w2) fun j => hbw.cell HBL.out
        have HO2 := Lib.hid (HO.out.below hb2)
        have HB2 := Lib.hid hbw
        have hbs2 := hbw.size
        clear HRT hb2 hbw a0 a1 a2 a3 a4
        go_wp2_with fail
        refine (HP.out _).mono ?_
        rintro e w3 ⟨v3, rfl, ho3, hb3⟩
        obtain ⟨A3, c3, rfl, q1, q2⟩ := ho3.form
        have HF := Lib.hid (reffput_any none [] 0 A3 (recL r) c3 w3 Lies.nil (by simp) (fun _ => rfl) ho3.lies q1 (own_none ho3) (by simp) (by omega) HRG.out)
        rw [List.nil_append] at HF
        have HO3 := Lib.hid (HO2.out.below hb3)
        have HB3 := Lib.hid (HB2.out.trans (hb3.mono hbs2))
        clear ho3 hb3 HP HO2 HB2
        go_wp2_with fail
        refine HF.out.mono ?_
        rintro e w4 ⟨v4, rfl, ho4, hb4⟩
        obtain ⟨A4, c4, rfl, q3, q4⟩ := ho4.form
        have hz3 := HB3.out.size
        have HO4 := Lib.hid (HO3.out.below hb4)
        have HB4 := Lib.hid (HB3.out.trans (hb4.mono hz3))
        have hl4 := ho4.lies
        have HN4 : Hid (A4 = none → c4 = 0) := Lib.hid (own_none ho4)
        have hz4 := HB4.out.size
        clear ho4 hb4 HF HO3 HB3
        go_wp2_with (at_builtin; refine wpList_append_ints rfl (.tmp 16) (.tmp 22) 25 rfl w.heap.size 5 .u8 i0 1 Tryd.underlying25 hi0 hz0 hz1 hz2 (by decide) _ (segL (rs.take i)) rfl HO4.out w4.heap.size A4 (frameL (recL r)).length c4 (frameL (recL r)) rfl rfl q3 hl4 (by have := HLN.out; omega) hz4 HN4.out ?_; intro v5 w5 hown5 hgr5 _; have hbel5 := HO4.out.grown_below hgr5 hz4; have HO5 := Lib.hid hown5; have HB5 := Lib.hid (HB4.out.trans hbel5); clear hown5 hgr5 hbel5)
        go_roundw
        case rel => exact ⟨i + 1, by go_num, hlt, by rw [HSG2.out]; exact HO5.out, HB5.out⟩
        case measure => simp [intOf]; omega
      · have hq : decide r.right = false := decide_eq_false hrt
        rw [hq] at HRT
        have HSK2 := Lib.hid (HSK.out hrt)
        clear HSG HSK hrt hq
        go_wp2_with fail
        refine (HRT.out _).mono ?_
        rintro e w2 ⟨rfl, hb2⟩
        have HO2 := Lib.hid (HO.out.below hb2)
        have HB2 := Lib.hid (HB.out.trans (hb2.mono hbs))
        clear HRT hb2
        go_wp2_with fail
        go_roundw
        case rel => exact ⟨i + 1, by go_num, hlt, by rw [HSK2.out]; exact HO2.out, HB2.out⟩
        case measure => simp [intOf]; omega
    · obtain rfl : i = rs.length := by omega
      go_wp2
      go_ret
      refine ⟨_, rfl, ?_, HB.out⟩
      have := HO.out
      rw [List.take_length] at this
      exact this
end Go.Proofs.YtaoflfdpagpgaaaDoor
