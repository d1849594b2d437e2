/- A contract of the document's own Bytes. -/
import Derived.Test.YtffmfgbjlijpeaaDoorRecs
import Derived.Test.YtffmfgbjlijpeaaDoorRRecPut
import Derived.Test.YtffmfgbjlijpeaaDoorRFr
namespace Go.Proofs.YtffmfgbjlijpeaaDoor
open Go.RowKit

set_option maxHeartbeats 1600000 in
theorem refbytes_any (w : World) (rs : List Rec) (A : Option Addr) (cap : Nat) (h : RecsLie w A rs cap) (hl : rs.length ≤ 1000000) :
    Calls Tryd.prog 21 #[.slice A rs.length cap] w (NewBytes w (segL rs)) := by
  obtain ⟨i0, hi0, hz0, hz1, hz2⟩ := info_parts byte_info
  have hcl := h.2.1
  have hcm := h.2.2.1
  unfold maxLen at hcm
  have H := Lib.hid h
  have HL := Lib.hid hl
  clear h hl
  go_enter Tryd.func21, Tryd.ntmps21
  go_wp2_with fail
  go_loopw [3, 4] (fun v iv wr => ∃ i : Nat, iv = .int .i64 i ∧ i ≤ rs.length ∧ Own .u8 5 wr w.heap.size v (segL (rs.take i)) ∧ Below w.heap.size w wr) (fun _ iv _ => rs.length - (intOf iv).toNat)
  case atStart => exact ⟨0, rfl, Nat.zero_le _, by rw [List.take_zero]; exact Own.nil, Below.refl _ _⟩
  case round =>
    obtain ⟨i, rfl, hi, hown, hbel⟩ := hrel
    have hll := HL.out
    have HO := Lib.hid hown
    have HB := Lib.hid hbel
    clear hown
    by_cases hlt : i < rs.length
    · obtain ⟨b, off, rfl, hbl, hat⟩ := H.out.more hlt
      obtain ⟨a0, a1, a2, a3, a4⟩ := hat.keep (w' := wr) fun j => hbel.cell hbl
      have hbs := hbel.size
      have HBL := Lib.hid hbl
      have HAT := Lib.hid hat
      have HSG := Lib.hid (segL_snoc rs i hlt)
      have HSK := Lib.hid (segL_skip rs i hlt)
      have HLN : Hid ((segL (rs.take i)).length ≤ 2400000000) := Lib.hid (by
        have := segL_length (rs.take i)
        rw [List.length_take] at this
        omega)
      obtain ⟨r, hr⟩ : ∃ r, rs[i] = r := ⟨_, rfl⟩
      rw [hr] at a0 a1 a2 a3 a4 HAT HSG HSK
      have HRT := Lib.hid (fun W => refright_any r W)
      unfold recV at HRT
      clear hat hr hbl hbel
      by_cases hrt : r.right
      · have hq : decide r.right = true := decide_eq_true hrt
        rw [hq] at HRT
        have hfl := frame_rec_length r hrt
        have hrl := recL_length r hrt
        have HRG := Lib.hid (recL_range r hrt)
        have HSG2 := Lib.hid (HSG.out hrt)
        have hpr : putR r = recL r := by unfold putR; rw [if_pos hrt]
        have HP := Lib.hid (fun W => refputrec_any none [] 0 r W Lies.nil (by simp) (fun _ => rfl) (by simp))
        rw [List.nil_append, hpr] at HP
        unfold recV at HP
        clear HSG HSK hpr hrt hq
        go_wp2_with fail
        refine (HRT.out _).mono ?_
        rintro e w2 ⟨rfl, hb2⟩
        have hbw := HB.out.trans (hb2.mono hbs)
        obtain ⟨a0', a1', a2', a3', a4'⟩ := HAT.out.keep (w' := w2) fun j => hbw.cell HBL.out
        have HO2 := Lib.hid (HO.out.below hb2)
        have HB2 := Lib.hid hbw
        have hbs2 := hbw.size
        clear HRT hb2 hbw a0 a1 a2 a3 a4
        go_wp2_with fail
        refine (HP.out _).mono ?_
        rintro e w3 ⟨v3, rfl, ho3, hb3⟩
        obtain ⟨A3, c3, rfl, q1, q2⟩ := ho3.form
        have HF := Lib.hid (reffput_any none [] 0 A3 (recL r) c3 w3 Lies.nil (by simp) (fun _ => rfl) ho3.lies q1 (own_none ho3) (by simp) (by omega) HRG.out)
        rw [List.nil_append] at HF
        have HO3 := Lib.hid (HO2.out.below hb3)
        have HB3 := Lib.hid (HB2.out.trans (hb3.mono hbs2))
        clear ho3 hb3 HP HO2 HB2
        go_wp2_with fail
        refine HF.out.mono ?_
        rintro e w4 ⟨v4, rfl, ho4, hb4⟩
        obtain ⟨A4, c4, rfl, q3, q4⟩ := ho4.form
        have hz3 := HB3.out.size
        have HO4 := Lib.hid (HO3.out.below hb4)
        have HB4 := Lib.hid (HB3.out.trans (hb4.mono hz3))
        have hl4 := ho4.lies
        have HN4 : Hid (A4 = none → c4 = 0) := Lib.hid (own_none ho4)
        have hz4 := HB4.out.size
        clear ho4 hb4 HF HO3 HB3
        go_wp2_with (at_builtin; refine wpList_append_ints rfl (.tmp 16) (.tmp 22) 33 rfl w.heap.size 5 .u8 i0 1 Tryd.underlying33 hi0 hz0 hz1 hz2 (by decide) _ (segL (rs.take i)) rfl HO4.out w4.heap.size A4 (frameL (recL r)).length c4 (frameL (recL r)) rfl rfl q3 hl4 (by have := HLN.out; omega) hz4 HN4.out ?_; intro v5 w5 hown5 hgr5 _; have hbel5 := HO4.out.grown_below hgr5 hz4; have HO5 := Lib.hid hown5; have HB5 := Lib.hid (HB4.out.trans hbel5); clear hown5 hgr5 hbel5)
        go_roundw
        case rel => exact ⟨i + 1, by go_num, hlt, by rw [HSG2.out]; exact HO5.out, HB5.out⟩
        case measure => simp [intOf]; omega
      · have hq : decide r.right = false := decide_eq_false hrt
        rw [hq] at HRT
        have HSK2 := Lib.hid (HSK.out hrt)
        clear HSG HSK hrt hq
        go_wp2_with fail
        refine (HRT.out _).mono ?_
        rintro e w2 ⟨rfl, hb2⟩
        have HO2 := Lib.hid (HO.out.below hb2)
        have HB2 := Lib.hid (HB.out.trans (hb2.mono hbs))
        clear HRT hb2
        go_wp2_with fail
        go_roundw
        case rel => exact ⟨i + 1, by go_num, hlt, by rw [HSK2.out]; exact HO2.out, HB2.out⟩
        case measure => simp [intOf]; omega
    · obtain rfl : i = rs.length := by omega
      go_wp2
      go_ret
      refine ⟨_, rfl, ?_, HB.out⟩
      have := HO.out
      rw [List.take_length] at this
      exact this
end Go.Proofs.YtffmfgbjlijpeaaDoor
