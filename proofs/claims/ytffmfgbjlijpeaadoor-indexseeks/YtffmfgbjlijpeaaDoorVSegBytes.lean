/- Contract of the program's own Bytes: the frames of the right ones of records. -/
import Derived.Test.YtffmfgbjlijpeaaDoorRecs
import Derived.Test.YtffmfgbjlijpeaaDoorRecProg
import Derived.Test.YtffmfgbjlijpeaaDoorVFr
namespace Go.Proofs.YtffmfgbjlijpeaaDoor
open Go.RowKit

set_option maxHeartbeats 1600000 in
theorem vsegbytes_any (w : World) (hh : Half w) (rs : List Rec) (A : Option Addr) (cap : Nat) (h : RecsLie w A rs cap) (hl : rs.length ≤ 1000000) :
    Calls Tryd.prog 23 #[.slice A rs.length cap] w (NewBytes w (segL rs)) := by
  obtain ⟨i0, hi0, hz0, hz1, hz2⟩ := info_parts byte_info
  have hcl := h.2.1
  have hcm := h.2.2.1
  unfold maxLen at hcm
  have h0 := hh.pos
  have H := Lib.hid h
  have HL := Lib.hid hl
  have HH := Lib.hid hh
  clear h hl hh
  go_enter Tryd.func23, Tryd.ntmps23
  go_wp2_with fail
  go_loopw [3, 8] (fun v iv wr => ∃ i : Nat, iv = .int .i64 i ∧ i ≤ rs.length ∧ Own .u8 5 wr w.heap.size v (segL (rs.take i)) ∧ Below w.heap.size w wr) (fun _ iv _ => rs.length - (intOf iv).toNat)
  case atStart => exact ⟨0, rfl, Nat.zero_le _, by rw [List.take_zero]; exact Own.nil, Below.refl _ _⟩
  case round =>
    obtain ⟨i, rfl, hi, hown, hbel⟩ := hrel
    have hll := HL.out
    have HO := Lib.hid hown
    have HB := Lib.hid hbel
    clear hown
    by_cases hlt : i < rs.length
    · obtain ⟨b, off, rfl, hbl, hat⟩ := H.out.more hlt
      obtain ⟨g0, g1, g2, g3, g4⟩ := hat.keep (w' := wr) fun j => hbel.cell hbl
      have hbs := hbel.size
      have HSG := Lib.hid (segL_snoc rs i hlt)
      have HSK := Lib.hid (segL_skip rs i hlt)
      have HWF := Lib.hid (H.out.2.2.2 _ (List.getElem_mem hlt))
      have HLN : Hid ((segL (rs.take i)).length ≤ 2400000000) := Lib.hid (by
        have := segL_length (rs.take i)
        rw [List.length_take] at this
        omega)
      obtain ⟨r, hr⟩ : ∃ r, rs[i] = r := ⟨_, rfl⟩
      rw [hr] at g0 g1 g2 g3 g4 HSG HSK HWF
      obtain ⟨xo, xt, xk, xv, xd⟩ := r
      dsimp only at g0 g1 g2 g3 g4
      have HRT := Lib.hid (fun W => rright_any ⟨xo, xt, xk, xv, xd⟩ W HWF.out)
      unfold recV at HRT
      dsimp only at HRT
      have HBX := Lib.hid (HB.out.alloc hbs (.cells #[.int .i64 xo, .int .i64 xt, .string xk, .string xv, .bool xd] 35))
      have HOX := Lib.hid (HO.out.alloc (.cells #[.int .i64 xo, .int .i64 xt, .string xk, .string xv, .bool xd] 35))
      have hnew : ∀ W, Below (wr.alloc (.cells #[.int .i64 xo, .int .i64 xt, .string xk, .string xv, .bool xd] 35)).heap.size (wr.alloc (.cells #[.int .i64 xo, .int .i64 xt, .string xk, .string xv, .bool xd] 35)) W → ∀ j, W.cell? ⟨wr.heap.size, j, none⟩ = (#[.int .i64 xo, .int .i64 xt, .string xk, .string xv, .bool xd] : Array Value)[j]? := fun W hb j => by
        have : W.heap[wr.heap.size]? = some (.cells #[.int .i64 xo, .int .i64 xt, .string xk, .string xv, .bool xd] 35) := by
          rw [hb.block _ (by simp)]
          show (wr.heap.push _)[wr.heap.size]? = _
          simp
        unfold World.cell?
        rw [this]
        rfl
      have HNW := Lib.hid hnew
      clear hat hr hbl hbel hnew
      by_cases hrt : (⟨xo, xt, xk, xv, xd⟩ : Rec).right
      · have hq : decide (⟨xo, xt, xk, xv, xd⟩ : Rec).right = true := decide_eq_true hrt
        rw [hq] at HRT
        have hfl := frame_rec_length _ hrt
        have hrl := recL_length _ hrt
        have HRG := Lib.hid (recL_range _ hrt)
        have HSG2 := Lib.hid (HSG.out hrt)
        have hpr : putR ⟨xo, xt, xk, xv, xd⟩ = recL ⟨xo, xt, xk, xv, xd⟩ := by unfold putR; rw [if_pos hrt]
        have HP := Lib.hid (fun W => rput_any none [] 0 ⟨xo, xt, xk, xv, xd⟩ W HWF.out Lies.nil (by simp) (by decide) (fun _ => rfl) (by simp))
        rw [List.nil_append, hpr] at HP
        unfold recV at HP
        dsimp only at HP
        obtain ⟨L, hL⟩ : ∃ L, recL ⟨xo, xt, xk, xv, xd⟩ = L := ⟨_, rfl⟩
        rw [hL] at HP HRG hfl hrl HSG2
        clear HSG HSK hpr hrt hq hL
        go_wp2_with fail
        refine (HRT.out _).mono ?_
        rintro e w2 ⟨rfl, hb2⟩
        have b0 := HNW.out w2 hb2 0
        have b1 := HNW.out w2 hb2 1
        have b2 := HNW.out w2 hb2 2
        have b3 := HNW.out w2 hb2 3
        have b4 := HNW.out w2 hb2 4
        simp only [List.getElem?_toArray, List.getElem?_cons_zero, List.getElem?_cons_succ] at b0 b1 b2 b3 b4
        have HO2 := Lib.hid (HOX.out.below hb2)
        have HB2 := Lib.hid (HBX.out.trans (hb2.mono HBX.out.size))
        have hbs2 := HB2.out.size
        clear HRT hb2 HNW HOX HBX HO HB g0 g1 g2 g3 g4
        go_wp2_with fail
        refine (HP.out _).mono ?_
        rintro e w3 ⟨A3, c3, rfl, q1, q2, q3, hl3, hb3⟩
        have HB3 := Lib.hid (HB2.out.trans (hb3.mono hbs2))
        have HF := Lib.hid (fput_any none [] 0 A3 L c3 w3 (HH.out.below HB3.out h0) Lies.nil (by simp) hl3 q1 q3 (by simp) (by omega) HRG.out)
        rw [List.nil_append] at HF
        have HO3 := Lib.hid (HO2.out.below hb3)
        clear hb3 HP HO2 HB2
        go_wp2_with fail
        refine HF.out.mono ?_
        rintro e w4 ⟨v4, rfl, ho4, hb4⟩
        obtain ⟨A4, c4, rfl, q4, q5⟩ := ho4.form
        have hz3 := HB3.out.size
        have HO4 := Lib.hid (HO3.out.below hb4)
        have HB4 := Lib.hid (HB3.out.trans (hb4.mono hz3))
        have hl4 := ho4.lies
        have HN4 : Hid (A4 = none → c4 = 0) := Lib.hid (own_none ho4)
        have hz4 := HB4.out.size
        clear ho4 hb4 HF HO3 HB3
        go_wp2_with (at_builtin; refine wpList_append_ints rfl (.tmp 15) (.tmp 18) 33 rfl w.heap.size 5 .u8 i0 1 Tryd.underlying33 hi0 hz0 hz1 hz2 (by decide) _ (segL (rs.take i)) rfl HO4.out w4.heap.size A4 (frameL L).length c4 (frameL L) rfl rfl q4 hl4 (by have := HLN.out; omega) hz4 HN4.out ?_; intro v5 w5 hown5 hgr5 _; have hbel5 := HO4.out.grown_below hgr5 hz4; have HO5 := Lib.hid hown5; have HB5 := Lib.hid (HB4.out.trans hbel5); clear hown5 hgr5 hbel5)
        go_roundw
        case rel => exact ⟨i + 1, by go_num, hlt, by rw [HSG2.out]; exact HO5.out, HB5.out⟩
        case measure => simp [intOf]; omega
      · have hq : decide (⟨xo, xt, xk, xv, xd⟩ : Rec).right = false := decide_eq_false hrt
        rw [hq] at HRT
        have HSK2 := Lib.hid (HSK.out hrt)
        clear HSG HSK hrt hq
        go_wp2_with fail
        refine (HRT.out _).mono ?_
        rintro e w2 ⟨rfl, hb2⟩
        have HO2 := Lib.hid (HOX.out.below hb2)
        have HB2 := Lib.hid (HBX.out.trans (hb2.mono HBX.out.size))
        clear HRT hb2 HNW HOX HBX HO HB g0 g1 g2 g3 g4
        go_wp2_with fail
        go_roundw
        case rel => exact ⟨i + 1, by go_num, hlt, by rw [HSK2.out]; exact HO2.out, HB2.out⟩
        case measure => simp [intOf]; omega
    · obtain rfl : i = rs.length := by omega
      go_wp2
      go_ret
      refine ⟨_, rfl, ?_, HB.out⟩
      have := HO.out
      rw [List.take_length] at this
      exact this
end Go.Proofs.YtffmfgbjlijpeaaDoor
