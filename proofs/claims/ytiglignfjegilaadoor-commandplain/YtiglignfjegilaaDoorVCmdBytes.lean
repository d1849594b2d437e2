/- A contract of the program's own Bytes of commands. -/
import Derived.Test.YtiglignfjegilaaDoorVCmdRight
import Derived.Test.YtiglignfjegilaaDoorVCmdPut
import Derived.Test.YtiglignfjegilaaDoorCmdBack
namespace Go.Proofs.YtiglignfjegilaaDoor
open Go.RowKit

theorem kind_any (w : World) (g : Nat) : Calls Tryd.prog 20 #[.pointer (some ⟨g, 0, none⟩)] w (fun e w' => e = .returned (faceF g (.num 0 0 0)) ∧ w' = w) := by
  go_enter Tryd.func20, Tryd.ntmps20
  go_wp2_with fail
  go_ret
  exact ⟨rfl, rfl⟩
theorem kind_good : (Fld.num 0 0 0).good := ⟨.inl rfl, by decide, by decide, by decide, by decide⟩
theorem fieldsB_snoc (c : Cmd) (fs : List Fld) (i : Nat) (h : i < fs.length) : (fs.take (i + 1)).flatMap (Fld.bytes c) = (fs.take i).flatMap (Fld.bytes c) ++ fs[i].bytes c := by
  rw [List.take_succ_eq_append_getElem h, List.flatMap_append, List.flatMap_cons, List.flatMap_nil, List.append_nil]
theorem grow_none {w w' : World} {v : Value} {base : Nat} {k : IntKind} {e : TypeId} {xs : List Int} (h : Own k e w base v xs) (hg : w.grownBy w' v.ownBlock) (hb : base ≤ w.heap.size) : Below base w w' := h.grown_below hg hb
set_option maxHeartbeats 1600000 in
theorem vcbytes_any (w : World) (hT : Tabs w) (A : Option Addr) (cap : Nat) (c : Cmd) (h : RecsLie w A c.recs cap) (hw : c.wf) :
    Calls Tryd.prog 10 #[cmdV (.slice A c.recs.length cap) c] w (NewBytes w (cmdB c)) := by
  obtain ⟨i0, hi0, hz0, hz1, hz2⟩ := info_parts byte_info
  have HB := Lib.hid ((Below.refl w.heap.size w).alloc (Nat.le_refl _) (cmdO (.slice A c.recs.length cap) c))
  have hnew := cmd_new w (.slice A c.recs.length cap) c
  have HRT := Lib.hid (vcright_any (w.alloc (cmdO (.slice A c.recs.length cap) c)) (hT.below HB.out) A cap c (h.below HB.out (Nat.le_refl _)) hw)
  obtain ⟨c0, c1, c2, c3, c4, c5, c6, c7, c8, c9, c10, c11, c12⟩ := cmd_at hnew
  have HNEW := Lib.hid hnew
  have HR := Lib.hid h
  obtain ⟨W, hW⟩ : ∃ W, w.alloc (cmdO (.slice A c.recs.length cap) c) = W := ⟨_, rfl⟩
  have hWs : W.heap.size = w.heap.size + 1 := by rw [← hW]; simp
  rw [hW] at HB HNEW HRT c0 c1 c2 c3 c4 c5 c6 c7 c8 c9 c10 c11 c12
  unfold cmdV at HRT ⊢
  unfold cmdO at hW
  have HWS := Lib.hid hWs
  clear hnew h hT hWs
  by_cases hr : c.right
  · have hq : decide c.right = true := decide_eq_true hr
    rw [hq] at HRT
    have hfit := wf_fit hw hr
    have hlen := cmdB_length hw
    rw [cmdB_right hr] at hlen ⊢
    have HFIT := Lib.hid hfit
    have HGD := Lib.hid (fieldsK_good c.kind)
    have hfl := fieldsK_length c.kind
    have HF := Lib.hid (fun W1 (hb : Below W.heap.size W W1) => fields_any W1 w.heap.size _ c (block_keep HNEW.out hb))
    have HKN := Lib.hid (((right_rest c).1 hr).1)
    obtain ⟨fs, hfs⟩ : ∃ fs, fieldsK c.kind = fs := ⟨_, rfl⟩
    unfold TellsFields at HF
    rw [hfs] at HF hfl HFIT HGD hlen ⊢
    obtain ⟨L, hL⟩ : ∃ L, fs.length = L := ⟨_, rfl⟩
    rw [hL] at HF hfl
    have HPK := Lib.hid (fun W1 (hb : Below W.heap.size W W1) (hx : Below w.heap.size w W1) => putf_any W1 w.heap.size A cap c (.num 0 0 0) kind_good (block_keep HNEW.out hb) (HR.out.below hx (Nat.le_refl _)) hw.kind)
    have hkb : Fld.bytes c (.num 0 0 0) = putL (foldI c.kind) := rfl
    rw [hkb] at HPK
    obtain ⟨K0, hK0⟩ : ∃ K0, putL (foldI c.kind) = K0 := ⟨_, rfl⟩
    rw [hK0] at HPK hlen ⊢
    have HLEN := Lib.hid hlen
    have HLL := Lib.hid hL
    clear hr hq hw hfit hfs hL hkb hK0 hlen
    go_enter Tryd.func10, Tryd.ntmps10
    go_wp2_with fail
    refine HRT.out.mono ?_
    rintro e W1 ⟨rfl, hb1⟩
    have HB1 := Lib.hid (HB.out.trans (hb1.mono HB.out.size))
    have HBW1 := Lib.hid hb1
    clear hb1 HRT c0 c1 c2 c3 c4 c5 c6 c7 c8 c9 c10 c11 c12
    go_wp2_with fail
    refine (HF.out W1 HBW1.out).mono ?_
    rintro e W2 ⟨B, rfl, hb2, hl2⟩
    have HB2 := Lib.hid (HB1.out.trans (hb2.mono HB1.out.size))
    have HBW2 := Lib.hid (HBW1.out.trans (hb2.mono HBW1.out.size))
    have HL2 : Hid (FieldsLie W2 (w.heap.size + 1) B w.heap.size fs) := Lib.hid fun hne => by
      obtain ⟨b, e, h1, h2⟩ := hl2 hne
      exact ⟨b, e, Nat.le_trans (by rw [← HWS.out]; exact HBW1.out.size) h1, h2⟩
    clear hb2 hl2 HF
    go_wp2_with fail
    refine (kind_any _ _).mono ?_
    rintro e W2' ⟨rfl, rfl⟩
    go_wp2_with fail
    refine (HPK.out _ HBW2.out HB2.out).mono ?_
    rintro e W3 ⟨v3, rfl, ho3, hb3⟩
    have HB3 := Lib.hid (HB2.out.trans (hb3.mono HB2.out.size))
    have HBW3 := Lib.hid (HBW2.out.trans (hb3.mono HBW2.out.size))
    have HO3 := Lib.hid ho3
    have HX3 := Lib.hid hb3
    clear ho3 hb3 HPK
    obtain ⟨X, hX⟩ : ∃ X, W2'.heap.size = X := ⟨_, rfl⟩
    rw [hX] at HO3 HX3
    have HX := Lib.hid hX
    clear hX
    go_wp2_with fail
    go_loopw [5, 19] (fun v iv wr => ∃ i : Nat, iv = .int .i64 i ∧ i ≤ L ∧ Own .u8 5 wr X v (K0 ++ (fs.take i).flatMap (Fld.bytes c)) ∧ Below X W2' wr) (fun _ iv _ => L - (intOf iv).toNat)
    case atStart => exact ⟨0, rfl, Nat.zero_le _, by rw [List.take_zero, List.flatMap_nil, List.append_nil]; exact HO3.out, HX3.out⟩
    case round =>
      obtain ⟨i, rfl, hi, hown, hbx⟩ := hrel
      have HBX := Lib.hid hbx
      have hbl : wr.heap[w.heap.size]? = some (cmdO (.slice A c.recs.length cap) c) := block_keep (block_keep HNEW.out HBW2.out) (by rw [HX.out]; exact hbx)
      have hfl2 : FieldsLie wr (w.heap.size + 1) B w.heap.size fs := HL2.out.keep (below_grow hbx (Nat.le_of_eq HX.out) _) (Nat.lt_succ_self _)
      have hbel : Below w.heap.size w wr := HB2.out.trans (hbx.mono (by rw [← HX.out]; exact HB2.out.size))
      have HO := Lib.hid hown
      have HB := Lib.hid hbel
      by_cases hlt : i < L
      · have hlt2 : i < fs.length := by rw [HLL.out]; exact hlt
        obtain ⟨b, rfl, hcell⟩ := hfl2.at_ hlt2
        have HSN : Hid (K0 ++ (fs.take (i + 1)).flatMap (Fld.bytes c) = K0 ++ (fs.take i).flatMap (Fld.bytes c) ++ fs[i].bytes c) := Lib.hid (by rw [fieldsB_snoc c fs i hlt2, List.append_assoc])
        have hft := HFIT.out _ (List.getElem_mem hlt2)
        have hgd := HGD.out _ (List.getElem_mem hlt2)
        obtain ⟨f, hf⟩ : ∃ f, fs[i] = f := ⟨_, rfl⟩
        rw [hf] at hcell HSN hft hgd
        have HP := Lib.hid (putf_any wr w.heap.size A cap c f hgd hbl (HR.out.below hbel (Nat.le_refl _)) hft)
        have hbln := Fld.bytes_length hft
        obtain ⟨T, hT⟩ : ∃ T, K0 ++ (fs.take i).flatMap (Fld.bytes c) = T := ⟨_, rfl⟩
        obtain ⟨Y, hY⟩ : ∃ Y, f.bytes c = Y := ⟨_, rfl⟩
        have HTL : Hid (T.length + Y.length ≤ 2000000) := Lib.hid (by
          have h1 := fieldsB_length (c := c) (fs := fs.take i) fun g hg => HFIT.out g (List.mem_of_mem_take hg)
          have h2 : (fs.take i).length ≤ 4 := by rw [List.length_take]; have := HLL.out; have := hfl; omega
          have h3 := HLEN.out
          rw [List.length_append] at h3
          rw [← hT, ← hY, List.length_append]
          have h4 : 120000 * (fs.take i).length ≤ 480000 := Nat.mul_le_mul_left 120000 h2
          omega)
        rw [hT] at HO HSN
        rw [hY] at HP HSN
        have HBL := Lib.hid hbl
        clear hown hfl2 hbl hbx hbel hf hft hgd hbln hT hY
        go_wp2_with fail
        refine HP.out.mono ?_
        rintro e w4 ⟨v4, rfl, ho4, hb4⟩
        obtain ⟨A4, c4, rfl, q4, q5⟩ := ho4.form
        have HO4 := Lib.hid (HO.out.below hb4)
        have HB4 := Lib.hid (HB.out.trans (hb4.mono HB.out.size))
        have HX4 := Lib.hid (HBX.out.trans (hb4.mono (Nat.le_trans (Nat.le_of_eq HX.out.symm) HBX.out.size)))
        have hl4 := ho4.lies
        have HN4 : Hid (A4 = none → c4 = 0) := Lib.hid (own_none ho4)
        have hz4 : X ≤ w4.heap.size := Nat.le_trans (Nat.le_of_eq HX.out.symm) HX4.out.size
        clear ho4 hb4 HP HO
        go_wp2_with (at_builtin; refine wpList_append_ints rfl (.tmp 23) (.tmp 25) 30 rfl X 5 .u8 i0 1 Tryd.underlying30 hi0 hz0 hz1 hz2 (by decide) _ T rfl HO4.out w4.heap.size A4 Y.length c4 Y rfl rfl q4 hl4 (by have := HTL.out; omega) hz4 HN4.out ?_; intro v5 w5 hown5 hgr5 _; have HB5 := Lib.hid (HO4.out.grown_below hgr5 hz4); have HO5 := Lib.hid hown5; clear hown5 hgr5)
        go_roundw
        case rel =>
          exact ⟨i + 1, by go_num, hlt, by rw [HSN.out]; exact HO5.out, HX4.out.trans HB5.out⟩
        case measure => simp [intOf]; omega
      · obtain rfl : i = L := by omega
        rw [List.take_of_length_le (by rw [HLL.out]; exact Nat.le_refl _)] at HO
        clear hown hfl2 hbl hbx hbel
        go_wp2_with fail
        go_ret
        exact ⟨_, rfl, HO.out.lower (Nat.le_trans HB2.out.size (Nat.le_of_eq HX.out)), HB.out⟩
  · have hq : decide c.right = false := decide_eq_false hr
    rw [hq] at HRT
    rw [cmdB_wrong hr]
    clear hr hq hw
    go_enter Tryd.func10, Tryd.ntmps10
    go_wp2_with fail
    refine HRT.out.mono ?_
    rintro e W1 ⟨rfl, hb1⟩
    have HB1 := Lib.hid (HB.out.trans (hb1.mono HB.out.size))
    clear hb1 HRT c0 c1 c2 c3 c4 c5 c6 c7 c8 c9 c10 c11 c12
    go_wp2_with fail
    go_ret
    exact ⟨_, rfl, Own.nil, HB1.out⟩
end Go.Proofs.YtiglignfjegilaaDoor
