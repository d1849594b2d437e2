/- A contract of the document's own Make: the marks of records. -/
import Derived.Test.YtffmfgbjlijpeaaDoorMarks
import Derived.Test.YtffmfgbjlijpeaaDoorRecs
import Derived.Test.YtffmfgbjlijpeaaDoorRRecPut
import Derived.Test.YtffmfgbjlijpeaaDoorRFr
import Derived.Deep.DeepCutAuto
namespace Go.Proofs.YtffmfgbjlijpeaaDoor
open Go.RowKit

/-- Each so many-th: below 1: each. -/
def evN (every : Int) : Nat := if every < 1 then 1 else every.toNat
theorem evN_pos (every : Int) : 0 < evN every := by unfold evN; split <;> omega
/-- What Make answers. -/
def NewMarks (t : TypeId) (w : World) (ms : List MarkM) (e : Ending) (w' : World) : Prop := ∃ v, e = .returned v ∧ OwnM t w' w.heap.size v ms ∧ Below w.heap.size w w'
theorem mark_info : (Tryd.prog.info? 31).map (fun i => (i.zero, i.size, decide (i.bytes ≤ 1024))) = some (some (.agg #[.int .i64 0, .int .i64 0, .int .i64 0]), markRep.n, true) := by kernel_rfl
/-- The next one's part. -/
theorem make_next (E : Nat) (rs : List Rec) (i : Nat) (h : i < rs.length) (hr : rs[i].right) :
    goods (rs.take (i + 1)) = goods (rs.take i) ++ [rs[i]] ∧ makeM E (goods (rs.take (i + 1))) = makeM E (goods (rs.take i)) ++ (if (goods (rs.take i)).length % E = 0 then [⟨rs[i].off, mostT (goods (rs.take i)), ((segF (goods (rs.take i))).length : Nat)⟩] else []) ∧
    mostT (goods (rs.take (i + 1))) = (if mostT (goods (rs.take i)) < rs[i].time then rs[i].time else mostT (goods (rs.take i))) ∧ (segF (goods (rs.take (i + 1)))).length = (segF (goods (rs.take i))).length + (frameL (recL rs[i])).length := by
  have e := goods_snoc rs i h hr
  refine ⟨e, by rw [e, makeM_snoc], by rw [e, mostT_snoc], ?_⟩
  rw [e, segF_append, List.length_append]
  simp [segF]
set_option maxHeartbeats 3200000 in
set_option maxRecDepth 4000 in
theorem refmake_any (w : World) (rs : List Rec) (A : Option Addr) (cap : Nat) (h : RecsLie w A rs cap) (every : Int) (he : every ≤ 9223372036854775807) (hl : rs.length ≤ 1000000) :
    Calls Tryd.prog 11 #[.slice A rs.length cap, .int .i64 every] w (NewMarks 31 w (makeM (evN every) (goods rs))) := by
  have hcl := h.2.1
  have hcm := h.2.2.1
  unfold maxLen at hcm
  have H := Lib.hid h
  have HL := Lib.hid hl
  obtain ⟨E, hE⟩ : ∃ E, evN every = E := ⟨_, rfl⟩
  have hE0 : 0 < E := by rw [← hE]; exact evN_pos _
  have hcase : every < 1 ∧ E = 1 ∨ ¬ every < 1 ∧ every = (E : Int) := by
    unfold evN at hE
    split at hE <;> omega
  rw [hE]
  clear h hl hE
  go_enter Tryd.func11, Tryd.ntmps11
  go_upto_if 11 with fail
  go_cut [1] (fun s wx => s = .int .i64 (E : Int) ∧ wx = w)
  case first =>
    rcases hcase with ⟨h1, h2⟩ | ⟨h1, h2⟩
    · have hq : decide (every < 1) = true := decide_eq_true h1
      subst h2
      go_wp2_with fail
      go_meet
      exact ⟨rfl, rfl⟩
    · have hq : decide (every < 1) = false := decide_eq_false h1
      go_wp2_with fail
      go_meet
      exact ⟨rfl, rfl⟩
  case rest =>
    obtain ⟨rfl, hwc⟩ := hcut
    have hwc' := hwc.symm
    clear hwc
    subst hwc'
    have HE : Hid (0 < E ∧ E ≤ 9223372036854775807) := Lib.hid (by omega)
    clear hcase hE0 he
    go_wp2_with fail
    go_loopw [5, 6, 7, 8, 9] (fun v pv cv tv iv wr => ∃ i : Nat, iv = .int .i64 i ∧ pv = .int .i64 ((segF (goods (rs.take i))).length : Nat) ∧ cv = .int .i64 ((goods (rs.take i)).length : Nat) ∧ tv = .int .i64 (mostT (goods (rs.take i))) ∧ i ≤ rs.length ∧ OwnM 31 wr w.heap.size v (makeM E (goods (rs.take i))) ∧ Below w.heap.size w wr) (fun _ _ _ _ iv _ => rs.length - (intOf iv).toNat)
    case atStart => exact ⟨0, rfl, rfl, rfl, rfl, Nat.zero_le _, OwnS.nil (fun _ h => h.elim), Below.refl _ _⟩
    case round =>
      obtain ⟨i, rfl, rfl, rfl, rfl, hi, hown, hbel⟩ := hrel
      have hll := HL.out
      have HO := Lib.hid hown
      have HB := Lib.hid hbel
      obtain ⟨C, hC⟩ : ∃ C, (goods (rs.take i)).length = C := ⟨_, rfl⟩
      obtain ⟨P, hP⟩ : ∃ P, (segF (goods (rs.take i))).length = P := ⟨_, rfl⟩
      obtain ⟨T, hT⟩ : ∃ T, mostT (goods (rs.take i)) = T := ⟨_, rfl⟩
      have hCi : C ≤ i := by
        have := goods_length (rs.take i)
        rw [List.length_take, hC] at this
        omega
      have hPi : P ≤ 2400000000 := by
        have h1 := segF_length (goods (rs.take i)) fun r hr => goods_right hr
        rw [hC, hP] at h1
        omega
      rw [hC, hP, hT]
      clear hown
      by_cases hlt : i < rs.length
      · obtain ⟨b, off, rfl, hbl, hat⟩ := H.out.more hlt
        obtain ⟨g0, g1, g2, g3, g4⟩ := hat.keep (w' := wr) fun j => hbel.cell hbl
        have hbs := hbel.size
        have HBL := Lib.hid hbl
        have HAT := Lib.hid hat
        have HNX := Lib.hid (make_next E rs i hlt)
        have HSK := Lib.hid (goods_skip rs i hlt)
        obtain ⟨r, hr⟩ : ∃ r, rs[i] = r := ⟨_, rfl⟩
        rw [hr] at g0 g1 g2 g3 g4 HAT HNX HSK
        rw [hC, hP, hT] at HNX
        obtain ⟨xo, xt, xk, xv, xd⟩ := r
        dsimp only at g0 g1 g2 g3 g4 HNX
        have HRT := Lib.hid (fun W => refright_any ⟨xo, xt, xk, xv, xd⟩ W)
        unfold recV at HRT
        dsimp only at HRT
        have HL1 : Hid ((makeM E (goods (rs.take i))).length + 1 ≤ 137438953472) := Lib.hid (by
          have := makeM_length E (goods (rs.take i))
          omega)
        have HCC := Lib.hid hC
        have hP2 := hP
        have hT2 := hT
        clear hat hr hbl hbel hC hP hT
        by_cases hrt : (⟨xo, xt, xk, xv, xd⟩ : Rec).right
        · have hq : decide (⟨xo, xt, xk, xv, xd⟩ : Rec).right = true := decide_eq_true hrt
          rw [hq] at HRT
          have hfl := frame_rec_length _ hrt
          have hrl := recL_length _ hrt
          have HRG := Lib.hid (recL_range _ hrt)
          have hpr : putR ⟨xo, xt, xk, xv, xd⟩ = recL ⟨xo, xt, xk, xv, xd⟩ := by unfold putR; rw [if_pos hrt]
          have HP := Lib.hid (fun W => refputrec_any none [] 0 ⟨xo, xt, xk, xv, xd⟩ W Lies.nil (by simp) (fun _ => rfl) (by simp))
          rw [List.nil_append, hpr] at HP
          unfold recV at HP
          dsimp only at HP
          obtain ⟨n1, n2, n3, n4⟩ := HNX.out hrt
          obtain ⟨X, hX⟩ : ∃ X, recL ⟨xo, xt, xk, xv, xd⟩ = X := ⟨_, rfl⟩
          rw [hX] at HP HRG hfl hrl n4
          have N1 := Lib.hid (show (goods (rs.take (i + 1))).length = C + 1 by rw [n1, List.length_append, HCC.out]; rfl)
          have N2 := Lib.hid n2
          have N3 := Lib.hid n3
          have N4 := Lib.hid n4
          have HC := Lib.hid (And.intro hCi hPi)
          have HFL := Lib.hid hfl
          have HRL := Lib.hid hrl
          clear HNX HSK hpr hrt hq hX hP2 hT2 n1 n2 n3 n4 hfl hrl hPi
          go_wp2_with fail
          refine (HRT.out _).mono ?_
          rintro e w2 ⟨rfl, hb2⟩
          have hbw := HB.out.trans (hb2.mono hbs)
          obtain ⟨a0, a1, a2, a3, a4⟩ := HAT.out.keep (w' := w2) fun j => hbw.cell HBL.out
          have HO2 := Lib.hid (OwnS.below HO.out hb2)
          have HB2 := Lib.hid hbw
          have hbs2 := hbw.size
          clear HRT hb2 hbw g0 g1 g2 g3 g4 HO HB
          obtain ⟨M, hM⟩ : ∃ M, C % E = M := ⟨_, rfl⟩
          rw [hM] at N2
          have hmz : ¬ (E : Int) = 0 := by have := HE.out; omega
          have hmod : (C : Int).tmod (E : Int) = (M : Int) := by rw [← hM, Int.ofNat_tmod]
          clear hM
          go_upto_if 27 with fail
          go_cut [5] (fun v wz => OwnM 31 wz w.heap.size v (makeM E (goods (rs.take (i + 1)))) ∧ Below w.heap.size w wz)
          case first =>
            by_cases hz : M = 0
            · subst hz
              obtain ⟨Bo, co, rfl, hlie, _⟩ := OwnS.parts HO2.out
              have hlc := hlie.2.1
              have hlm := hlie.2.2
              unfold maxLen at hlm
              clear hlie
              go_wp2_with (at_builtin; refine wpList_append_one (R := markRep) rfl (.tmp 28) (.tmp 37) 25 31 rfl Tryd.underlying25 _ mark_info rfl w.heap.size _ (makeM E (goods (rs.take i))) rfl w2 ⟨xo, T, (P : Int)⟩ (markCells ⟨xo, T, (P : Int)⟩) rfl rfl HO2.out w2.heap.size rfl rfl HL1.out hbs2 ?_; intro v4 w4 hown4 hb4 _ _; have HO4 := Lib.hid hown4; have HB4 := Lib.hid hb4; clear hown4 hb4)
              go_meet
              exact ⟨by rw [N2.out, if_pos trivial]; exact HO4.out, HB2.out.trans HB4.out⟩
            · have hqz : ((M : Int) == 0) = false := by simp [hz]
              go_wp2_with fail
              go_meet
              exact ⟨by rw [N2.out, if_neg hz, List.append_nil]; exact HO2.out, HB2.out⟩
          case rest =>
            obtain ⟨ho3, hb3⟩ := hcut
            obtain ⟨d0, d1, d2, d3, d4⟩ := HAT.out.keep (w' := wc) fun j => hb3.cell HBL.out
            have HO3 := Lib.hid ho3
            have HB3 := Lib.hid hb3
            have hz3 := hb3.size
            clear a0 a1 a2 a3 a4 HO2 HB2 hbs2 N2 HL1 hmz hmod ho3 hb3
            generalize wc = w3 at *
            obtain ⟨T', hT'⟩ : ∃ T', (if T < xt then xt else T) = T' := ⟨_, rfl⟩
            rw [hT'] at N3
            have HT' := Lib.hid hT'
            clear hT'
            go_upto_if 47 with fail
            go_cut [8] (fun tv wz => tv = .int .i64 T' ∧ wz = w3)
            case first =>
              by_cases ht : T < xt
              · have hqt : decide (T < xt) = true := decide_eq_true ht
                go_wp2_with fail
                go_meet
                exact ⟨by rw [← HT'.out, if_pos (by omega)], rfl⟩
              · have hqt : decide (T < xt) = false := decide_eq_false ht
                go_wp2_with fail
                go_meet
                exact ⟨by rw [← HT'.out, if_neg (by omega)], rfl⟩
            case rest =>
              obtain ⟨rfl, hwc⟩ := hcut
              have hwc' := hwc.symm
              clear hwc
              subst hwc'
              go_wp2_with fail
              refine (HP.out _).mono ?_
              rintro e w4 ⟨v4, rfl, ho4, hb4⟩
              obtain ⟨A4, c4, rfl, q1, q2⟩ := ho4.form
              have HB4 := Lib.hid (HB3.out.trans (hb4.mono hz3))
              have HO4 := Lib.hid (OwnS.below HO3.out hb4)
              have HF := Lib.hid (reffput_any none [] 0 A4 X c4 w4 Lies.nil (by simp) (fun _ => rfl) ho4.lies q1 (own_none ho4) (by simp) (by have := HRL.out; omega) HRG.out)
              rw [List.nil_append] at HF
              have hz4 := HB4.out.size
              clear ho4 hb4 HP HO3 HB3 d0 d1 d2 d3 d4 hz3
              go_wp2_with fail
              refine HF.out.mono ?_
              rintro e w5 ⟨v5, rfl, ho5, hb5⟩
              obtain ⟨A5, c5, rfl, q3, q4⟩ := ho5.form
              have HB5 := Lib.hid (HB4.out.trans (hb5.mono hz4))
              have HO5 := Lib.hid (OwnS.below HO4.out hb5)
              obtain ⟨fl, hfl⟩ : ∃ fl, (frameL X).length = fl := ⟨_, rfl⟩
              have hb1 := HFL.out
              have hb2 := HC.out
              rw [hfl] at N4 hb1 q3 ⊢
              unfold maxLen at q4
              clear ho5 hb5 HF HO4 HB4 hz4 q1 q2 hfl HFL HRL HRG
              go_wp2_with fail
              go_roundw
              case rel => exact ⟨i + 1, by go_num, by rw [N4.out]; go_num, by rw [N1.out]; go_num, by rw [N3.out], hlt, HO5.out, HB5.out⟩
              case measure => simp [intOf]; omega
        · have hq : decide (⟨xo, xt, xk, xv, xd⟩ : Rec).right = false := decide_eq_false hrt
          rw [hq] at HRT
          have HSK2 := Lib.hid (HSK.out hrt)
          have HPP := Lib.hid (And.intro hP2 hT2)
          clear HNX HSK hrt hq hP2 hT2
          go_wp2_with fail
          refine (HRT.out _).mono ?_
          rintro e w2 ⟨rfl, hb2⟩
          have HO2 := Lib.hid (OwnS.below HO.out hb2)
          have HB2 := Lib.hid (HB.out.trans (hb2.mono hbs))
          clear HRT hb2 HO HB
          go_wp2_with fail
          go_roundw
          case rel => exact ⟨i + 1, by go_num, by rw [HSK2.out, HPP.out.1], by rw [HSK2.out, HCC.out], by rw [HSK2.out, HPP.out.2], hlt, by rw [HSK2.out]; exact HO2.out, HB2.out⟩
          case measure => simp [intOf]; omega
      · obtain rfl : i = rs.length := by omega
        clear hbel
        go_wp2_with fail
        go_ret
        refine ⟨_, rfl, ?_, HB.out⟩
        have := HO.out
        rw [List.take_length] at this
        exact this
end Go.Proofs.YtffmfgbjlijpeaaDoor
