/- A contract of the program's Valid. -/
import Derived.Test.YtmghlfhdjdlkbaaDoorSigns
import Derived.Test.YtmghlfhdjdlkbaaDoorIter
import Derived.Test.YtmghlfhdjdlkbaaDoorRuneValid
import Derived.Test.YtmghlfhdjdlkbaaDoorUtf8Laid
namespace Go.Proofs.YtmghlfhdjdlkbaaDoor
open Go.RowKit

/-- Where a text is right UTF-8 its rune may stand at p. -/
theorem sign_right (s : ByteArray) (p : Nat) (hr : (runeAt s p).2.2 = true) : signAt s p = (plainR (Utf8.decode s p).1 || farR (Utf8.decode s p).1 || (markR (Utf8.decode s p).1 && decide (0 < p))) := by
  have e : (runeAt s p).1 = (Utf8.decode s p).1 := by
    unfold runeAt at hr ⊢
    split at hr
    · cases hr
    · rename_i h
      rw [if_neg h]
  unfold signAt
  rw [hr, e, Bool.true_and]

set_option maxHeartbeats 1600000 in
theorem valid_any (s : ByteArray) (w : World) (hs : s.size ≤ maxLen) (hT : Tabs w) :
    Calls Tryd.prog 13 #[.string s] w (fun e w' => e = .returned (.bool (validS s)) ∧ Below w.heap.size w w') := by
  have hu := utf8_any s w hs hT
  unfold maxLen at hs
  cases hv : Lib.validD s.data.toList with
  | false =>
    have hn := not_right s hv
    rw [hv] at hu
    rw [hn]
    clear hv hn
    go_enter Tryd.func13, Tryd.ntmps13
    go_wp2_with fail
    refine hu.mono ?_
    rintro e w1 ⟨rfl, hb⟩
    go_wp2
    go_ret
    exact ⟨rfl, hb⟩
  | true =>
    rw [hv] at hu
    have HV := Lib.hid ((right_all s).symm.trans hv)
    clear hv
    go_enter Tryd.func13, Tryd.ntmps13
    go_wp2_with fail
    refine hu.mono ?_
    rintro e w1 ⟨rfl, hb⟩
    have HB := Lib.hid hb
    clear hb hu
    go_wp2_with fail
    go_loopw [3] (fun n w' => ∃ (pos acc : Nat), w' = w1.iter s pos ∧ n = .int .i64 acc ∧ acc + cntFrom s pos = cntFrom s 0 ∧ acc ≤ pos ∧ pos ≤ s.size ∧ good s 0 = good s pos ∧ rightFrom s pos = true ∧ (acc = 0 → pos = 0)) (fun _ w' => s.size - w'.iterPos w1.heap.size)
    case atStart => exact ⟨0, 0, rfl, rfl, by omega, by omega, by omega, rfl, HV.out, fun _ => rfl⟩
    case round =>
      obtain ⟨pos, acc, rfl, rfl, hc, ha, hps, hg, hr, hz⟩ := hrel
      have HC := Lib.hid hc
      have HG := Lib.hid hg
      have HZ := Lib.hid hz
      clear hc hg hz
      have hbel : Below w.heap.size w (w1.iter s pos) := HB.out.trans ((iter_below w1 s pos).mono HB.out.size)
      by_cases hp : pos < s.size
      · have hnx : ∀ ty, (Instr.next (.pointer (some ⟨w1.heap.size, 0, none⟩)) true ty).run Tryd.prog (w1.iter s pos) = _ := fun ty => run_next_any w1 s pos ty hp
        have hwd := Lib.decode_width_pos s pos hp
        have hft := decode_fits s pos hp
        have hst := cnt_step s pos hp
        have hgs := good_step s pos hp
        have hrs := right_step s pos hp
        rw [hr] at hrs
        have hrs' := Bool.and_eq_true_iff.1 hrs.symm
        have hsg := sign_right s pos hrs'.1
        have hbelk : ∀ q, Below w.heap.size w (w1.iter s q) := fun q => HB.out.trans ((iter_below w1 s q).mono HB.out.size)
        obtain ⟨r, hre⟩ : ∃ r, (Utf8.decode s pos).1 = r := ⟨_, rfl⟩
        obtain ⟨k, hke⟩ : ∃ k, (Utf8.decode s pos).2 = k := ⟨_, rfl⟩
        rw [hre] at hsg
        rw [hke] at hwd hft hst hgs hrs'
        rw [hre, hke] at hnx
        have HST := Lib.hid hst
        have HGS := Lib.hid hgs
        have HRS := Lib.hid hrs'.2
        have HSG := Lib.hid hsg
        have HBK := Lib.hid hbelk
        clear hst hgs hrs hrs' hsg hre hke hr hbel hbelk
        have hbeg := begins_any r (w1.iter s (pos + k))
        have hjoi := joins_any r (w1.iter s (pos + k))
        have go_on : signAt s pos = true → ∃ (pos' acc' : Nat), w1.iter s (pos + k) = w1.iter s pos' ∧ Value.int .i64 ((acc : Int) + 1) = .int .i64 (acc' : Int) ∧ acc' + cntFrom s pos' = cntFrom s 0 ∧ acc' ≤ pos' ∧ pos' ≤ s.size ∧ good s 0 = good s pos' ∧ rightFrom s pos' = true ∧ (acc' = 0 → pos' = 0) := by
          intro h
          have h1 := HST.out
          have h2 := HC.out
          refine ⟨pos + k, acc + 1, rfl, rfl, by omega, by omega, hft, ?_, HRS.out, by omega⟩
          rw [HG.out, HGS.out, h, Bool.true_and]
        have GO := Lib.hid go_on
        clear go_on
        by_cases hb1 : (plainR r || farR r) = true
        · rw [hb1] at hbeg
          have hsig : signAt s pos = true := by rw [HSG.out, hb1, Bool.true_or]
          have GO' := Lib.hid (GO.out hsig)
          clear hb1 hjoi HSG HRS HGS HST HC HG HZ GO hsig
          go_wp2_with fail
          refine hbeg.mono ?_
          rintro e w2 ⟨rfl, rfl⟩
          go_wp2
          go_roundw
          case rel =>
            obtain ⟨p', a', e1, e2, hh⟩ := GO'.out
            exact ⟨p', a', e1, by rw [← e2], hh⟩
          case measure =>
            simp
            omega
        · have hb2 : (plainR r || farR r) = false := by simpa using hb1
          rw [hb2] at hbeg
          by_cases ha0 : acc = 0
          · have hp0 := HZ.out ha0
            have hsig : signAt s pos = false := by rw [HSG.out, hb2, hp0]; simp
            have hbad := Lib.hid (bad_sign s pos hp hsig HG.out)
            subst ha0
            clear hb1 hb2 hjoi HSG HRS HGS HST HC HG HZ GO hsig hp0
            go_wp2_with fail
            refine hbeg.mono ?_
            rintro e w2 ⟨rfl, rfl⟩
            go_wp2
            go_ret
            exact ⟨by rw [hbad.out]; rfl, HBK.out _⟩
          · have hnz : ((acc : Int) == 0) = false := by simpa using ha0
            have hpp : decide (0 < pos) = true := decide_eq_true (by omega)
            cases hm : markR r with
            | true =>
              rw [hm] at hjoi
              have hsig : signAt s pos = true := by rw [HSG.out, hb2, hm, hpp]; rfl
              have GO' := Lib.hid (GO.out hsig)
              clear hb1 hb2 hm hpp ha0 HSG HRS HGS HST HC HG HZ GO hsig
              go_wp2_with fail
              refine hbeg.mono ?_
              rintro e w2 ⟨rfl, rfl⟩
              go_wp2_with fail
              refine hjoi.mono ?_
              rintro e w2 ⟨rfl, rfl⟩
              go_wp2
              go_roundw
              case rel =>
                obtain ⟨p', a', e1, e2, hh⟩ := GO'.out
                exact ⟨p', a', e1, by rw [← e2], hh⟩
              case measure =>
                simp
                omega
            | false =>
              rw [hm] at hjoi
              have hsig : signAt s pos = false := by rw [HSG.out, hb2, hm]; simp
              have hbad := Lib.hid (bad_sign s pos hp hsig HG.out)
              clear hb1 hb2 hm hpp ha0 HSG HRS HGS HST HC HG HZ GO hsig
              go_wp2_with fail
              refine hbeg.mono ?_
              rintro e w2 ⟨rfl, rfl⟩
              go_wp2_with fail
              refine hjoi.mono ?_
              rintro e w2 ⟨rfl, rfl⟩
              go_wp2
              go_ret
              exact ⟨by rw [hbad.out]; rfl, HBK.out _⟩
      · have hnx : ∀ ty, (Instr.next (.pointer (some ⟨w1.heap.size, 0, none⟩)) true ty).run Tryd.prog (w1.iter s pos) = _ := fun ty => run_next_end w1 s pos ty hp
        have hd := Lib.hid (good_done s pos acc hp HG.out HC.out)
        clear HC HG HZ hr
        by_cases h1 : (1 : Int) ≤ acc
        · by_cases h40 : (acc : Int) ≤ 40
          · have hfin : validS s = true := by rw [hd.out]; simp; omega
            have HF := Lib.hid hfin
            clear hfin hd
            go_wp2
            go_ret
            exact ⟨by rw [HF.out]; rfl, hbel⟩
          · have hfin : validS s = false := by rw [hd.out]; simp; omega
            have HF := Lib.hid hfin
            clear hfin hd
            go_wp2
            go_ret
            exact ⟨by rw [HF.out]; rfl, hbel⟩
        · have hfin : validS s = false := by rw [hd.out]; simp; omega
          have HF := Lib.hid hfin
          clear hfin hd
          go_wp2
          go_ret
          exact ⟨by rw [HF.out]; rfl, hbel⟩
end Go.Proofs.YtmghlfhdjdlkbaaDoor
