/- Proved: for every list l of records and all numbers offset and max, SegmentFrom(l, offset, max) returns true. -/
import Derived.Test.YtaoflfdpagpgaaaDoorRows
import Derived.WalkKit
import Derived.ProofKit
import Derived.OpenShut
import Derived.ShutString
import Derived.ChangeOld
import Derived.Below
import Derived.LaidMore
import Derived.Stop.Joined
import Derived.SevenTiedAt
import Derived.Test.YtaoflfdpagpgaaaDoorCards
import Derived.Test.YtaoflfdpagpgaaaDoorTie
import Derived.Test.YtaoflfdpagpgaaaDoorCame
import Derived.Test.YtaoflfdpagpgaaaDoorSegRead
import Derived.Test.YtaoflfdpagpgaaaDoorCrcLaid
namespace Go.Proofs.YtaoflfdpagpgaaaDoor.segmentFrom
open Go.ChangeShapes Go.WideShapes Go.ChangeAt Go.RowKit
open Go.ChangeMaps (open_string shut_string)
set_option linter.unusedVariables false

theorem own : ownKnob Tryd.prog.godebug = none := by kernel_rfl
theorem laidOut : laidOutB Tryd.prog = true := by kernel_rfl

def IsRow (k : IntKind) (w : World) (a : Option Addr) (len cap : Nat) (zs : List Int) : Prop :=
  (a = none ∧ len = 0 ∧ cap = 0 ∧ zs = []) ∨
  ∃ x, a = some x ∧ len ≤ cap ∧ cap ≤ maxLen ∧ zs.length = cap ∧ (∀ i, i < zs.length → w.cell? (x.add i) = some (.int k (zs.getD i 0))) ∧ ∀ n ∈ zs, (Lit.int k n).wf = true

set_option maxHeartbeats 3200000 in
set_option maxRecDepth 4000 in
theorem walk (a0 : Option Addr) (cap0 : Nat) (z0 : List Rec) (a1 : Int) (a2 : Int) (w : World) (hh : Half w) (w0 : RecsLie w a0 z0 cap0) (w1 : (Lit.int .i64 a1).wf = true) (w2 : (Lit.int .i64 a2).wf = true) :
    Calls Tryd.prog 6 #[.slice a0 z0.length cap0, .int .i64 a1, .int .i64 a2] w fun e w' => e = .returned (.bool true) ∧ Below w.heap.size w w' := by
  obtain ⟨hr0, hr1⟩ := bounds_i64 w1
  obtain ⟨hs0, hs1⟩ := bounds_i64 w2
  have HACT := Lib.hid w0
  have hcl := w0.2.1
  have hcm := w0.2.2.1
  unfold maxLen at hcm
  have HBG := Lib.hid (fun wA (hb : Below w.heap.size w wA) => big_any w wA a0 z0 cap0 w0 hb)
  have HAL := Lib.hid (alive_any w hh)
  have HWF0 := Lib.hid w0.2.2.2
  clear w0 w1 w2 hh
  go_enter Tryd.func6, Tryd.ntmps6
  go_wp2_with fail
  refine HAL.out.mono ?_
  rintro e wA ⟨rfl, hbel⟩
  have HB := Lib.hid (HBG.out wA hbel)
  have HBEL := Lib.hid hbel
  clear hbel HAL HBG
  go_wp2_with fail
  refine HB.out.mono ?_
  rintro e wB ⟨hwB, r, rfl, hsm⟩
  have HBEL2 : Hid (Below w.heap.size w wB) := Lib.hid (by rw [hwB]; exact HBEL.out)
  have HSM := Lib.hid hsm
  clear HB hsm HBEL hwB wA
  cases r
  · have hlen := Lib.hid (HSM.out rfl).1
    by_cases hlo : a2 < 1
    · have hq : decide (a2 < 1) = true := decide_eq_true hlo
      go_wp2
      go_ret
      exact ⟨rfl, HBEL2.out⟩
    by_cases hhi : 20 < a2
    · have hq : decide (a2 < 1) = false := decide_eq_false hlo
      have hq2 : decide (20 < a2) = true := decide_eq_true hhi
      go_wp2
      go_ret
      exact ⟨rfl, HBEL2.out⟩
    have hq : decide (a2 < 1) = false := decide_eq_false hlo
    have hq2 : decide (20 < a2) = false := decide_eq_false hhi
    have HMX : Hid (1 ≤ a2 ∧ a2 ≤ 20) := Lib.hid (by omega)
    have HOB : Hid (-9223372036854775808 ≤ a1 ∧ a1 ≤ 9223372036854775807) := Lib.hid (by omega)
    clear hlo hhi HSM
    go_wp2_with fail
    clear hq hq2 hs0 hs1 hr0 hr1
    go_loopw [9, 10] (fun v iv wr => ∃ i : Nat, iv = .int .i64 i ∧ i ≤ z0.length ∧ OwnR wr w.heap.size v (allR (z0.take i)) ∧ Below w.heap.size w wr) (fun _ iv _ => z0.length - (intOf iv).toNat)
    case atStart => exact ⟨0, rfl, Nat.zero_le _, OwnR.nil, HBEL2.out⟩
    case round =>
      obtain ⟨i, rfl, hi, hown, hbel⟩ := hrel
      have HO := Lib.hid hown
      have HB := Lib.hid hbel
      have hl60 := hlen.out
      by_cases hlt : i < z0.length
      · obtain ⟨b, off, rfl, hbl, hat⟩ := HACT.out.more hlt
        obtain ⟨g0, g1, g2, g3, g4⟩ := hat.keep (w' := wr) fun j => hbel.cell hbl
        have HSN := Lib.hid (allR_snoc z0 i hlt)
        have HWF : Hid (∀ r ∈ allR (z0.take i), r.wf) := Lib.hid fun r hr => (allR_wf (z0.take i) (fun q hq => HWF0.out q (List.mem_of_mem_take hq)) (by rw [List.length_take]; omega) r hr).1
        obtain ⟨x, hx⟩ : ∃ x, z0[i] = x := ⟨_, rfl⟩
        rw [hx] at g0 g1 g2 g3 g4 HSN
        obtain ⟨xo, xt, xk, xv, xd⟩ := x
        unfold numbered at HSN
        dsimp only at g0 g1 g2 g3 g4 HSN
        have hbs := hbel.size
        have HBX := Lib.hid (HB.out.alloc hbs (.cells #[.int .i64 (3 * (i : Int)), .int .i64 xt, .string xk, .string xv, .bool xd] 38))
        have HOX := Lib.hid (HO.out.alloc (.cells #[.int .i64 (3 * (i : Int)), .int .i64 xt, .string xk, .string xv, .bool xd] 38))
        have HSZ : Hid (wr.heap.size + 1 = (wr.alloc (.cells #[.int .i64 (3 * (i : Int)), .int .i64 xt, .string xk, .string xv, .bool xd] 38)).heap.size) := Lib.hid (by simp)
        have HLB : Hid ((allR (z0.take i)).length + 1 ≤ 1099511627776) := Lib.hid (by
          have := allR_length (z0.take i)
          rw [List.length_take] at this
          omega)
        obtain ⟨Bo, co, rfl, hlie, _⟩ := hown.parts HWF.out
        have hlc := hlie.2.1
        have hlm := hlie.2.2.1
        unfold maxLen at hlm
        clear hat hx hbl hbel hown hlie
        go_wp2_with (at_builtin; refine wpList_append_rec rfl (.tmp 48) (.tmp 50) rfl w.heap.size _ (allR (z0.take i)) rfl _ ⟨3 * (i : Int), xt, xk, xv, xd⟩ rfl HOX.out (congrArg (fun k => Value.slice (some ⟨k, 0, none⟩) 1 1) HSZ.out) HLB.out HBX.out.size ?_; intro v4 w4 hown4 hb4 _ _; have HO4 := Lib.hid hown4; have HB4 := Lib.hid hb4; clear hown4 hb4)
        go_roundw
        case rel => exact ⟨i + 1, by go_num, hlt, by rw [HSN.out]; exact HO4.out, HBX.out.trans HB4.out⟩
        case measure => simp [intOf]; omega
      · have hil : i = z0.length := by omega
        have HO0 := HO.out
        rw [hil, List.take_length] at HO0
        obtain ⟨K, hK⟩ : ∃ K, z0.length = K := ⟨_, rfl⟩
        have hqi : ¬ (i : Int) < (z0.length : Int) := by omega
        have HAW := Lib.hid (fun r hr => allR_wf z0 HWF0.out hlen.out r hr)
        have HRI := Lib.hid (show Rises (allR z0) from renum_rises (by decide) 0 z0)
        have hal := allR_length z0
        obtain ⟨ALL, hALL⟩ : ∃ ALL, allR z0 = ALL := ⟨_, rfl⟩
        rw [hALL] at HO0 HAW HRI hal
        obtain ⟨Ag, cg, rfl, pg, hAg⟩ := HO0.parts fun r hr => (HAW.out r hr).1
        obtain ⟨NA, hNA⟩ : ∃ NA, ALL.length = NA := ⟨_, rfl⟩
        have hcg := pg.2.1
        have hcgm := pg.2.2.1
        unfold maxLen at hcgm
        rw [hNA] at hcg hal ⊢
        have HPG := Lib.hid pg
        have HNA := Lib.hid (And.intro hNA (show NA ≤ 60 by omega))
        clear pg hown hbel HO0 HO hK hALL hNA hal HACT hi
        go_wp2_with fail
        clear hil hqi
        generalize wr = wC at *
        go_loopw [12, 13, 14] (fun v av kv wr => ∃ (c k : Nat) (at_ : Int), av = .int .i64 at_ ∧ kv = .int .i64 k ∧ Reading ALL (ge ALL a1) at_ c ∧ k ≤ c ∧ (-9223372036854775808 ≤ at_ ∧ at_ ≤ 9223372036854775807) ∧ OwnR wr wC.heap.size v ((ge ALL a1).take c) ∧ Below wC.heap.size wC wr) (fun _ _ kv _ => NA + 1 - (intOf kv).toNat)
        case atStart => exact ⟨0, 0, a1, rfl, rfl, Reading.start ALL a1, Nat.le_refl _, HOB.out, by rw [List.take_zero]; exact OwnR.nil, Below.refl _ _⟩
        case round =>
          obtain ⟨c, k, at_, rfl, rfl, hrd, hkc, hab, hown, hbel⟩ := hrel
          have hkn : k ≤ NA := Nat.le_trans hkc (Nat.le_trans hrd.le (Nat.le_trans (ge_length ALL a1) (Nat.le_of_eq HNA.out.1)))
          have hna := HNA.out.2
          have hq : decide ((k : Int) ≤ (NA : Int)) = true := decide_eq_true (by omega)
          have hfr := vsegfrom_any wr ALL Ag cg (HPG.out.below hbel (Nat.le_refl _)) at_ a2 (by rw [HNA.out.1]; omega)
          rw [HNA.out.1] at hfr
          obtain ⟨m, hm⟩ : ∃ m, fromM ALL at_ a2 = m := ⟨_, rfl⟩
          have hml := from_length ALL at_ a2
          have HWM : Hid (∀ r ∈ m, r.wf ∧ 0 ≤ r.off ∧ r.off ≤ 180) := Lib.hid fun r hr => HAW.out r (by rw [← hm] at hr; exact (List.mem_filter.1 (List.mem_of_mem_take hr)).1)
          rw [hm] at hfr hml
          rw [HNA.out.1] at hml
          obtain ⟨L, hL⟩ : ∃ L, m.length = L := ⟨_, rfl⟩
          rw [hL] at hml
          have hm20 := HMX.out
          have hLa : (L : Int) ≤ a2 := hml.2 (by omega)
          have HLN := Lib.hid (And.intro hL (And.intro hml.1 hLa))
          have HFR := Lib.hid hfr
          have HM := Lib.hid hm
          have HRD := Lib.hid hrd
          have HKC := Lib.hid hkc
          have HOW := Lib.hid hown
          have HBL := Lib.hid hbel
          have q1 : decide (a2 < (L : Int)) = false := decide_eq_false (by omega)
          clear hfr hm hrd hkc hown hml hL hLa hab
          go_wp2_with fail
          refine HFR.out.mono ?_
          rintro e w2 ⟨v2, rfl, o2, b2⟩
          obtain ⟨Am, cm, rfl, pm, _⟩ := o2.parts fun r hr => (HWM.out r hr).1
          have hzr := hbel.size
          have hlt2 := o2.lt
          have hcm1 := pm.2.1
          have hcm2 := pm.2.2.1
          unfold maxLen at hcm2
          rw [HLN.out.1] at hcm1 ⊢
          have B2 := Lib.hid (HBL.out.trans (b2.mono hzr))
          have HO2 := Lib.hid (HOW.out.below b2)
          have HOWB := Lib.hid HOW.out.lt
          have PM := Lib.hid pm
          have hz2 := B2.out.size
          clear HFR o2 b2 pm HOW HBL hbel
          by_cases h0 : L = 0
          · subst h0
            have q1' : decide (a2 < 0) = false := decide_eq_false (by omega)
            clear q1
            have hm0 : m = [] := List.eq_nil_of_length_eq_zero HLN.out.1
            have hw := read_all HRD.out HMX.out.1 (HM.out.trans hm0)
            rw [hw] at HO2
            have hgl := ge_length ALL a1
            rw [HNA.out.1] at hgl
            obtain ⟨Aw, cw, rfl, pw, _⟩ := HO2.out.parts fun r hr => (HAW.out r (List.mem_filter.1 hr).1).1
            obtain ⟨GL, hGL⟩ : ∃ GL, (ge ALL a1).length = GL := ⟨_, rfl⟩
            have hcw := pw.2.1
            have hcwm := pw.2.2.1
            unfold maxLen at hcwm
            rw [hGL] at hcw hgl ⊢
            have HGL := Lib.hid hGL
            have PW := Lib.hid pw
            have PA := Lib.hid (HPG.out.below B2.out (Nat.le_refl _))
            have BW := Lib.hid (HB.out.trans (B2.out.mono HB.out.size))
            clear pw hm0 hw hGL HO2 PM HRD HM HWM hlt2 HLN HKC B2 HPG HMX hcm1 hcm2 hm20
            go_wp2_with fail
            clear hq q1' hzr hz2
            generalize wr = wE at *
            go_loopw [16, 17] (fun v iv wr => ∃ i : Nat, iv = .int .i64 i ∧ i ≤ NA ∧ OwnR wr w2.heap.size v (ge (ALL.take i) a1) ∧ Below w2.heap.size w2 wr) (fun _ iv _ => NA - (intOf iv).toNat)
            case atStart => exact ⟨0, rfl, Nat.zero_le _, OwnR.nil, Below.refl _ _⟩
            case round =>
              obtain ⟨i, rfl, hi, hown, hbel⟩ := hrel
              by_cases hlt : i < NA
              · have hltA : i < ALL.length := by rw [HNA.out.1]; exact hlt
                obtain ⟨b, off, rfl, hbl, hat⟩ := PA.out.more hltA
                obtain ⟨g0, g1, g2, g3, g4⟩ := hat.keep (w' := wr) fun j => hbel.cell hbl
                have HSN := Lib.hid (ge_snoc ALL a1 i hltA)
                have HSK := Lib.hid (ge_skip ALL a1 i hltA)
                obtain ⟨x, hx⟩ : ∃ x, ALL[i] = x := ⟨_, rfl⟩
                rw [hx] at g0 g1 g2 g3 g4 HSN HSK
                obtain ⟨xo, xt, xk, xv, xd⟩ := x
                dsimp only at g0 g1 g2 g3 g4 HSN HSK
                have HO := Lib.hid hown
                have HBr := Lib.hid hbel
                have hbs := hbel.size
                have HLB : Hid ((ge (ALL.take i) a1).length + 1 ≤ 1099511627776) := Lib.hid (by
                  have := ge_length (ALL.take i) a1
                  rw [List.length_take] at this
                  omega)
                obtain ⟨Bo, co, rfl, hlie, _⟩ := hown.parts fun r hr => (HAW.out r (List.mem_of_mem_take (List.mem_filter.1 hr).1)).1
                have hlc := hlie.2.1
                have hlm := hlie.2.2.1
                unfold maxLen at hlm
                clear hat hx hbl hbel hown hlie hltA
                by_cases ho : a1 ≤ xo
                · have hqo : decide (a1 ≤ xo) = true := decide_eq_true ho
                  have HE := Lib.hid (HSN.out ho)
                  clear HSN HSK ho
                  go_wp2_with (at_builtin; refine wpList_append_rec rfl (.tmp 94) (.tmp 99) rfl w2.heap.size _ (ge (ALL.take i) a1) rfl wr ⟨xo, xt, xk, xv, xd⟩ rfl HO.out rfl HLB.out hbs ?_; intro v4 w4 hown4 hb4 _ _; have HO4 := Lib.hid hown4; have HB4 := Lib.hid hb4; clear hown4 hb4)
                  go_roundw
                  case rel => exact ⟨i + 1, by go_num, hlt, by rw [HE.out]; exact HO4.out, HBr.out.trans HB4.out⟩
                  case measure => simp [intOf]; omega
                · have hqo : decide (a1 ≤ xo) = false := decide_eq_false ho
                  have HE := Lib.hid (HSK.out ho)
                  clear HSN HSK ho
                  go_wp2_with fail
                  go_roundw
                  case rel => exact ⟨i + 1, by go_num, hlt, by rw [HE.out]; exact HO.out, HBr.out⟩
                  case measure => simp [intOf]; omega
              · have hin : i = NA := by omega
                have htk : ALL.take i = ALL := List.take_of_length_le (by rw [HNA.out.1]; omega)
                rw [htk] at hown
                have hqi : ¬ (i : Int) < (NA : Int) := by omega
                obtain ⟨Bo, co, rfl, hlie, _⟩ := hown.parts fun r hr => (HAW.out r (List.mem_filter.1 hr).1).1
                have hs := samerecs_any wr (ge ALL a1) Aw Bo cw co (PW.out.below hbel (Nat.le_refl _)) hlie
                rw [HGL.out] at hs
                have hlc := hlie.2.1
                have hlm := hlie.2.2.1
                unfold maxLen at hlm
                rw [HGL.out] at hlc ⊢
                have HS := Lib.hid hs
                have HFIN := Lib.hid (BW.out.trans (hbel.mono BW.out.size))
                clear hs hown hbel hlie htk hin hi
                go_wp2_with fail
                refine HS.out.mono ?_
                rintro e w5 ⟨rfl, m5, hw5⟩
                have hfin : Below w.heap.size w w5 := by rw [hw5]; exact below_drewN HFIN.out m5
                clear hw5
                go_wp2_with fail
                go_ret
                exact ⟨rfl, hfin⟩
          · obtain ⟨n, rfl⟩ : ∃ n, L = n + 1 := ⟨L - 1, by omega⟩
            clear q1 h0
            have q2 : ((n : Int) + 1 == 0) = false := by simp; omega
            have q1 : decide (a2 < (n : Int) + 1) = false := decide_eq_false (by have := HLN.out.2.2; omega)
            obtain ⟨b, off, rfl, hbw, hall, r, hrl, hra⟩ := PM.out.last HLN.out.1
            have hbb := hlt2 b rfl
            obtain ⟨g0, _, _, _, _⟩ := hra
            have hne : m ≠ [] := by intro h; have := HLN.out.1; rw [h] at this; simp at this
            have hgl : m.getLast hne = r := by
              rw [List.getLast?_eq_some_getLast hne] at hrl
              exact Option.some.inj hrl
            obtain ⟨hn1, hn2⟩ := HRD.out.next HRI.out HM.out hne
            rw [hgl] at hn1
            have hrw := HWM.out r (by rw [← hgl]; exact List.getLast_mem hne)
            obtain ⟨xo, xt, xk, xv, xd⟩ := r
            dsimp only at g0 hn1 hrw
            have HN1 := Lib.hid hn1
            have HN2 : Hid ((ge ALL a1).take c ++ m = (ge ALL a1).take (c + m.length)) := Lib.hid hn2
            have HALLM := Lib.hid hall
            have HXO := Lib.hid hrw.2
            have hLL := HLN.out.1
            rw [hLL] at HN1 HN2
            have HLB : Hid (((ge ALL a1).take c).length + m.length ≤ 1099511627776) := Lib.hid (by
              have h1 := ge_length ALL a1
              have h2 := HLN.out
              have h3 := HNA.out
              rw [List.length_take]
              omega)
            have HCM := Lib.hid hcm1
            obtain ⟨Bo, co, hv, hlie, _⟩ := HO2.out.parts fun r hr => (HAW.out r (List.mem_filter.1 (List.mem_of_mem_take hr)).1).1
            obtain ⟨T, hT⟩ : ∃ T, (ge ALL a1).take c = T := ⟨_, rfl⟩
            rw [hT] at HLB HO2 HN2 hv hlie
            obtain ⟨tl, htl⟩ : ∃ tl, T.length = tl := ⟨_, rfl⟩
            have hlie2 := hlie.2.1
            rw [htl] at hv hlie2
            have hkeep : ∀ w4 : World, w2.grownBy w4 (Value.ownBlock (.slice Bo tl co)) → w4.cell? ⟨b, off + n * 5, none⟩ = some (.int .i64 xo) := fun w4 hg => by
              rw [← hv] at hg
              refine (World.cell?_of_block (hg.block b hbw ?_)).trans g0
              intro he
              have := HOWB.out b he.symm
              omega
            subst hv
            have HKP := Lib.hid hkeep
            have hlm := hlie.2.2.1
            unfold maxLen at hlm
            clear hT htl hrl hn1 hn2 hrw hall hlt2 hbb g0 hbw hgl hne hlie hkeep hLL
            have HE : Hid (b + 0 = b) := Lib.hid rfl
            have hxr := HXO.out
            clear hzr hz2 hm20
            go_wp2_with (at_builtin; refine wpList_append_recs rfl (.tmp 70) (.tmp 71) rfl wC.heap.size _ T rfl HO2.out b off (n + 1) cm m rfl HLN.out.1 HALLM.out HCM.out HLB.out B2.out.size ?_; intro v4 w4 hown4 hb4 hg4; have HO4 := Lib.hid hown4; have HB4 := Lib.hid hb4; have g0 := HKP.out w4 hg4; clear hown4 hb4 hg4)
            go_roundw
            case rel => exact ⟨c + (n + 1), k + 1, xo + 1, by go_num, by go_num, HN1.out, by have := HKC.out; omega, by omega, by rw [← HN2.out]; exact HO4.out, B2.out.trans HB4.out⟩
            case measure => simp [intOf]; omega
  · go_wp2
    go_ret
    exact ⟨rfl, HBEL2.out⟩

set_option maxRecDepth 100000 in
theorem lifted (os : Os) (started : os.Started) (H : Type) (enc : TypeId × Value → H) :
    ReturnsInHanded {} Tryd.checked os 6 .any (fun w args => (Rows.segmentFromSpec.pre enc Tryd.prog Tryd.f6 [] false w args ∧ laidMetH Tryd.prog laid1 w) ∧ sizedMet enc Tryd.prog Tryd.f6 (OpenSpec.ofChange Rows.segmentFromSpec) false w args) (Rows.segmentFromSpec.post enc Tryd.prog Tryd.f6 false true false false) := by
  refine returnsInHanded_of_change_and (C := Tryd.checked) (X := fun w _ => laidMetH Tryd.prog laid1 w) (fun _ _ _ hh h => h.of_heap hh) own started (by kernel_rfl) Tryd.func6
    (ChangeSpec.witness_shaped (enc := enc) (C := Tryd.checked) (os := os) (X := fun w _ => laidMetH Tryd.prog laid1 w) false (World.doorLaid Tryd.prog 400 os) #[.slice none 0 0, .int .i64 0, .int .i64 0] 8 rfl (World.shaped_of_RefB (by kernel_rfl) (by kernel_rfl)) (by kernel_rfl) (by kernel_rfl) (by kernel_rfl) (door_met os _)) ?_
  intro W base args ds gs before hval0 hW _ _ hL _
  have hval : ∀ (j : Nat) t v, Tryd.f6.params[j]? = some t → args[j]? = some v → Value.okWide Tryd.prog W .any base t v := hval0
  have hW' := hW
  obtain ⟨p, q, hA0, hV, rfl, hfz, hnd⟩ := hW
  have hA : DataW.TrodAll enc Tryd.prog W 0 (fun _ => true) true Tryd.f6.params.toList args.toList ds p := hA0
  rw [Tryd.params6] at hA hval
  obtain ⟨v0, vs0, d0, ds0, p0, q0, hargs, rfl, rfl, h0, r0⟩ := trodAll_cons hA
  obtain ⟨v1, vs1, d1, ds1, p1, q1, rfl, rfl, rfl, h1, r1⟩ := trodAll_cons r0
  obtain ⟨v2, vs2, d2, ds2, p2, q2, rfl, rfl, rfl, h2, r2⟩ := trodAll_cons r1
  obtain ⟨rfl, rfl, rfl⟩ := trodAll_nil r2
  obtain rfl : args = #[v0, v1, v2] := by cases args; simp_all
  obtain ⟨rfl, rfl⟩ := trodVars_none hV
  have k0 := h0
  have lt0 : ∀ x ∈ p0, x.block < W.heap.size := by obtain ⟨m, hm⟩ := k0; exact DataW.trod_lt m _ _ _ hm
  obtain ⟨a0, cap0, z0, rfl, w0⟩ := recs_came (hval 0 22 v0 rfl rfl) h0
  obtain ⟨a1, rfl, rfl, rfl, w1⟩ := open_int Tryd.underlying3 (hval 1 3 v1 rfl rfl) h1
  obtain ⟨a2, rfl, rfl, rfl, w2⟩ := open_int Tryd.underlying3 (hval 2 3 v2 rfl rfl) h2
  clear hA0 hval0
  refine (walk a0 cap0 z0 a1 a2 W (of_laid hL) w0 w1 w2).mono fun e W' ⟨he, bel⟩ => ?_
  subst he
  exact ⟨_, rfl, _, _, _, [], _, [], hW', trodAll_mk1 (shut_bool Tryd.underlying4 _), (trodAll_cons_mk (Below.trod laidOut (by kernel_rfl) (of_decide_eq_true (by kernel_rfl)) k0 bel lt0) (trodAll_cons_mk (shut_int Tryd.underlying3 w1) (trodAll_cons_mk (shut_int Tryd.underlying3 w2) trodAll_mk0))), rfl, bel.frame _, fun h => by cases h⟩

theorem over : Rows.segmentFromRow.holds Tryd.pinned (OpenSpec.ofChange Rows.segmentFromSpec) :=
  OpenClaim.holds_of_wide 6 Tryd.f6 rfl rfl rfl rfl rfl rfl rfl ⟨rfl, rfl, rfl, rfl, rfl⟩ rfl rfl rfl rfl rfl (by kernel_rfl) Tryd.func6 (by kernel_rfl)
    (of_decide_eq_true (by kernel_rfl)) (by unfold Func.isWrapper; first | (rw [if_pos (by decide +kernel)]; kernel_rfl) | (rw [if_neg (by decide +kernel)]; exact ⟨rfl, rfl⟩))
    (fun os started H enc _ => lifted os started H enc)

theorem proved : Rows.SegmentFromCardSaid :=
  Claim7.holds_tied_plain_at .later [] [.data] true (true, "57e34fe7e6195b37330d53ae7f2fe2cefffe6bf52f7c82621d6670bc05d0138e") false
    over (fun _ h => by cases h) (by kernel_rfl) (fun _ h => by cases h) segmentFrom_row_tie rfl ⟨rfl, rfl⟩ (by kernel_rfl) rfl
    (fun f fn hf hfn => by
      obtain rfl : f = 6 := Option.some.inj ((show Tryd.prog.funcNamed "cooperage/cooperagelaw8.SegmentFrom" = some 6 by kernel_rfl).symm.trans hf) |>.symm
      obtain rfl : fn = Tryd.f6 := (Option.some.inj (Tryd.func6.symm.trans hfn)).symm
      exact ⟨by kernel_rfl, fun j t ht => by
        rw [Tryd.params6] at ht
        have hm : t ∈ [22, 3, 3] := by simpa using Array.mem_of_getElem? ht
        have hall : ([22, 3, 3].all fun u => !Tryd.prog.wantsStandIn u) = true := by kernel_rfl
        exact (show Tryd.prog.wantsStandIn t = false by simpa using List.all_eq_true.1 hall t hm)⟩)
    (by kernel_rfl)
#print axioms proved
end Go.Proofs.YtaoflfdpagpgaaaDoor.segmentFrom
