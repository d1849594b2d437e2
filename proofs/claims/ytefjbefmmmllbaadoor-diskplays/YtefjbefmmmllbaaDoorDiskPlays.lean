/- Proved: for every room and every list l of calls, DiskPlays(room, l) returns true. -/
import Derived.Test.YtefjbefmmmllbaaDoorRows
import Derived.WalkKit
import Derived.ProofKit
import Derived.OpenShut
import Derived.ShutString
import Derived.ChangeOld
import Derived.Below
import Derived.LaidMore
import Derived.Stop.Joined
import Derived.SevenTiedAt
import Derived.Lay
import Derived.Deep.QuietTactic
import Derived.BigQuiet
import Derived.Test.YtefjbefmmmllbaaDoorCards
import Derived.Test.YtefjbefmmmllbaaDoorTie
import Derived.Test.YtefjbefmmmllbaaDoorCame
import Derived.Test.YtefjbefmmmllbaaDoorDPlays
import Derived.Test.YtefjbefmmmllbaaDoorDAlive
namespace Go.Proofs.YtefjbefmmmllbaaDoor.diskPlays
open Go.ChangeShapes Go.WideShapes Go.ChangeAt Go.RowKit
open Go.ChangeMaps (open_string shut_string)
set_option linter.unusedVariables false

theorem own : ownKnob Tryd.prog.godebug = none := by kernel_rfl
theorem laidOut : laidOutB Tryd.prog = true := by kernel_rfl

def IsRow (k : IntKind) (w : World) (a : Option Addr) (len cap : Nat) (zs : List Int) : Prop :=
  (a = none ∧ len = 0 ∧ cap = 0 ∧ zs = []) ∨
  ∃ x, a = some x ∧ len ≤ cap ∧ cap ≤ maxLen ∧ zs.length = cap ∧ (∀ i, i < zs.length → w.cell? (x.add i) = some (.int k (zs.getD i 0))) ∧ ∀ n ∈ zs, (Lit.int k n).wf = true

set_option maxHeartbeats 3200000 in
set_option maxRecDepth 4000 in
theorem walk (a0 : Int) (a1 : Option Addr) (cap1 : Nat) (z1 : List ActM) (w : World) (hh : Tabs w) (w0 : (Lit.int .i64 a0).wf = true) (w1 : ActsLie w a1 z1 cap1) :
    Calls Tryd.prog 3 #[.int .i64 a0, .slice a1 z1.length cap1] w fun e w' => e = .returned (.bool true) ∧ Below w.heap.size w w' := by
  obtain ⟨hr0, hr1⟩ := bounds_i64 w0
  have HACT := Lib.hid w1
  have hcl := w1.2.1
  have hcm := w1.2.2.1
  unfold maxLen at hcm
  clear w0 w1
  go_enter Tryd.func3, Tryd.ntmps3
  go_wp2_with fail
  refine (alive_any w hh).mono ?_
  rintro e wA ⟨rfl, hbel⟩
  have HB := Lib.hid (big_any w wA a1 z1 cap1 HACT.out hbel)
  have HBEL := Lib.hid hbel
  clear hbel
  go_wp2_with fail
  refine HB.out.mono ?_
  rintro e w2 ⟨hw2, r, rfl, hsm⟩
  have HBEL2 : Hid (Below w.heap.size w w2) := Lib.hid (by rw [hw2]; exact HBEL.out)
  have HSM := Lib.hid hsm
  clear HB hsm HBEL hw2 wA
  cases r
  · have HS := Lib.hid (HSM.out rfl)
    clear HSM
    go_wp2_with fail
    refine (vnew_any a0 w2).mono ?_
    rintro e w3 ⟨rfl, h3⟩
    have HN3 := Lib.hid h3
    clear h3
    go_wp2_with fail
    refine (vnew_any 99 w3).mono ?_
    rintro e w4 ⟨rfl, h4⟩
    have HN4 := Lib.hid h4
    clear h4
    go_wp2_with fail
    refine (rnew_any a0 w4).mono ?_
    rintro e w5 ⟨rfl, h5⟩
    have D := Lib.hid (duo_new HBEL2.out hh a0 (by omega) HN3.out HN4.out h5)
    clear HN3 HN4 h5 HBEL2
    obtain ⟨p, hp⟩ : ∃ p, w2.heap.size = p := ⟨_, rfl⟩
    obtain ⟨o, ho⟩ : ∃ o, w3.heap.size = o := ⟨_, rfl⟩
    obtain ⟨q, hq⟩ : ∃ q, w4.heap.size = q := ⟨_, rfl⟩
    obtain ⟨room, hroom⟩ : ∃ room, max a0 0 = room := ⟨_, rfl⟩
    rw [hp, ho, hq, hroom] at D
    rw [hp, ho, hq]
    clear hp ho hq hroom hr0 hr1 w2 w3 w4
    go_wp2_with fail
    go_loopw [10] (fun iv wr => ∃ (i : Nat) (l lo : List FileM), iv = .int .i64 (i : Int) ∧ i ≤ z1.length ∧ Duo w wr p q o room l l lo none [] (fun _ => none) ∧ Played l lo i)
      (fun iv _ => z1.length - (intOf iv).toNat)
    case atStart => exact ⟨0, [], [], rfl, Nat.zero_le _, D.out, Played.start⟩
    case round =>
      obtain ⟨i, l, lo, rfl, hi, hD, hP⟩ := hrel
      have HD := Lib.hid hD
      have HP := Lib.hid hP
      clear hD hP D
      by_cases hlt : i < z1.length
      · obtain ⟨b, off, hA, hbl, hat⟩ := HACT.out.1 (by rintro rfl; simp at hlt)
        obtain ⟨A1, c1, B1, d1, f0, f1, f2, f3, f4, f5, s1, s2⟩ := hat i hlt
        have hmem : z1[i] ∈ z1 := List.getElem_mem hlt
        have HWF := Lib.hid (HACT.out.2.2.2 _ hmem)
        have HSS := Lib.hid (HS.out.2 _ hmem)
        have HI : Hid (i ≤ 60) := Lib.hid (by have := HS.out.1; omega)
        have HI1 : Hid (i + 1 ≤ 60) := Lib.hid (by have := HS.out.1; omega)
        obtain ⟨a, ha⟩ : ∃ a, z1[i] = a := ⟨_, rfl⟩
        rw [ha] at f0 f1 f2 f3 f4 f5 s1 s2 HWF HSS
        have HS1 := Lib.hid s1
        have HS2 := Lib.hid s2
        have F0 := Lib.hid f0
        have F1 := Lib.hid f1
        have F2 := Lib.hid f2
        have F3 := Lib.hid f3
        have F4 := Lib.hid f4
        have F5 := Lib.hid f5
        have HBL := Lib.hid hbl
        clear s1 s2 f0 f1 f2 f3 f4 f5 hat hmem ha hbl
        subst hA
        go_wp2_with fail
        refine (duo_oappend HD.out (HP.out.ofits HI.out) 1 (Nat.le_refl _) _ rfl).mono ?_
        rintro e w6 ⟨er, lo', rfl, hfo, hd6⟩
        have HFO := Lib.hid hfo
        have g0 := (hd6.since.cell (p := ⟨b, off + i * 6, none⟩) HBL.out).trans F0.out
        have g1 := (hd6.since.cell (p := ⟨b, off + i * 6 + 1, none⟩) HBL.out).trans F1.out
        have g2 := (hd6.since.cell (p := ⟨b, off + i * 6 + 2, none⟩) HBL.out).trans F2.out
        have g3 := (hd6.since.cell (p := ⟨b, off + i * 6 + 3, none⟩) HBL.out).trans F3.out
        have g4 := (hd6.since.cell (p := ⟨b, off + i * 6 + 4, none⟩) HBL.out).trans F4.out
        have g5 := (hd6.since.cell (p := ⟨b, off + i * 6 + 5, none⟩) HBL.out).trans F5.out
        have HDO := Lib.hid (do_any hd6 (HP.out.fits HI.out) a A1 c1 B1 d1 HS1.out HS2.out HWF.out HSS.out)
        clear hd6 HD hfo
        unfold actV at HDO
        obtain ⟨k1, hk1⟩ : ∃ k, a.b.length = k := ⟨_, rfl⟩
        obtain ⟨k2, hk2⟩ : ∃ k, a.l.length = k := ⟨_, rfl⟩
        rw [hk1] at g4 HDO
        rw [hk2] at g5 HDO
        clear hk1 hk2 HS1 HS2 HSS F0 F1 F4 F5
        go_wp2_with fail
        refine HDO.out.mono ?_
        rintro e w7 ⟨rfl, l', hd7, hfw⟩
        have HN := Lib.hid (HP.out.next hfw HFO.out)
        have j2 := (hd7.since.cell (p := ⟨b, off + i * 6 + 2, none⟩) HBL.out).trans F2.out
        have HSP := Lib.hid (same_any hd7 (HN.out.fits HI1.out) a.p HWF.out.1)
        clear hfw hd7 HDO HP HFO g0 g1 g2 g3 g4 g5
        go_wp2_with fail
        refine HSP.out.mono ?_
        rintro e w8 ⟨rfl, hd8⟩
        have j3 := (hd8.since.cell (p := ⟨b, off + i * 6 + 3, none⟩) HBL.out).trans F3.out
        have HSQ := Lib.hid (same_any hd8 (HN.out.fits HI1.out) a.q HWF.out.2.1)
        clear hd8 HSP j2
        go_wp2_with fail
        refine HSQ.out.mono ?_
        rintro e w9 ⟨rfl, hd9⟩
        have HD9 := Lib.hid hd9
        clear hd9 HSQ j3
        go_wp2_with fail
        go_roundw
        case rel => exact ⟨i + 1, l', _, by go_num, hlt, HD9.out, HN.out⟩
        case measure => simp [intOf]; omega
      · obtain rfl : i = z1.length := by omega
        go_wp2
        go_ret
        exact ⟨rfl, HD.out.since⟩
  · go_wp2
    go_ret
    exact ⟨rfl, HBEL2.out⟩

set_option maxRecDepth 100000 in
theorem lifted (os : Os) (started : os.Started) (H : Type) (enc : TypeId × Value → H) :
    ReturnsInHanded {} Tryd.checked os 3 .any (fun w args => (Rows.diskPlaysSpec.pre enc Tryd.prog Tryd.f3 [] false w args ∧ laidMetH Tryd.prog laid1 w) ∧ sizedMet enc Tryd.prog Tryd.f3 (OpenSpec.ofChange Rows.diskPlaysSpec) false w args) (Rows.diskPlaysSpec.post enc Tryd.prog Tryd.f3 false true false false) := by
  refine returnsInHanded_of_change_and (C := Tryd.checked) (X := fun w _ => laidMetH Tryd.prog laid1 w) (fun _ _ _ hh h => h.of_heap hh) own started (by kernel_rfl) Tryd.func3
    (ChangeSpec.witness_shaped (enc := enc) (C := Tryd.checked) (os := os) (X := fun w _ => laidMetH Tryd.prog laid1 w) false (World.laidAll Tryd.prog os laid1) #[.int .i64 0, .slice none 0 0] 8 (World.laidAll_os _ _ _) (World.shaped_of_ZipB (by kernel_rfl) (by kernel_rfl)) (by kernel_rfl) (by kernel_rfl) (by kernel_rfl) (door_met os _)) ?_
  intro W base args ds gs before hval0 hW _ _ hL _
  have hval : ∀ (j : Nat) t v, Tryd.f3.params[j]? = some t → args[j]? = some v → Value.okWide Tryd.prog W .any base t v := hval0
  have hW' := hW
  obtain ⟨p, q, hA0, hV, rfl, hfz, hnd⟩ := hW
  have hA : DataW.TrodAll enc Tryd.prog W 0 (fun _ => true) true Tryd.f3.params.toList args.toList ds p := hA0
  rw [Tryd.params3] at hA hval
  obtain ⟨v0, vs0, d0, ds0, p0, q0, hargs, rfl, rfl, h0, r0⟩ := trodAll_cons hA
  obtain ⟨v1, vs1, d1, ds1, p1, q1, rfl, rfl, rfl, h1, r1⟩ := trodAll_cons r0
  obtain ⟨rfl, rfl, rfl⟩ := trodAll_nil r1
  obtain rfl : args = #[v0, v1] := by cases args; simp_all
  obtain ⟨rfl, rfl⟩ := trodVars_none hV
  obtain ⟨a0, rfl, rfl, rfl, w0⟩ := open_int Tryd.underlying3 (hval 0 3 v0 rfl rfl) h0
  have k1 := h1
  have lt1 : ∀ x ∈ p1, x.block < W.heap.size := by obtain ⟨m, hm⟩ := k1; exact DataW.trod_lt m _ _ _ hm
  obtain ⟨a1, cap1, z1, rfl, w1⟩ := acts_came (hval 1 22 v1 rfl rfl) h1
  clear hA0 hval0
  refine (walk a0 a1 cap1 z1 W (of_laid hL) w0 w1).mono fun e W' ⟨he, bel⟩ => ?_
  subst he
  exact ⟨_, rfl, _, _, _, [], _, [], hW', trodAll_mk1 (shut_bool Tryd.underlying4 _), (trodAll_cons_mk (shut_int Tryd.underlying3 w0) (trodAll_cons_mk (Below.trod laidOut (by kernel_rfl) (of_decide_eq_true (by kernel_rfl)) k1 bel lt1) trodAll_mk0)), rfl, bel.frame _, fun h => by cases h⟩

theorem over : Rows.diskPlaysRow.holds Tryd.pinned (OpenSpec.ofChange Rows.diskPlaysSpec) :=
  OpenClaim.holds_of_wide 3 Tryd.f3 rfl rfl rfl rfl rfl rfl rfl ⟨rfl, rfl, rfl, rfl, rfl⟩ rfl rfl rfl rfl rfl (by kernel_rfl) Tryd.func3 (by kernel_rfl)
    (of_decide_eq_true (by kernel_rfl)) (by unfold Func.isWrapper; first | (rw [if_pos (by decide +kernel)]; kernel_rfl) | (rw [if_neg (by decide +kernel)]; exact ⟨rfl, rfl⟩))
    (fun os started H enc _ => lifted os started H enc)

theorem proved : Rows.DiskPlaysCardSaid :=
  Claim7.holds_tied_plain_at .later [] [.data, .pinned] true (true, "2d28cb96788d8f46a236315c1d3581c1449441996cb39041809797aae15cbb7a") false
    over (fun _ h => by cases h) (by kernel_rfl) (fun _ h => by cases h) diskPlays_row_tie rfl ⟨rfl, rfl⟩ (by kernel_rfl) rfl
    (fun f fn hf hfn => by
      obtain rfl : f = 3 := Option.some.inj ((show Tryd.prog.funcNamed "cooperage/cooperagelaw6.DiskPlays" = some 3 by kernel_rfl).symm.trans hf) |>.symm
      obtain rfl : fn = Tryd.f3 := (Option.some.inj (Tryd.func3.symm.trans hfn)).symm
      exact ⟨by kernel_rfl, fun j t ht => by
        rw [Tryd.params3] at ht
        have hm : t ∈ [3, 22] := by simpa using Array.mem_of_getElem? ht
        have hall : ([3, 22].all fun u => !Tryd.prog.wantsStandIn u) = true := by kernel_rfl
        exact (show Tryd.prog.wantsStandIn t = false by simpa using List.all_eq_true.1 hall t hm)⟩)
    (by kernel_rfl)
#print axioms proved
end Go.Proofs.YtefjbefmmmllbaaDoor.diskPlays
