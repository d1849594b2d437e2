/- Proved: for every two commands a and b, CommandSame(a, b) returns true. -/
import Derived.Test.YtiglignfjegilaaDoorRows
import Derived.WalkKit
import Derived.ProofKit
import Derived.OpenShut
import Derived.ShutString
import Derived.ChangeOld
import Derived.Below
import Derived.LaidMore
import Derived.Stop.Joined
import Derived.SevenTiedAt
import Derived.Lay
import Derived.Test.YtiglignfjegilaaDoorCards
import Derived.Test.YtiglignfjegilaaDoorTie
import Derived.Test.YtiglignfjegilaaDoorCame
import Derived.Test.YtiglignfjegilaaDoorCmdCame
import Derived.Test.YtiglignfjegilaaDoorCmdAlive
namespace Go.Proofs.YtiglignfjegilaaDoor.commandSame
open Go.ChangeShapes Go.WideShapes Go.ChangeAt Go.RowKit
open Go.ChangeMaps (open_string shut_string)
set_option linter.unusedVariables false

theorem own : ownKnob Tryd.prog.godebug = none := by kernel_rfl
theorem laidOut : laidOutB Tryd.prog = true := by kernel_rfl

def IsRow (k : IntKind) (w : World) (a : Option Addr) (len cap : Nat) (zs : List Int) : Prop :=
  (a = none ∧ len = 0 ∧ cap = 0 ∧ zs = []) ∨
  ∃ x, a = some x ∧ len ≤ cap ∧ cap ≤ maxLen ∧ zs.length = cap ∧ (∀ i, i < zs.length → w.cell? (x.add i) = some (.int k (zs.getD i 0))) ∧ ∀ n ∈ zs, (Lit.int k n).wf = true

set_option maxHeartbeats 6400000 in
set_option maxRecDepth 100000 in
theorem walk (a0 : Option Addr) (cap0 : Nat) (z0 : Cmd) (a1 : Option Addr) (cap1 : Nat) (z1 : Cmd) (w : World) (hh : Tabs w) (w0 : RecsLie w a0 z0.recs cap0 ∧ z0.wf) (w1 : RecsLie w a1 z1.recs cap1 ∧ z1.wf) :
    Calls Tryd.prog 5 #[cmdV (.slice a0 z0.recs.length cap0) z0, cmdV (.slice a1 z1.recs.length cap1) z1] w fun e w' => e = .returned (.bool true) ∧ Below w.heap.size w w' := by
  obtain ⟨hrl, hwf⟩ := w0
  obtain ⟨hrl1, hwf1⟩ := w1
  have HT := Lib.hid hh
  have HB0 := Lib.hid ((Below.refl w.heap.size w).alloc (Nat.le_refl _) (cmdO (.slice a0 z0.recs.length cap0) z0))
  have HB1 := Lib.hid (HB0.out.alloc HB0.out.size (cmdO (.slice a1 z1.recs.length cap1) z1))
  have HG0 : Hid (((w.alloc (cmdO (.slice a0 z0.recs.length cap0) z0)).alloc (cmdO (.slice a1 z1.recs.length cap1) z1)).heap[w.heap.size]? = some (cmdO (.slice a0 z0.recs.length cap0) z0)) := Lib.hid (block_keep (cmd_new w _ z0) ((Below.refl _ _).alloc (Nat.le_refl _) _))
  have HG1 : Hid (((w.alloc (cmdO (.slice a0 z0.recs.length cap0) z0)).alloc (cmdO (.slice a1 z1.recs.length cap1) z1)).heap[w.heap.size + 1]? = some (cmdO (.slice a1 z1.recs.length cap1) z1)) := Lib.hid (by have := cmd_new (w.alloc (cmdO (.slice a0 z0.recs.length cap0) z0)) (.slice a1 z1.recs.length cap1) z1; simpa using this)
  have HAL := Lib.hid (alive10_any _ (hh.below HB1.out))
  have HLI := Lib.hid (fun W (hb : Below w.heap.size w W) => hrl.below hb (Nat.le_refl _))
  have HLI1 := Lib.hid (fun W (hb : Below w.heap.size w W) => hrl1.below hb (Nat.le_refl _))
  have HBG := Lib.hid (fun W (hb : Below w.heap.size w W) => big10_any W a0 cap0 z0 (HLI.out W hb) (by have := hwf.group; unfold maxLen; omega))
  have HBG1 := Lib.hid (fun W (hb : Below w.heap.size w W) => big10_any W a1 cap1 z1 (HLI1.out W hb) (by have := hwf1.group; unfold maxLen; omega))
  have HV := Lib.hid (fun W (hb : Below w.heap.size w W) => vcsame_any W z0 z1 a0 a1 cap0 cap1 (HLI.out W hb) (HLI1.out W hb))
  have HR := Lib.hid (fun W (hb : Below w.heap.size w W) => refsame10_any W z0 z1 a0 a1 cap0 cap1 (HLI.out W hb) (HLI1.out W hb))
  have HV0 := Lib.hid (fun W (hb : Below w.heap.size w W) => vcsame_any W z0 z0 a0 a0 cap0 cap0 (HLI.out W hb) (HLI.out W hb))
  have HV1 := Lib.hid (fun W (hb : Below w.heap.size w W) => vcsame_any W z1 z1 a1 a1 cap1 cap1 (HLI1.out W hb) (HLI1.out W hb))
  have HC0 := Lib.hid (fun (W : World) (h : W.heap[w.heap.size]? = some (cmdO (.slice a0 z0.recs.length cap0) z0)) => cmd_at h)
  have HC1 := Lib.hid (fun (W : World) (h : W.heap[w.heap.size + 1]? = some (cmdO (.slice a1 z1.recs.length cap1) z1)) => cmd_at h)
  have HKP := Lib.hid (fun (W W' : World) (h : W.heap[w.heap.size]? = some (cmdO (.slice a0 z0.recs.length cap0) z0)) (hb : Below W.heap.size W W') => block_keep h hb)
  have HKP1 := Lib.hid (fun (W W' : World) (h : W.heap[w.heap.size + 1]? = some (cmdO (.slice a1 z1.recs.length cap1) z1)) (hb : Below W.heap.size W W') => block_keep h hb)
  unfold cmdV at HBG HBG1 HV HR HV0 HV1
  unfold cmdO at HB0 HB1 HG0 HG1 HAL HKP HKP1 HC0 HC1
  unfold cmdV
  clear hh hrl hwf hrl1 hwf1 HB0
  go_enter Tryd.func5, Tryd.ntmps5
  go_wp2_with fail
  refine HAL.out.mono ?_
  rintro e w2 ⟨rfl, hb2⟩
  have HB2 := Lib.hid (HB1.out.trans (hb2.mono HB1.out.size))
  have HG2 := Lib.hid (HKP.out _ w2 HG0.out hb2)
  have HH2 := Lib.hid (HKP1.out _ w2 HG1.out hb2)
  obtain ⟨g0, g1, g2, g3, g4, g5, g6, g7, g8, g9, g10, g11, g12⟩ := HC0.out w2 HG2.out
  have H2 := Lib.hid (HBG.out w2 HB2.out)
  clear HAL hb2 HBG HG0 HG1 HB1
  go_wp2_with fail
  refine H2.out.mono ?_
  rintro e w3 ⟨⟨big, rfl⟩, hb3⟩
  have HB3 := Lib.hid (HB2.out.trans (hb3.mono HB2.out.size))
  have HG3 := Lib.hid (HKP.out w2 w3 HG2.out hb3)
  have HH3 := Lib.hid (HKP1.out w2 w3 HH2.out hb3)
  clear g0 g1 g2 g3 g4 g5 g6 g7 g8 g9 g10 g11 g12 hb3 H2 HB2 HG2 HH2
  cases big with
  | true =>
    go_wp2_with fail
    go_ret
    exact ⟨rfl, HB3.out⟩
  | false =>
    obtain ⟨g0, g1, g2, g3, g4, g5, g6, g7, g8, g9, g10, g11, g12⟩ := HC1.out w3 HH3.out
    have H3 := Lib.hid (HBG1.out w3 HB3.out)
    clear HBG1
    go_wp2_with fail
    refine H3.out.mono ?_
    rintro e w4 ⟨⟨big, rfl⟩, hb4⟩
    have HB4 := Lib.hid (HB3.out.trans (hb4.mono HB3.out.size))
    have HG4 := Lib.hid (HKP.out w3 w4 HG3.out hb4)
    have HH4 := Lib.hid (HKP1.out w3 w4 HH3.out hb4)
    clear g0 g1 g2 g3 g4 g5 g6 g7 g8 g9 g10 g11 g12 hb4 H3 HB3 HG3 HH3
    cases big with
    | true =>
      go_wp2_with fail
      go_ret
      exact ⟨rfl, HB4.out⟩
    | false =>
      go_wp2_with fail
      refine wp_region_held_drew (S := fun W => Below w.heap.size w W ∧ W.heap[w.heap.size]? = some (cmdO (.slice a0 z0.recs.length cap0) z0) ∧ W.heap[w.heap.size + 1]? = some (cmdO (.slice a1 z1.recs.length cap1) z1)) (by kernel_rfl) ⟨?_, ?_, ?_⟩ (fun hHeld => ?_)
      · exact below_draws HB4.out 1
      · exact HG4.out
      · exact HH4.out
      refine held_take 0 20 (v := ?v101) rfl rfl (by kernel_rfl) (by kernel_rfl) (by kernel_rfl) (fun _ _ _ h => h) hHeld (Or.inl ⟨by rfl, ?y101⟩) ?r101
      case y101 => intro W hSw; obtain ⟨s0, s1, s2, s3, s4, s5, s6, s7, s8, s9, s10, s11, s12⟩ := (fun (W : World) (h : Below w.heap.size w W ∧ W.heap[w.heap.size]? = some (cmdO (.slice a0 z0.recs.length cap0) z0) ∧ W.heap[w.heap.size + 1]? = some (cmdO (.slice a1 z1.recs.length cap1) z1)) => HC0.out W h.2.1) W hSw; go_simp; (try with_reducible rfl)
      simp only [List.setIfInBounds_toArray, List.set_cons_zero, List.set_cons_succ]
      refine held_take 1 21 (v := ?v102) rfl rfl (by kernel_rfl) (by kernel_rfl) (by kernel_rfl) (fun _ _ _ h => h) hHeld (Or.inl ⟨by rfl, ?y102⟩) ?r102
      case y102 => intro W hSw; obtain ⟨s0, s1, s2, s3, s4, s5, s6, s7, s8, s9, s10, s11, s12⟩ := (fun (W : World) (h : Below w.heap.size w W ∧ W.heap[w.heap.size]? = some (cmdO (.slice a0 z0.recs.length cap0) z0) ∧ W.heap[w.heap.size + 1]? = some (cmdO (.slice a1 z1.recs.length cap1) z1)) => HC1.out W h.2.2) W hSw; go_simp; (try with_reducible rfl)
      simp only [List.setIfInBounds_toArray, List.set_cons_zero, List.set_cons_succ]
      refine held_take 3 23 (v := ?v103) rfl rfl (by kernel_rfl) (by kernel_rfl) (by kernel_rfl) (fun _ _ _ h => h) hHeld (Or.inl ⟨by rfl, ?y103⟩) ?r103
      case y103 => intro W hSw; obtain ⟨s0, s1, s2, s3, s4, s5, s6, s7, s8, s9, s10, s11, s12⟩ := (fun (W : World) (h : Below w.heap.size w W ∧ W.heap[w.heap.size]? = some (cmdO (.slice a0 z0.recs.length cap0) z0) ∧ W.heap[w.heap.size + 1]? = some (cmdO (.slice a1 z1.recs.length cap1) z1)) => HC0.out W h.2.1) W hSw; go_simp; (try with_reducible rfl)
      simp only [List.setIfInBounds_toArray, List.set_cons_zero, List.set_cons_succ]
      refine held_take 4 24 (v := ?v104) rfl rfl (by kernel_rfl) (by kernel_rfl) (by kernel_rfl) (fun _ _ _ h => h) hHeld (Or.inl ⟨by rfl, ?y104⟩) ?r104
      case y104 => intro W hSw; obtain ⟨s0, s1, s2, s3, s4, s5, s6, s7, s8, s9, s10, s11, s12⟩ := (fun (W : World) (h : Below w.heap.size w W ∧ W.heap[w.heap.size]? = some (cmdO (.slice a0 z0.recs.length cap0) z0) ∧ W.heap[w.heap.size + 1]? = some (cmdO (.slice a1 z1.recs.length cap1) z1)) => HC1.out W h.2.2) W hSw; go_simp; (try with_reducible rfl)
      simp only [List.setIfInBounds_toArray, List.set_cons_zero, List.set_cons_succ]
      refine wpAnyH_ready (rs := [2]) (by kernel_rfl) (by simp) ?_
      refine AllReadyH.cons rfl (fun K hK => ?_) AllReadyH.nil
      go_simp
      refine (HV.out w4.drew (below_draws HB4.out 1)).mono ?_
      rintro e w5 ⟨d5, rfl, hd5, hb5⟩
      have HB5 := Lib.hid ((below_draws HB4.out 1).trans (hb5.mono (below_draws HB4.out 1).size))
      have HG5 := Lib.hid (HKP.out w4.drew w5 (HG4.out) hb5)
      have HH5 := Lib.hid (HKP1.out w4.drew w5 (HH4.out) hb5)
      clear hb5 HV hHeld
      refine hK.out _ _ ⟨HB5.out, HG5.out, HH5.out⟩ (fun _ => ?_)
      clear hK K
      have hHeld := And.intro HB5.out (And.intro HG5.out HH5.out)
      refine wpAnyH_ready (rs := [5]) (by kernel_rfl) (by simp) ?_
      refine AllReadyH.cons rfl (fun K hK => ?_) AllReadyH.nil
      go_simp
      refine (HR.out w5 (HB5.out)).mono ?_
      rintro e w6 ⟨d6, rfl, hd6, hb6⟩
      have HB6 := Lib.hid ((HB5.out).trans (hb6.mono (HB5.out).size))
      have HG6 := Lib.hid (HKP.out w5 w6 (HG5.out) hb6)
      have HH6 := Lib.hid (HKP1.out w5 w6 (HH5.out) hb6)
      clear hb6 HR hHeld
      refine hK.out _ _ ⟨HB6.out, HG6.out, HH6.out⟩ (fun _ => ?_)
      clear hK K
      have hHeld := And.intro HB6.out (And.intro HG6.out HH6.out)
      obtain rfl : d6 = d5 := by
        cases d6 <;> cases d5 <;> first | rfl | exact (Bool.false_ne_true (hd5.2 (hd6.1 rfl))).elim | exact (Bool.false_ne_true (hd6.2 (hd5.1 rfl))).elim
      have hbb : (d6 == d6) = true := by simp
      clear hd5 hd6
      refine held_take 6 26 (v := ?v105) rfl rfl (by kernel_rfl) (by kernel_rfl) (by kernel_rfl) (fun _ _ _ h => h) hHeld (Or.inl ⟨by rfl, ?y105⟩) ?r105
      case y105 => intro W hSw; go_simp; (try with_reducible rfl)
      simp only [List.setIfInBounds_toArray, List.set_cons_zero, List.set_cons_succ]
      refine held_take 7 27 (v := ?v106) rfl rfl (by kernel_rfl) (by kernel_rfl) (by kernel_rfl) (fun _ _ _ h => h) hHeld (Or.inl ⟨by rfl, ?y106⟩) ?r106
      case y106 => intro W hSw; go_simp; (try with_reducible rfl)
      simp only [List.setIfInBounds_toArray, List.set_cons_zero, List.set_cons_succ]
      refine held_take 8 28 (v := ?v107) rfl rfl (by kernel_rfl) (by kernel_rfl) (by kernel_rfl) (fun _ _ _ h => h) hHeld (Or.inl ⟨by rfl, ?y107⟩) ?r107
      case y107 => intro W hSw; obtain ⟨s0, s1, s2, s3, s4, s5, s6, s7, s8, s9, s10, s11, s12⟩ := (fun (W : World) (h : Below w.heap.size w W ∧ W.heap[w.heap.size]? = some (cmdO (.slice a0 z0.recs.length cap0) z0) ∧ W.heap[w.heap.size + 1]? = some (cmdO (.slice a1 z1.recs.length cap1) z1)) => HC0.out W h.2.1) W hSw; go_simp; (try with_reducible rfl)
      simp only [List.setIfInBounds_toArray, List.set_cons_zero, List.set_cons_succ]
      refine held_take 9 29 (v := ?v108) rfl rfl (by kernel_rfl) (by kernel_rfl) (by kernel_rfl) (fun _ _ _ h => h) hHeld (Or.inl ⟨by rfl, ?y108⟩) ?r108
      case y108 => intro W hSw; obtain ⟨s0, s1, s2, s3, s4, s5, s6, s7, s8, s9, s10, s11, s12⟩ := (fun (W : World) (h : Below w.heap.size w W ∧ W.heap[w.heap.size]? = some (cmdO (.slice a0 z0.recs.length cap0) z0) ∧ W.heap[w.heap.size + 1]? = some (cmdO (.slice a1 z1.recs.length cap1) z1)) => HC0.out W h.2.1) W hSw; go_simp; (try with_reducible rfl)
      simp only [List.setIfInBounds_toArray, List.set_cons_zero, List.set_cons_succ]
      refine wpAnyH_ready (rs := [10]) (by kernel_rfl) (by simp) ?_
      refine AllReadyH.cons rfl (fun K hK => ?_) AllReadyH.nil
      go_simp
      refine (HV0.out w6 (HB6.out)).mono ?_
      rintro e w7 ⟨d7, rfl, hd7, hb7⟩
      have HB7 := Lib.hid ((HB6.out).trans (hb7.mono (HB6.out).size))
      have HG7 := Lib.hid (HKP.out w6 w7 (HG6.out) hb7)
      have HH7 := Lib.hid (HKP1.out w6 w7 (HH6.out) hb7)
      obtain rfl : d7 = true := by simpa using hd7
      clear hb7 HV0 hHeld
      refine hK.out _ _ ⟨HB7.out, HG7.out, HH7.out⟩ (fun _ => ?_)
      clear hK K
      have hHeld := And.intro HB7.out (And.intro HG7.out HH7.out)
      refine held_take 11 31 (v := ?v109) rfl rfl (by kernel_rfl) (by kernel_rfl) (by kernel_rfl) (fun _ _ _ h => h) hHeld (Or.inl ⟨by rfl, ?y109⟩) ?r109
      case y109 => intro W hSw; go_simp; (try with_reducible rfl)
      simp only [List.setIfInBounds_toArray, List.set_cons_zero, List.set_cons_succ]
      refine held_take 12 32 (v := ?v110) rfl rfl (by kernel_rfl) (by kernel_rfl) (by kernel_rfl) (fun _ _ _ h => h) hHeld (Or.inl ⟨by rfl, ?y110⟩) ?r110
      case y110 => intro W hSw; go_simp; (try with_reducible rfl)
      simp only [List.setIfInBounds_toArray, List.set_cons_zero, List.set_cons_succ]
      refine held_take 13 33 (v := ?v111) rfl rfl (by kernel_rfl) (by kernel_rfl) (by kernel_rfl) (fun _ _ _ h => h) hHeld (Or.inl ⟨by rfl, ?y111⟩) ?r111
      case y111 => intro W hSw; obtain ⟨s0, s1, s2, s3, s4, s5, s6, s7, s8, s9, s10, s11, s12⟩ := (fun (W : World) (h : Below w.heap.size w W ∧ W.heap[w.heap.size]? = some (cmdO (.slice a0 z0.recs.length cap0) z0) ∧ W.heap[w.heap.size + 1]? = some (cmdO (.slice a1 z1.recs.length cap1) z1)) => HC1.out W h.2.2) W hSw; go_simp; (try with_reducible rfl)
      simp only [List.setIfInBounds_toArray, List.set_cons_zero, List.set_cons_succ]
      refine held_take 14 34 (v := ?v112) rfl rfl (by kernel_rfl) (by kernel_rfl) (by kernel_rfl) (fun _ _ _ h => h) hHeld (Or.inl ⟨by rfl, ?y112⟩) ?r112
      case y112 => intro W hSw; obtain ⟨s0, s1, s2, s3, s4, s5, s6, s7, s8, s9, s10, s11, s12⟩ := (fun (W : World) (h : Below w.heap.size w W ∧ W.heap[w.heap.size]? = some (cmdO (.slice a0 z0.recs.length cap0) z0) ∧ W.heap[w.heap.size + 1]? = some (cmdO (.slice a1 z1.recs.length cap1) z1)) => HC1.out W h.2.2) W hSw; go_simp; (try with_reducible rfl)
      simp only [List.setIfInBounds_toArray, List.set_cons_zero, List.set_cons_succ]
      refine wpAnyH_ready (rs := [15]) (by kernel_rfl) (by simp) ?_
      refine AllReadyH.cons rfl (fun K hK => ?_) AllReadyH.nil
      go_simp
      refine (HV1.out w7 (HB7.out)).mono ?_
      rintro e w8 ⟨d8, rfl, hd8, hb8⟩
      have HB8 := Lib.hid ((HB7.out).trans (hb8.mono (HB7.out).size))
      have HG8 := Lib.hid (HKP.out w7 w8 (HG7.out) hb8)
      have HH8 := Lib.hid (HKP1.out w7 w8 (HH7.out) hb8)
      obtain rfl : d8 = true := by simpa using hd8
      clear hb8 HV1 hHeld
      refine hK.out _ _ ⟨HB8.out, HG8.out, HH8.out⟩ (fun _ => ?_)
      clear hK K
      have hHeld := And.intro HB8.out (And.intro HG8.out HH8.out)
      refine held_take 16 36 (v := ?v113) rfl rfl (by kernel_rfl) (by kernel_rfl) (by kernel_rfl) (fun _ _ _ h => h) hHeld (Or.inl ⟨by rfl, ?y113⟩) ?r113
      case y113 => intro W hSw; go_simp; (try with_reducible rfl)
      simp only [List.setIfInBounds_toArray, List.set_cons_zero, List.set_cons_succ]
      refine held_take 17 4 (v := ?v114) rfl rfl (by kernel_rfl) (by kernel_rfl) (by kernel_rfl) (fun _ _ _ h => h) hHeld (Or.inl ⟨by rfl, ?y114⟩) ?r114
      case y114 => intro W hSw; go_simp; (try with_reducible rfl)
      simp only [List.setIfInBounds_toArray, List.set_cons_zero, List.set_cons_succ]
      refine wpAnyH_done (by kernel_rfl) ?_ _
      clear hHeld
      go_wp2
      go_ret
      exact ⟨rfl, HB8.out⟩

set_option maxRecDepth 100000 in
theorem lifted (os : Os) (started : os.Started) (H : Type) (enc : TypeId × Value → H) :
    ReturnsInHanded {} Tryd.checked os 5 .any (fun w args => (Rows.commandSameSpec.pre enc Tryd.prog Tryd.f5 [] false w args ∧ laidMetH Tryd.prog laid1 w) ∧ sizedMet enc Tryd.prog Tryd.f5 (OpenSpec.ofChange Rows.commandSameSpec) false w args) (Rows.commandSameSpec.post enc Tryd.prog Tryd.f5 false true false false) := by
  refine returnsInHanded_of_change_and (C := Tryd.checked) (X := fun w _ => laidMetH Tryd.prog laid1 w) (fun _ _ _ hh h => h.of_heap hh) own started (by kernel_rfl) Tryd.func5
    (ChangeSpec.witness_shaped (enc := enc) (C := Tryd.checked) (os := os) (X := fun w _ => laidMetH Tryd.prog laid1 w) false (World.laidAll Tryd.prog os laid1) #[.agg #[.int .i64 0, .int .i64 0, .int .i64 0, .slice none 0 0, .string ⟨#[]⟩, .int .i64 0, .int .i64 0, .int .i64 0, .int .u32 0, .int .i64 0, .int .i64 0, .int .i64 0, .int .i64 0], .agg #[.int .i64 0, .int .i64 0, .int .i64 0, .slice none 0 0, .string ⟨#[]⟩, .int .i64 0, .int .i64 0, .int .i64 0, .int .u32 0, .int .i64 0, .int .i64 0, .int .i64 0, .int .i64 0]] 8 (World.laidAll_os _ _ _) (World.shaped_of_ZipB (by kernel_rfl) (by kernel_rfl)) (by kernel_rfl) (by kernel_rfl) (by kernel_rfl) (door_met os _)) ?_
  intro W base args ds gs before hval0 hW _ _ hL _
  have hval : ∀ (j : Nat) t v, Tryd.f5.params[j]? = some t → args[j]? = some v → Value.okWide Tryd.prog W .any base t v := hval0
  have hW' := hW
  obtain ⟨p, q, hA0, hV, rfl, hfz, hnd⟩ := hW
  have hA : DataW.TrodAll enc Tryd.prog W 0 (fun _ => true) true Tryd.f5.params.toList args.toList ds p := hA0
  rw [Tryd.params5] at hA hval
  obtain ⟨v0, vs0, d0, ds0, p0, q0, hargs, rfl, rfl, h0, r0⟩ := trodAll_cons hA
  obtain ⟨v1, vs1, d1, ds1, p1, q1, rfl, rfl, rfl, h1, r1⟩ := trodAll_cons r0
  obtain ⟨rfl, rfl, rfl⟩ := trodAll_nil r1
  obtain rfl : args = #[v0, v1] := by cases args; simp_all
  obtain ⟨rfl, rfl⟩ := trodVars_none hV
  have k0 := h0
  have lt0 : ∀ x ∈ p0, x.block < W.heap.size := by obtain ⟨m, hm⟩ := k0; exact DataW.trod_lt m _ _ _ hm
  obtain ⟨a0, cap0, z0, rfl, w0⟩ := cmd_came (hval 0 27 v0 rfl rfl) h0
  have k1 := h1
  have lt1 : ∀ x ∈ p1, x.block < W.heap.size := by obtain ⟨m, hm⟩ := k1; exact DataW.trod_lt m _ _ _ hm
  obtain ⟨a1, cap1, z1, rfl, w1⟩ := cmd_came (hval 1 27 v1 rfl rfl) h1
  clear hA0 hval0
  refine (walk a0 cap0 z0 a1 cap1 z1 W (of_laid hL) w0 w1).mono fun e W' ⟨he, bel⟩ => ?_
  subst he
  exact ⟨_, rfl, _, _, _, [], _, [], hW', trodAll_mk1 (shut_bool Tryd.underlying4 _), (trodAll_cons_mk (Below.trod laidOut (by kernel_rfl) (of_decide_eq_true (by kernel_rfl)) k0 bel lt0) (trodAll_cons_mk (Below.trod laidOut (by kernel_rfl) (of_decide_eq_true (by kernel_rfl)) k1 bel lt1) trodAll_mk0)), rfl, bel.frame _, fun h => by cases h⟩

theorem over : Rows.commandSameRow.holds Tryd.pinned (OpenSpec.ofChange Rows.commandSameSpec) :=
  OpenClaim.holds_of_wide 5 Tryd.f5 rfl rfl rfl rfl rfl rfl rfl ⟨rfl, rfl, rfl, rfl, rfl⟩ rfl rfl rfl rfl rfl (by kernel_rfl) Tryd.func5 (by kernel_rfl)
    (of_decide_eq_true (by kernel_rfl)) (by unfold Func.isWrapper; first | (rw [if_pos (by decide +kernel)]; kernel_rfl) | (rw [if_neg (by decide +kernel)]; exact ⟨rfl, rfl⟩))
    (fun os started H enc _ => lifted os started H enc)

theorem proved : Rows.CommandSameCardSaid :=
  Claim7.holds_tied_plain_at .later [] [.data, .pinned] true (true, "7f40e3b408ed15b1cef979e57bcf9a92b0890dc3aae873b6e77e4f9b7667b258") true
    over (fun _ h => by cases h) (by kernel_rfl) (fun _ h => by cases h) commandSame_row_tie rfl ⟨rfl, rfl⟩ (by kernel_rfl) rfl
    (fun f fn hf hfn => by
      obtain rfl : f = 5 := Option.some.inj ((show Tryd.prog.funcNamed "cooperage/cooperagelaw10.CommandSame" = some 5 by kernel_rfl).symm.trans hf) |>.symm
      obtain rfl : fn = Tryd.f5 := (Option.some.inj (Tryd.func5.symm.trans hfn)).symm
      exact ⟨by kernel_rfl, fun j t ht => by
        rw [Tryd.params5] at ht
        have hm : t ∈ [27, 27] := by simpa using Array.mem_of_getElem? ht
        have hall : ([27, 27].all fun u => !Tryd.prog.wantsStandIn u) = true := by kernel_rfl
        exact (show Tryd.prog.wantsStandIn t = false by simpa using List.all_eq_true.1 hall t hm)⟩)
    (by kernel_rfl)
#print axioms proved
end Go.Proofs.YtiglignfjegilaaDoor.commandSame
