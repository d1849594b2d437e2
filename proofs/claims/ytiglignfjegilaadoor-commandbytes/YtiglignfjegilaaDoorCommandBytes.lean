/- Proved: for every command c, CommandBytes(c) returns true. -/
import Derived.Test.YtiglignfjegilaaDoorRows
import Derived.WalkKit
import Derived.ProofKit
import Derived.OpenShut
import Derived.ShutString
import Derived.ChangeOld
import Derived.Below
import Derived.LaidMore
import Derived.Stop.Joined
import Derived.SevenTiedAt
import Derived.Lay
import Derived.Test.YtiglignfjegilaaDoorCards
import Derived.Test.YtiglignfjegilaaDoorTie
import Derived.Test.YtiglignfjegilaaDoorCame
import Derived.Test.YtiglignfjegilaaDoorCmdCame
import Derived.Test.YtiglignfjegilaaDoorCmdAlive
import Derived.Test.YtiglignfjegilaaDoorRCmdRight
namespace Go.Proofs.YtiglignfjegilaaDoor.commandBytes
open Go.ChangeShapes Go.WideShapes Go.ChangeAt Go.RowKit
open Go.ChangeMaps (open_string shut_string)
set_option linter.unusedVariables false

theorem own : ownKnob Tryd.prog.godebug = none := by kernel_rfl
theorem laidOut : laidOutB Tryd.prog = true := by kernel_rfl

def IsRow (k : IntKind) (w : World) (a : Option Addr) (len cap : Nat) (zs : List Int) : Prop :=
  (a = none ∧ len = 0 ∧ cap = 0 ∧ zs = []) ∨
  ∃ x, a = some x ∧ len ≤ cap ∧ cap ≤ maxLen ∧ zs.length = cap ∧ (∀ i, i < zs.length → w.cell? (x.add i) = some (.int k (zs.getD i 0))) ∧ ∀ n ∈ zs, (Lit.int k n).wf = true

set_option maxHeartbeats 6400000 in
set_option maxRecDepth 100000 in
theorem walk (a0 : Option Addr) (cap0 : Nat) (z0 : Cmd) (w : World) (hh : Tabs w) (w0 : RecsLie w a0 z0.recs cap0 ∧ z0.wf) :
    Calls Tryd.prog 3 #[cmdV (.slice a0 z0.recs.length cap0) z0] w fun e w' => e = .returned (.bool true) ∧ Below w.heap.size w w' := by
  obtain ⟨hrl, hwf⟩ := w0
  have HT := Lib.hid hh
  have HRL := Lib.hid hrl
  have HWF := Lib.hid hwf
  have HB1 := Lib.hid ((Below.refl w.heap.size w).alloc (Nat.le_refl _) (cmdO (.slice a0 z0.recs.length cap0) z0))
  have HG1 := Lib.hid (cmd_new w (.slice a0 z0.recs.length cap0) z0)
  have HAL := Lib.hid (alive10_any _ (hh.below HB1.out))
  have HLI := Lib.hid (fun W (hb : Below w.heap.size w W) => hrl.below hb (Nat.le_refl _))
  have HBG := Lib.hid (fun W (hb : Below w.heap.size w W) => big10_any W a0 cap0 z0 (HLI.out W hb) (by have := hwf.group; unfold maxLen; omega))
  have HRI := Lib.hid (fun W (hb : Below w.heap.size w W) => vcright_any W (HT.out.below hb) a0 cap0 z0 (HLI.out W hb) hwf)
  have HBY := Lib.hid (fun W (hb : Below w.heap.size w W) => vcbytes_any W (HT.out.below hb) a0 cap0 z0 (HLI.out W hb) hwf)
  have HRR := Lib.hid (fun W (hb : Below w.heap.size w W) => refright10_any W a0 cap0 z0 (HLI.out W hb) (by have := hwf.group; unfold maxLen; omega))
  have HKP := Lib.hid (fun W W' (h : W.heap[w.heap.size]? = some (cmdO (.slice a0 z0.recs.length cap0) z0)) (hb : Below W.heap.size W W') => block_keep h hb)
  unfold cmdV at HBG HRI HBY HRR
  unfold cmdO at HB1 HG1 HAL HKP
  unfold cmdV
  clear hh hrl hwf
  go_enter Tryd.func3, Tryd.ntmps3
  go_wp2_with fail
  refine HAL.out.mono ?_
  rintro e w2 ⟨rfl, hb2⟩
  have HB2 := Lib.hid (HB1.out.trans (hb2.mono HB1.out.size))
  have HG2 := Lib.hid (HKP.out _ w2 HG1.out hb2)
  have hg2 := cmd_at HG2.out
  obtain ⟨g0, g1, g2, g3, g4, g5, g6, g7, g8, g9, g10, g11, g12⟩ := hg2
  have H2 := Lib.hid (HBG.out w2 HB2.out)
  clear HAL hb2 HBG
  go_wp2_with fail
  refine H2.out.mono ?_
  rintro e w3 ⟨⟨big, rfl⟩, hb3⟩
  have HB3 := Lib.hid (HB2.out.trans (hb3.mono HB2.out.size))
  have HG3 := Lib.hid (HKP.out w2 w3 HG2.out hb3)
  clear g0 g1 g2 g3 g4 g5 g6 g7 g8 g9 g10 g11 g12 hb3 H2 HB2 HG2 HB1 HG1
  cases big with
  | true =>
    go_wp2_with fail
    go_ret
    exact ⟨rfl, HB3.out⟩
  | false =>
    have hg3 := cmd_at HG3.out
    obtain ⟨g0, g1, g2, g3, g4, g5, g6, g7, g8, g9, g10, g11, g12⟩ := hg3
    have H3 := Lib.hid (HRI.out w3 HB3.out)
    clear HRI
    go_wp2_with fail
    refine H3.out.mono ?_
    rintro e w4 ⟨rfl, hb4⟩
    have HB4 := Lib.hid (HB3.out.trans (hb4.mono HB3.out.size))
    have HG4 := Lib.hid (HKP.out w3 w4 HG3.out hb4)
    have hg4 := cmd_at HG4.out
    obtain ⟨f0, f1, f2, f3, f4, f5, f6, f7, f8, f9, f10, f11, f12⟩ := hg4
    have H4 := Lib.hid (HBY.out w4 HB4.out)
    clear g0 g1 g2 g3 g4 g5 g6 g7 g8 g9 g10 g11 g12 hb4 H3 HBY HB3 HG3
    go_wp2_with fail
    refine H4.out.mono ?_
    rintro e w5 ⟨v, rfl, ho, hb5⟩
    obtain ⟨Ab, cb, rfl, hl, hc, hm, hn⟩ := ho.parts2
    have HB5 := Lib.hid (HB4.out.trans (hb5.mono HB4.out.size))
    have HG5 := Lib.hid (HKP.out w4 w5 HG4.out hb5)
    have hg5 := cmd_at HG5.out
    obtain ⟨g0, g1, g2, g3, g4, g5, g6, g7, g8, g9, g10, g11, g12⟩ := hg5
    have H5 := Lib.hid (HRR.out w5 HB5.out)
    have HM := Lib.hid hm
    clear f0 f1 f2 f3 f4 f5 f6 f7 f8 f9 f10 f11 f12 hb5 H4 HRR HB4 HG4 ho hm
    unfold maxLen at hc
    go_wp2_with fail
    refine H5.out.mono ?_
    rintro e w6 ⟨rfl, hb6⟩
    have HB6 := Lib.hid (HB5.out.trans (hb6.mono HB5.out.size))
    have HG6 := Lib.hid (HKP.out w5 w6 HG5.out hb6)
    have HM6 := Lib.hid ((HM.out.below hb6).more hb6.size)
    clear g0 g1 g2 g3 g4 g5 g6 g7 g8 g9 g10 g11 g12 hb6 H5 HB5 HG5 HM
    by_cases hr : z0.right
    · have HR := Lib.hid hr
      have q1 : decide z0.right = true := decide_eq_true hr
      rw [q1]
      have H6 := Lib.hid (vcread_any Ab (cmdB z0) cb w6 (HT.out.below HB6.out) HM6.out (cmdB_bytes HWF.out) hl (by unfold maxLen; exact hc) hn (by have := cmdB_length HWF.out; omega))
      rw [cmdR_back HWF.out hr] at H6
      clear q1 hr HM6
      go_wp2_with fail
      refine H6.out.mono ?_
      rintro e w7 ⟨hb7, hres⟩
      rcases hres with ⟨h, _⟩ | ⟨c7, v7, hcc, rfl, ho7⟩
      · cases h
      · injection hcc with hcc
        subst hcc
        obtain ⟨A7, cap7, rfl, hl7⟩ := own_lie ho7 (fun r hr => HWF.out.recs r hr)
        have HB7 := Lib.hid (HB6.out.trans (hb7.mono HB6.out.size))
        have HG7 := Lib.hid (HKP.out w6 w7 HG6.out hb7)
        have hg7 := cmd_at HG7.out
        obtain ⟨g0, g1, g2, g3, g4, g5, g6, g7, g8, g9, g10, g11, g12⟩ := hg7
        have hlt7 : w.heap.size < w7.heap.size := (Array.getElem?_eq_some_iff.1 HG7.out).1
        have HS := Lib.hid (refsame10_any (w7.alloc (cmdO (.slice A7 z0.recs.length cap7) z0)) z0 z0 a0 A7 cap0 cap7 ((HLI.out w7 HB7.out).below ((Below.refl w7.heap.size w7).alloc (Nat.le_refl _) _) (Nat.le_refl _)) (hl7.below ((Below.refl w7.heap.size w7).alloc (Nat.le_refl _) _) (Nat.le_refl _)))
        have HB8 := Lib.hid (HB7.out.alloc HB7.out.size (cmdO (.slice A7 z0.recs.length cap7) z0))
        unfold cmdV cmdO at HS
        unfold cmdO at HB8
        unfold cmdV
        clear ho7 hl7 hb7 H6 HG6 HB6 HKP HLI
        go_wp2_with fail
        refine (num10_any _ _).mono ?_
        rintro e w' ⟨rfl, rfl⟩
        go_wp2_with fail
        refine HS.out.mono ?_
        rintro e w9 ⟨d, rfl, hd, hb9⟩
        obtain rfl : d = true := by simpa using hd
        have HB9 := Lib.hid (HB8.out.trans (hb9.mono HB8.out.size))
        clear hd hb9
        go_wp2_with fail
        go_ret
        exact ⟨rfl, HB9.out⟩
    · have q1 : decide z0.right = false := decide_eq_false hr
      rw [q1]
      have hz : (cmdB z0).length = 0 := by rw [cmdB_wrong hr]; rfl
      rw [hz]
      clear q1 hr HM6 hz hl
      go_wp2_with fail
      go_ret
      exact ⟨rfl, HB6.out⟩

set_option maxRecDepth 100000 in
theorem lifted (os : Os) (started : os.Started) (H : Type) (enc : TypeId × Value → H) :
    ReturnsInHanded {} Tryd.checked os 3 .any (fun w args => (Rows.commandBytesSpec.pre enc Tryd.prog Tryd.f3 [] false w args ∧ laidMetH Tryd.prog laid1 w) ∧ sizedMet enc Tryd.prog Tryd.f3 (OpenSpec.ofChange Rows.commandBytesSpec) false w args) (Rows.commandBytesSpec.post enc Tryd.prog Tryd.f3 false true false false) := by
  refine returnsInHanded_of_change_and (C := Tryd.checked) (X := fun w _ => laidMetH Tryd.prog laid1 w) (fun _ _ _ hh h => h.of_heap hh) own started (by kernel_rfl) Tryd.func3
    (ChangeSpec.witness_shaped (enc := enc) (C := Tryd.checked) (os := os) (X := fun w _ => laidMetH Tryd.prog laid1 w) false (World.laidAll Tryd.prog os laid1) #[.agg #[.int .i64 0, .int .i64 0, .int .i64 0, .slice none 0 0, .string ⟨#[]⟩, .int .i64 0, .int .i64 0, .int .i64 0, .int .u32 0, .int .i64 0, .int .i64 0, .int .i64 0, .int .i64 0]] 8 (World.laidAll_os _ _ _) (World.shaped_of_ZipB (by kernel_rfl) (by kernel_rfl)) (by kernel_rfl) (by kernel_rfl) (by kernel_rfl) (door_met os _)) ?_
  intro W base args ds gs before hval0 hW _ _ hL _
  have hval : ∀ (j : Nat) t v, Tryd.f3.params[j]? = some t → args[j]? = some v → Value.okWide Tryd.prog W .any base t v := hval0
  have hW' := hW
  obtain ⟨p, q, hA0, hV, rfl, hfz, hnd⟩ := hW
  have hA : DataW.TrodAll enc Tryd.prog W 0 (fun _ => true) true Tryd.f3.params.toList args.toList ds p := hA0
  rw [Tryd.params3] at hA hval
  obtain ⟨v0, vs0, d0, ds0, p0, q0, hargs, rfl, rfl, h0, r0⟩ := trodAll_cons hA
  obtain ⟨rfl, rfl, rfl⟩ := trodAll_nil r0
  obtain rfl : args = #[v0] := by cases args; simp_all
  obtain ⟨rfl, rfl⟩ := trodVars_none hV
  have k0 := h0
  have lt0 : ∀ x ∈ p0, x.block < W.heap.size := by obtain ⟨m, hm⟩ := k0; exact DataW.trod_lt m _ _ _ hm
  obtain ⟨a0, cap0, z0, rfl, w0⟩ := cmd_came (hval 0 27 v0 rfl rfl) h0
  clear hA0 hval0
  refine (walk a0 cap0 z0 W (of_laid hL) w0).mono fun e W' ⟨he, bel⟩ => ?_
  subst he
  exact ⟨_, rfl, _, _, _, [], _, [], hW', trodAll_mk1 (shut_bool Tryd.underlying4 _), (trodAll_cons_mk (Below.trod laidOut (by kernel_rfl) (of_decide_eq_true (by kernel_rfl)) k0 bel lt0) trodAll_mk0), rfl, bel.frame _, fun h => by cases h⟩

theorem over : Rows.commandBytesRow.holds Tryd.pinned (OpenSpec.ofChange Rows.commandBytesSpec) :=
  OpenClaim.holds_of_wide 3 Tryd.f3 rfl rfl rfl rfl rfl rfl rfl ⟨rfl, rfl, rfl, rfl, rfl⟩ rfl rfl rfl rfl rfl (by kernel_rfl) Tryd.func3 (by kernel_rfl)
    (of_decide_eq_true (by kernel_rfl)) (by unfold Func.isWrapper; first | (rw [if_pos (by decide +kernel)]; kernel_rfl) | (rw [if_neg (by decide +kernel)]; exact ⟨rfl, rfl⟩))
    (fun os started H enc _ => lifted os started H enc)

theorem proved : Rows.CommandBytesCardSaid :=
  Claim7.holds_tied_plain_at .later [] [.data, .pinned] true (true, "7f40e3b408ed15b1cef979e57bcf9a92b0890dc3aae873b6e77e4f9b7667b258") true
    over (fun _ h => by cases h) (by kernel_rfl) (fun _ h => by cases h) commandBytes_row_tie rfl ⟨rfl, rfl⟩ (by kernel_rfl) rfl
    (fun f fn hf hfn => by
      obtain rfl : f = 3 := Option.some.inj ((show Tryd.prog.funcNamed "cooperage/cooperagelaw10.CommandBytes" = some 3 by kernel_rfl).symm.trans hf) |>.symm
      obtain rfl : fn = Tryd.f3 := (Option.some.inj (Tryd.func3.symm.trans hfn)).symm
      exact ⟨by kernel_rfl, fun j t ht => by
        rw [Tryd.params3] at ht
        have hm : t ∈ [27] := by simpa using Array.mem_of_getElem? ht
        have hall : ([27].all fun u => !Tryd.prog.wantsStandIn u) = true := by kernel_rfl
        exact (show Tryd.prog.wantsStandIn t = false by simpa using List.all_eq_true.1 hall t hm)⟩)
    (by kernel_rfl)
#print axioms proved
end Go.Proofs.YtiglignfjegilaaDoor.commandBytes
