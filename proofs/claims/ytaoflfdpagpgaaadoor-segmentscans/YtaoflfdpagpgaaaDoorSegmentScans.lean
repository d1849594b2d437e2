/- Proved: for every list b of bytes, SegmentScans(b) returns true. -/
import Derived.Test.YtaoflfdpagpgaaaDoorRows
import Derived.WalkKit
import Derived.ProofKit
import Derived.OpenShut
import Derived.ShutString
import Derived.ChangeOld
import Derived.Below
import Derived.LaidMore
import Derived.Stop.Joined
import Derived.SevenTiedAt
import Derived.Test.YtaoflfdpagpgaaaDoorCards
import Derived.Test.YtaoflfdpagpgaaaDoorTie
import Derived.Test.YtaoflfdpagpgaaaDoorCame
import Derived.Test.YtaoflfdpagpgaaaDoorSegAlive
import Derived.Test.YtaoflfdpagpgaaaDoorCrcLaid
namespace Go.Proofs.YtaoflfdpagpgaaaDoor.segmentScans
open Go.ChangeShapes Go.WideShapes Go.ChangeAt Go.RowKit
open Go.ChangeMaps (open_string shut_string)
set_option linter.unusedVariables false

theorem own : ownKnob Tryd.prog.godebug = none := by kernel_rfl
theorem laidOut : laidOutB Tryd.prog = true := by kernel_rfl

/-- WHAT THE WALK IS TOLD OF A SLICE OF INTEGERS THAT CAME IN: it is nil; or it leads to a row of 'cap' cells, the numbers 'zs' (the first 'len' are its elements, the rest its spare room), each fitting its kind. -/
def IsRow (k : IntKind) (w : World) (a : Option Addr) (len cap : Nat) (zs : List Int) : Prop :=
  (a = none ∧ len = 0 ∧ cap = 0 ∧ zs = []) ∨
  ∃ x, a = some x ∧ len ≤ cap ∧ cap ≤ maxLen ∧ zs.length = cap ∧ (∀ i, i < zs.length → w.cell? (x.add i) = some (.int k (zs.getD i 0))) ∧ ∀ n ∈ zs, (Lit.int k n).wf = true

set_option maxHeartbeats 1600000 in
set_option maxRecDepth 4000 in
theorem walk (a0 : Option Addr) (len0 cap0 : Nat) (z0 : List Int) (w : World) (hh : Half w) (w0 : IsRow .u8 w a0 len0 cap0 z0) :
    Calls Tryd.prog 4 #[.slice a0 len0 cap0] w fun e w' => e = .returned (.bool true) ∧ Below w.heap.size w w' := by
  obtain ⟨xs, rfl, hc, hm, hl, hwf, hn⟩ := row_came w0
  have hby : IsBytes xs := fun n hn => bounds_u8 (hwf n hn)
  clear w0 hwf hn
  by_cases h1500 : 1500 < xs.length
  · have h1 : (1500 : Int) < (xs.length : Int) := by omega
    go_enter Tryd.func4, Tryd.ntmps4
    go_wp2_with fail
    refine (alive_any w hh).mono ?_
    rintro e w1 ⟨rfl, hbel⟩
    go_wp2
    go_ret
    exact ⟨rfl, hbel⟩
  have hxl : xs.length ≤ 549755813888 := by omega
  have HV := Lib.hid (fun (W : World) (hb : Below w.heap.size w W) => vsegscan_any a0 xs cap0 W (hh.below hb hh.pos) ((hl.below hb).more hb.size) hby hc hm hxl)
  have HR := Lib.hid (fun (W : World) (hb : Below w.heap.size w W) => refscan_any a0 xs cap0 W ((hl.below hb).more hb.size) hby hc hm hxl)
  have HVR := Lib.hid (fun (W : World) (hb : Below w.heap.size w W) => vsegread_any a0 xs cap0 W (hh.below hb hh.pos) ((hl.below hb).more hb.size) hby hc hm hxl)
  have HRR := Lib.hid (fun (W : World) (hb : Below w.heap.size w W) => refreadseg_any a0 xs cap0 W ((hl.below hb).more hb.size) hby hc hm hxl)
  have h1 : ¬ (1500 : Int) < (xs.length : Int) := by omega
  have HAL := Lib.hid (alive_any w hh)
  obtain ⟨L, hL⟩ : ∃ L, xs.length = L := ⟨_, rfl⟩
  rw [hL] at h1 HV HR HVR HRR ⊢
  have hnum := Lib.hid num_any
  clear hc hm hl hby hxl hh h1500 hL
  go_enter Tryd.func4, Tryd.ntmps4
  go_wp2_with fail
  refine HAL.out.mono ?_
  rintro e w1 ⟨rfl, hb1⟩
  have B1 := Lib.hid hb1
  clear hb1 HAL
  go_wp2_with fail
  refine (HV.out w1 B1.out).mono ?_
  rintro e w2 ⟨v2, rs, k, rfl, s2, o2, r2, _, _, b2⟩
  have S2 := Lib.hid s2
  have HW := Lib.hid (fun (r : Rec) (hr : r ∈ rs) => (r2 r hr).wf)
  obtain ⟨A2, c2, rfl, p2, _⟩ := o2.parts HW.out
  have P2 := Lib.hid p2
  have B2 := Lib.hid (B1.out.trans (b2.mono B1.out.size))
  clear s2 o2 r2 b2 p2 HV B1
  go_wp2_with fail
  refine (HR.out w2 B2.out).mono ?_
  rintro e w3 ⟨v3, rs3, k3, rfl, s3, o3, _, _, _, b3⟩
  obtain ⟨rfl, rfl⟩ := S2.out.one s3
  obtain ⟨A3, c3, rfl, p3, _⟩ := o3.parts HW.out
  have P3 := Lib.hid p3
  have P23 := Lib.hid (P2.out.below b3 (Nat.le_refl _))
  have B3 := Lib.hid (B2.out.trans (b3.mono B2.out.size))
  clear s3 o3 b3 p3 HR B2 P2
  go_wp2_with fail
  refine (HVR.out w3 B3.out).mono ?_
  rintro e w4 ⟨v4, rs4, k4, er4, rfl, s4, o4, e4, _, _, _, b4⟩
  obtain ⟨rfl, rfl⟩ := S2.out.one s4
  obtain ⟨Q, hQ⟩ : ∃ Q, (if k = xs.length then rs else []) = Q := ⟨_, rfl⟩
  obtain ⟨er, her⟩ : ∃ er : Int, (if k = xs.length then (0 : Int) else 5) = er := ⟨_, rfl⟩
  have HQW : Hid (∀ r ∈ Q, r.wf) := Lib.hid (fun r hr => by
    rw [← hQ] at hr
    split at hr
    · exact HW.out r hr
    · cases hr)
  rw [hQ] at o4
  rw [her] at e4
  subst er4
  have HQ := Lib.hid hQ
  have HER := Lib.hid her
  obtain ⟨A4, c4, rfl, p4, _⟩ := o4.parts HQW.out
  have P4 := Lib.hid p4
  have P24 := Lib.hid (P23.out.below b4 (Nat.le_refl _))
  have P34 := Lib.hid (P3.out.below b4 (Nat.le_refl _))
  have B4 := Lib.hid (B3.out.trans (b4.mono B3.out.size))
  clear s4 o4 b4 p4 HVR B3 P23 P3 hQ her
  go_wp2_with fail
  refine (HRR.out w4 B4.out).mono ?_
  rintro e w5 ⟨v5, rs5, k5, er5, rfl, s5, o5, e5, _, _, _, b5⟩
  obtain ⟨rfl, rfl⟩ := S2.out.one s5
  rw [HQ.out] at o5
  rw [HER.out] at e5
  subst er5
  obtain ⟨A5, c5, rfl, p5, _⟩ := o5.parts HQW.out
  have B5 := Lib.hid (B4.out.trans (b5.mono B4.out.size))
  have HS1 := Lib.hid (samerecs_any w5 rs A2 A3 c2 c3 (P24.out.below b5 (Nat.le_refl _)) (P34.out.below b5 (Nat.le_refl _)))
  have HS2 := Lib.hid (fun m => samerecs_any (w5.drewN m) Q A4 A5 c4 c5 (P4.out.below (below_drewN b5 m) (Nat.le_refl _)) (p5.below (below_drewN (Below.refl _ _) m) (Nat.le_refl _)))
  clear s5 o5 b5 p5 HRR B4 P24 P34 P4
  obtain ⟨n1, hn1⟩ : ∃ n, rs.length = n := ⟨_, rfl⟩
  obtain ⟨n2, hn2⟩ : ∃ n, Q.length = n := ⟨_, rfl⟩
  rw [hn1] at HS1 ⊢
  rw [hn2] at HS2 ⊢
  clear hn1 hn2 HQ HER HQW HW S2
  have q1 : ((k : Int) == (k : Int)) = true := by simp
  have q2 : (er == er) = true := by simp
  go_wp2_with fail
  refine HS1.out.mono ?_
  rintro e w6 ⟨rfl, m1, hw6⟩
  have HS3 := Lib.hid (HS2.out m1)
  rw [← hw6] at HS3
  have B6 : Hid (Below w.heap.size w w6) := Lib.hid (by rw [hw6]; exact below_drewN B5.out _)
  clear hw6 HS1 HS2 B5
  go_wp2_with fail
  refine HS3.out.mono ?_
  rintro e w7 ⟨rfl, m2, hw7⟩
  have B7 : Hid (Below w.heap.size w w7) := Lib.hid (by rw [hw7]; exact below_drewN B6.out _)
  clear hw7 HS3 B6
  go_wp2_with (go_at_call 18; refine (hnum.out _ _).mono ?_; rintro e w' ⟨rfl, rfl⟩)
  go_ret
  exact ⟨rfl, B7.out⟩

set_option maxRecDepth 100000 in
theorem lifted (os : Os) (started : os.Started) (H : Type) (enc : TypeId × Value → H) :
    ReturnsInHanded {} Tryd.checked os 4 .any (fun w args => (Rows.segmentScansSpec.pre enc Tryd.prog Tryd.f4 [] false w args ∧ laidMetH Tryd.prog laid1 w) ∧ sizedMet enc Tryd.prog Tryd.f4 (OpenSpec.ofChange Rows.segmentScansSpec) false w args) (Rows.segmentScansSpec.post enc Tryd.prog Tryd.f4 false true false false) := by
  refine returnsInHanded_of_change_and (C := Tryd.checked) (X := fun w _ => laidMetH Tryd.prog laid1 w) (fun _ _ _ hh h => h.of_heap hh) own started (by kernel_rfl) Tryd.func4
    (ChangeSpec.witness_shaped (enc := enc) (C := Tryd.checked) (os := os) (X := fun w _ => laidMetH Tryd.prog laid1 w) false (World.doorLaid Tryd.prog 400 os) #[.slice none 0 0] 8 rfl (World.shaped_of_RefB (by kernel_rfl) (by kernel_rfl)) (by kernel_rfl) (by kernel_rfl) (by kernel_rfl) (door_met os _)) ?_
  intro W base args ds gs before hval0 hW _ _ hL _
  have hval : ∀ (j : Nat) t v, Tryd.f4.params[j]? = some t → args[j]? = some v → Value.okWide Tryd.prog W .any base t v := hval0
  have hW' := hW
  obtain ⟨p, q, hA0, hV, rfl, hfz, hnd⟩ := hW
  have hA : DataW.TrodAll enc Tryd.prog W 0 (fun _ => true) true Tryd.f4.params.toList args.toList ds p := hA0
  rw [Tryd.params4] at hA hval
  obtain ⟨v0, vs0, d0, ds0, p0, q0, hargs, rfl, rfl, h0, r0⟩ := trodAll_cons hA
  obtain ⟨rfl, rfl, rfl⟩ := trodAll_nil r0
  obtain rfl : args = #[v0] := by cases args; simp_all
  obtain ⟨rfl, rfl⟩ := trodVars_none hV
  obtain ⟨a0, len0, cap0, rfl⟩ := okWide_slice Tryd.underlying25 (hval 0 25 v0 rfl rfl)
  have k0 := h0
  have lt0 : ∀ x ∈ p0, x.block < W.heap.size := by obtain ⟨m, hm⟩ := k0; exact DataW.trod_lt m _ _ _ hm
  obtain ⟨z0, w0⟩ : ∃ zs, IsRow .u8 W a0 len0 cap0 zs := by
    obtain ⟨fuel, hf⟩ := h0
    rcases open_ints Tryd.underlying25 Tryd.underlying5 (by kernel_rfl) hf with ⟨hcs, _⟩ | ⟨x, l, c, zs, hcs, _, hl, hm, hz, _, hcell, hwz⟩
    · simp [Value.cells] at hcs
      obtain ⟨rfl, rfl, rfl⟩ := hcs
      exact ⟨[], .inl ⟨rfl, rfl, rfl, rfl⟩⟩
    · simp [Value.cells] at hcs
      obtain ⟨rfl, rfl, rfl⟩ := hcs
      exact ⟨zs, .inr ⟨_, rfl, hl, hm, by simpa using hz, hcell, hwz⟩⟩
  clear hA0 hval0
  refine (walk a0 len0 cap0 z0 W (of_laid hL) w0).mono fun e W' ⟨he, bel⟩ => ?_
  subst he
  exact ⟨_, rfl, _, _, _, [], _, [], hW', trodAll_mk1 (shut_bool Tryd.underlying4 _), (trodAll_cons_mk (Below.trod laidOut (by kernel_rfl) (of_decide_eq_true (by kernel_rfl)) k0 bel lt0) trodAll_mk0), rfl, bel.frame _, fun h => by cases h⟩

theorem over : Rows.segmentScansRow.holds Tryd.pinned (OpenSpec.ofChange Rows.segmentScansSpec) :=
  OpenClaim.holds_of_wide 4 Tryd.f4 rfl rfl rfl rfl rfl rfl rfl ⟨rfl, rfl, rfl, rfl, rfl⟩ rfl rfl rfl rfl rfl (by kernel_rfl) Tryd.func4 (by kernel_rfl)
    (of_decide_eq_true (by kernel_rfl)) (by unfold Func.isWrapper; first | (rw [if_pos (by decide +kernel)]; kernel_rfl) | (rw [if_neg (by decide +kernel)]; exact ⟨rfl, rfl⟩))
    (fun os started H enc _ => lifted os started H enc)

theorem proved : Rows.SegmentScansCardSaid :=
  Claim7.holds_tied_plain_at .later [] [.data] true (true, "57e34fe7e6195b37330d53ae7f2fe2cefffe6bf52f7c82621d6670bc05d0138e") false
    over (fun _ h => by cases h) (by kernel_rfl) (fun _ h => by cases h) segmentScans_row_tie rfl ⟨rfl, rfl⟩ (by kernel_rfl) rfl
    (fun f fn hf hfn => by
      obtain rfl : f = 4 := Option.some.inj ((show Tryd.prog.funcNamed "cooperage/cooperagelaw8.SegmentScans" = some 4 by kernel_rfl).symm.trans hf) |>.symm
      obtain rfl : fn = Tryd.f4 := (Option.some.inj (Tryd.func4.symm.trans hfn)).symm
      exact ⟨by kernel_rfl, fun j t ht => by
        rw [Tryd.params4] at ht
        have hm : t ∈ [25] := by simpa using Array.mem_of_getElem? ht
        have hall : ([25].all fun u => !Tryd.prog.wantsStandIn u) = true := by kernel_rfl
        exact (show Tryd.prog.wantsStandIn t = false by simpa using List.all_eq_true.1 hall t hm)⟩)
    (by kernel_rfl)
#print axioms proved
end Go.Proofs.YtaoflfdpagpgaaaDoor.segmentScans
