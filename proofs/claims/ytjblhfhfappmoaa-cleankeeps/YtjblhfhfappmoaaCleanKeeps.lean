/- Proved: for every list l of records, point, time, grace and choice, CleanKeeps returns true. -/
import Derived.Test.YtjblhfhfappmoaaRows
import Derived.WalkKit
import Derived.ProofKit
import Derived.OpenShut
import Derived.ShutString
import Derived.ChangeOld
import Derived.Below
import Derived.Test.YtjblhfhfappmoaaCame
import Derived.Test.YtjblhfhfappmoaaClnProg
import Derived.Test.YtjblhfhfappmoaaClnAlive
import Derived.Test.YtjblhfhfappmoaaRSame2
import Derived.Test.YtjblhfhfappmoaaSegBig
import Derived.Test.YtjblhfhfappmoaaRecsNil
import Derived.Test.YtjblhfhfappmoaaRecsRest
import Derived.Test.YtjblhfhfappmoaaRKeep
namespace Go.Proofs.Ytjblhfhfappmoaa.cleanKeeps
open Go.ChangeShapes Go.WideShapes Go.ChangeAt Go.RowKit
open Go.ChangeMaps (open_string shut_string)
set_option linter.unusedVariables false

theorem own : ownKnob Try.prog.godebug = none := by kernel_rfl
theorem laidOut : laidOutB Try.prog = true := by kernel_rfl

def IsRow (k : IntKind) (w : World) (a : Option Addr) (len cap : Nat) (zs : List Int) : Prop :=
  (a = none ∧ len = 0 ∧ cap = 0 ∧ zs = []) ∨
  ∃ x, a = some x ∧ len ≤ cap ∧ cap ≤ maxLen ∧ zs.length = cap ∧ (∀ i, i < zs.length → w.cell? (x.add i) = some (.int k (zs.getD i 0))) ∧ ∀ n ∈ zs, (Lit.int k n).wf = true

set_option maxHeartbeats 6400000 in
theorem walk (a0 : Option Addr) (cap0 : Nat) (z0 : List Rec) (a1 : Int) (a2 : Int) (a3 : Int) (a4 : Bool) (w : World) (w0 : RecsLie w a0 z0 cap0 ∧ (a0 = none → cap0 = 0)) (w1 : (Lit.int .i64 a1).wf = true) (w2 : (Lit.int .i64 a2).wf = true) (w3 : (Lit.int .i64 a3).wf = true) :
    Calls Try.prog 3 #[.slice a0 z0.length cap0, .int .i64 a1, .int .i64 a2, .int .i64 a3, .bool a4] w fun e w' => e = .returned (.bool true) ∧ Below w.heap.size w w' := by
  have HAL := Lib.hid (alive13_any w)
  have b1 := bounds_i64 w1
  have b2 := bounds_i64 w2
  have b3 := bounds_i64 w3
  have HL := Lib.hid w0.1
  have HNIL := Lib.hid w0.2
  have hcl := w0.1.2.1
  have hcm := w0.1.2.2.1
  unfold maxLen at hcm
  have HBD := Lib.hid (And.intro b1 (And.intro b2 b3))
  clear w0 w1 w2 w3 b1 b2 b3
  go_enter Try.func3, Try.ntmps3
  go_wp2_with fail
  refine HAL.out.mono ?_
  rintro e w1 ⟨rfl, hb1⟩
  have HB1 := Lib.hid hb1
  have HBIG := Lib.hid (big_any w w1 a0 z0 cap0 HL.out hb1)
  clear HAL hb1
  go_wp2_with fail
  refine HBIG.out.mono ?_
  rintro e w2 ⟨rfl, r, rfl, hsm⟩
  clear HBIG
  cases r with
  | true =>
    clear hsm
    go_wp2_with fail
    go_ret
    exact ⟨rfl, HB1.out⟩
  | false =>
    have hs := hsm rfl
    have hz : z0.length ≤ 60 := hs.1
    have HWF := Lib.hid HL.out.2.2.2
    have HW2 : Hid (∀ r ∈ keepL a1 a2 a3 a4 z0, r.wf) := Lib.hid fun r hr => HL.out.2.2.2 r (keep_sub _ r hr)
    clear hsm hs
    go_wp2_with (at_builtin; refine wpList_append_recs_any rfl (.const (.slice none 0 0)) (.tmp 23) rfl w2.heap.size (.slice none 0 0) [] rfl OwnR.nil a0 z0.length cap0 z0 rfl rfl (HL.out.below HB1.out (Nat.le_refl _)) HNIL.out (by simp; omega) (Nat.le_refl _) ?_; intro v3 w3 hown3 hb3 _; rw [List.nil_append] at hown3; have HO3 := Lib.hid hown3; have HB3 := Lib.hid hb3; clear hown3 hb3)
    obtain ⟨B, c, rfl, hl3, _⟩ := HO3.out.parts HWF.out
    have hB3 := HB1.out.trans (HB3.out.mono HB1.out.size)
    have HK := Lib.hid (vkeep13_any w3 z0 B c hl3 a1 a2 a3 a4 HBD.out.1 HBD.out.2.1 HBD.out.2.2 (by omega))
    have HT3 := Lib.hid hB3
    have HL3 := Lib.hid hl3
    have hc3 := hl3.2.1
    have hc4 := hl3.2.2.1
    unfold maxLen at hc4
    clear hl3 hB3 HO3 HB3 HNIL
    go_wp2_with fail
    refine HK.out.mono ?_
    rintro e w4 ⟨v4, rfl, ho4, hb4⟩
    obtain ⟨B4, c4, rfl, hl4, _⟩ := ho4.parts HW2.out
    have HT4 := Lib.hid (HT3.out.trans (hb4.mono HT3.out.size))
    have HB4 := Lib.hid hb4
    have HL4 := Lib.hid hl4
    have HK2 := Lib.hid (refkeep_any w4 z0 a0 cap0 (HL.out.below HT4.out (Nat.le_refl _)) a1 a2 a3 a4 HBD.out.2.1 HBD.out.2.2 (by omega))
    clear ho4 hb4 hl4 HK
    go_wp2_with fail
    refine HK2.out.mono ?_
    rintro e w5 ⟨v5, rfl, ho5, hb5⟩
    obtain ⟨B5, c5, rfl, hl5, _⟩ := ho5.parts HW2.out
    have HS := Lib.hid (samerecs2_any w5 _ _ B4 B5 c4 c5 (HL4.out.below hb5 (Nat.le_refl _)) hl5)
    have HT5 := Lib.hid (HT4.out.trans (hb5.mono HT4.out.size))
    have HB5 := Lib.hid (HB4.out.trans (hb5.mono HB4.out.size))
    clear ho5 hb5 hl5 HK2 HL4 HT4 HB4
    go_wp2_with fail
    refine HS.out.mono ?_
    rintro e w6 ⟨d, m, rfl, hd, rfl⟩
    obtain rfl : d = true := by simpa using hd
    have HT6 := Lib.hid (below_more HT5.out m)
    have HB6 := Lib.hid (below_more HB5.out m)
    clear hd HS HT5 HB5
    generalize w5.drewN m = w6 at *
    have HM := Lib.hid (vmap13_any w6 z0 B c (HL3.out.below HB6.out (Nat.le_refl _)) (by omega))
    have HW3 : Hid (∀ r ∈ mapL z0, r.wf) := Lib.hid fun r hr => HWF.out r ((last_key (((map_tells z0).2 r).mp hr).1).2)
    go_wp2_with fail
    refine HM.out.mono ?_
    rintro e w7 ⟨v7, rfl, ho7, hb7⟩
    obtain ⟨B7, c7, rfl, hl7, _⟩ := ho7.parts HW3.out
    have HT7 := Lib.hid (HT6.out.trans (hb7.mono HT6.out.size))
    have HB7 := Lib.hid (HB6.out.trans (hb7.mono HB6.out.size))
    have HL7 := Lib.hid hl7
    have HM2 := Lib.hid (refmap_any w7 z0 a0 cap0 (HL.out.below HT7.out (Nat.le_refl _)) (by omega))
    clear ho7 hb7 hl7 HM HT6 HB6
    go_wp2_with fail
    refine HM2.out.mono ?_
    rintro e w8 ⟨v8, rfl, ho8, hb8⟩
    obtain ⟨B8, c8, rfl, hl8, _⟩ := ho8.parts HW3.out
    have HS := Lib.hid (samerecs2_any w8 _ _ B7 B8 c7 c8 (HL7.out.below hb8 (Nat.le_refl _)) hl8)
    have HT8 := Lib.hid (HT7.out.trans (hb8.mono HT7.out.size))
    have HB8 := Lib.hid (HB7.out.trans (hb8.mono HB7.out.size))
    clear ho8 hb8 hl8 HM2 HL7 HT7 HB7
    go_wp2_with fail
    refine HS.out.mono ?_
    rintro e w9 ⟨d, m2, rfl, hd, rfl⟩
    obtain rfl : d = true := by simpa using hd
    have HT9 := Lib.hid (below_more HT8.out m2)
    have HB9 := Lib.hid (below_more HB8.out m2)
    clear hd HS HT8 HB8
    generalize w8.drewN m2 = w9 at *
    have HS := Lib.hid (samerecs2_any w9 z0 z0 B a0 c cap0 (HL3.out.below HB9.out (Nat.le_refl _)) (HL.out.below HT9.out (Nat.le_refl _)))
    go_wp2_with fail
    refine HS.out.mono ?_
    rintro e w10 ⟨d, m3, rfl, hd, rfl⟩
    obtain rfl : d = true := by simpa using hd
    clear hd HS
    go_wp2_with fail
    go_ret
    exact ⟨rfl, below_more HT9.out m3⟩

set_option maxRecDepth 100000 in
theorem lifted (os : Os) (started : os.Started) (H : Type) (enc : TypeId × Value → H) :
    ReturnsInHanded {} Try.checked os 3 .any (Rows.cleanKeepsSpec.pre6 enc Try.prog Try.f3 Rows.cleanKeepsRow.domain false) (Rows.cleanKeepsSpec.post enc Try.prog Try.f3 false true false false) := by
  refine returnsInHanded_of_change (C := Try.checked) own started (by kernel_rfl) Try.func3
    (ChangeSpec.witness6 (enc := enc) (C := Try.checked) false ⟨#[], #[.slice none 0 0, .int .i64 0, .int .i64 0, .int .i64 0, .bool false], []⟩ 8 (by kernel_rfl) (by kernel_rfl) (by kernel_rfl) (by kernel_rfl)) ?_
  intro W base args ds gs before hval0 hW hcnd _
  have hval : ∀ (j : Nat) t v, Try.f3.params[j]? = some t → args[j]? = some v → Value.okWide Try.prog W .any base t v := hval0
  have hW' := hW
  obtain ⟨p, q, hA0, hV, rfl, hfz, hnd⟩ := hW
  have hA : DataW.TrodAll enc Try.prog W 0 (fun _ => true) true Try.f3.params.toList args.toList ds p := hA0
  rw [Try.params3] at hA hval
  obtain ⟨v0, vs0, d0, ds0, p0, q0, hargs, rfl, rfl, h0, r0⟩ := trodAll_cons hA
  obtain ⟨v1, vs1, d1, ds1, p1, q1, rfl, rfl, rfl, h1, r1⟩ := trodAll_cons r0
  obtain ⟨v2, vs2, d2, ds2, p2, q2, rfl, rfl, rfl, h2, r2⟩ := trodAll_cons r1
  obtain ⟨v3, vs3, d3, ds3, p3, q3, rfl, rfl, rfl, h3, r3⟩ := trodAll_cons r2
  obtain ⟨v4, vs4, d4, ds4, p4, q4, rfl, rfl, rfl, h4, r4⟩ := trodAll_cons r3
  obtain ⟨rfl, rfl, rfl⟩ := trodAll_nil r4
  obtain rfl : args = #[v0, v1, v2, v3, v4] := by cases args; simp_all
  obtain ⟨rfl, rfl⟩ := trodVars_none hV
  have k0 := h0
  have lt0 : ∀ x ∈ p0, x.block < W.heap.size := by obtain ⟨m, hm⟩ := k0; exact DataW.trod_lt m _ _ _ hm
  obtain ⟨a0, cap0, z0, rfl, y0⟩ := recs_came (hval 0 22 v0 rfl rfl) h0
  have w0 : RecsLie W a0 z0 cap0 ∧ (a0 = none → cap0 = 0) := ⟨y0, fun e => by subst e; exact recs_nil h0⟩
  clear y0
  obtain ⟨a1, rfl, rfl, rfl, w1⟩ := open_int Try.underlying3 (hval 1 3 v1 rfl rfl) h1
  obtain ⟨a2, rfl, rfl, rfl, w2⟩ := open_int Try.underlying3 (hval 2 3 v2 rfl rfl) h2
  obtain ⟨a3, rfl, rfl, rfl, w3⟩ := open_int Try.underlying3 (hval 3 3 v3 rfl rfl) h3
  obtain ⟨a4, rfl, rfl, rfl⟩ := open_bool Try.underlying4 (hval 4 4 v4 rfl rfl) h4
  clear hA0 hval0
  refine (walk a0 cap0 z0 a1 a2 a3 a4 W w0 w1 w2 w3).mono fun e W' ⟨he, bel⟩ => ?_
  subst he
  exact ⟨_, rfl, _, _, _, [], _, [], hW', trodAll_mk1 (shut_bool Try.underlying4 _), (trodAll_cons_mk (Below.trod laidOut (by kernel_rfl) (of_decide_eq_true (by kernel_rfl)) k0 bel lt0) (trodAll_cons_mk (shut_int Try.underlying3 w1) (trodAll_cons_mk (shut_int Try.underlying3 w2) (trodAll_cons_mk (shut_int Try.underlying3 w3) (trodAll_cons_mk (shut_bool Try.underlying4 _) trodAll_mk0))))), rfl, bel.frame _, fun h => by cases h⟩

theorem over : Rows.cleanKeepsRow.holds Try.pinned (OpenSpec.ofChange Rows.cleanKeepsSpec) :=
  OpenClaim.holds_of_wide 3 Try.f3 rfl rfl rfl rfl rfl rfl rfl ⟨rfl, rfl, rfl, rfl, rfl⟩ rfl rfl rfl rfl rfl (by kernel_rfl) Try.func3 (by kernel_rfl)
    (of_decide_eq_true (by kernel_rfl)) (by unfold Func.isWrapper; first | (rw [if_pos (by decide +kernel)]; kernel_rfl) | (rw [if_neg (by decide +kernel)]; exact ⟨rfl, rfl⟩))
    (fun os started H enc _ => lifted os started H enc)

theorem proved : Rows.CleanKeepsSaid := over
#print axioms proved
end Go.Proofs.Ytjblhfhfappmoaa.cleanKeeps
