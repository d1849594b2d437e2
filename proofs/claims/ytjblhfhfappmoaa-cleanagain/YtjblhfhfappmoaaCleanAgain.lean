/- Proved: for every list of records, point, time, grace and choice, CleanAgain returns true. -/
import Derived.Test.YtjblhfhfappmoaaRows
import Derived.WalkKit
import Derived.ProofKit
import Derived.OpenShut
import Derived.ShutString
import Derived.ChangeOld
import Derived.Below
import Derived.Test.YtjblhfhfappmoaaCame
import Derived.Test.YtjblhfhfappmoaaClnAlive
import Derived.Test.YtjblhfhfappmoaaRSame2
import Derived.Test.YtjblhfhfappmoaaSegBig
import Derived.Test.YtjblhfhfappmoaaRKeep
namespace Go.Proofs.Ytjblhfhfappmoaa.cleanAgain
open Go.ChangeShapes Go.WideShapes Go.ChangeAt Go.RowKit
open Go.ChangeMaps (open_string shut_string)
set_option linter.unusedVariables false

theorem own : ownKnob Try.prog.godebug = none := by kernel_rfl
theorem laidOut : laidOutB Try.prog = true := by kernel_rfl

def IsRow (k : IntKind) (w : World) (a : Option Addr) (len cap : Nat) (zs : List Int) : Prop :=
  (a = none ∧ len = 0 ∧ cap = 0 ∧ zs = []) ∨
  ∃ x, a = some x ∧ len ≤ cap ∧ cap ≤ maxLen ∧ zs.length = cap ∧ (∀ i, i < zs.length → w.cell? (x.add i) = some (.int k (zs.getD i 0))) ∧ ∀ n ∈ zs, (Lit.int k n).wf = true

set_option maxHeartbeats 3200000 in
theorem walk (a0 : Option Addr) (cap0 : Nat) (z0 : List Rec) (a1 : Int) (a2 : Int) (a3 : Int) (a4 : Bool) (w : World) (w0 : RecsLie w a0 z0 cap0) (w1 : (Lit.int .i64 a1).wf = true) (w2 : (Lit.int .i64 a2).wf = true) (w3 : (Lit.int .i64 a3).wf = true) :
    Calls Try.prog 6 #[.slice a0 z0.length cap0, .int .i64 a1, .int .i64 a2, .int .i64 a3, .bool a4] w fun e w' => e = .returned (.bool true) ∧ Below w.heap.size w w' := by
  have HAL := Lib.hid (alive13_any w)
  have b1 := bounds_i64 w1
  have b2 := bounds_i64 w2
  have b3 := bounds_i64 w3
  have HL := Lib.hid w0
  have hcl := w0.2.1
  have hcm := w0.2.2.1
  unfold maxLen at hcm
  have HBD := Lib.hid (And.intro b1 (And.intro b2 b3))
  clear w0 w1 w2 w3 b1 b2 b3
  go_enter Try.func6, Try.ntmps6
  go_wp2_with fail
  refine HAL.out.mono ?_
  rintro e w1 ⟨rfl, hb1⟩
  have HB1 := Lib.hid hb1
  have HBIG := Lib.hid (big_any w w1 a0 z0 cap0 HL.out hb1)
  clear HAL hb1
  go_wp2_with fail
  refine HBIG.out.mono ?_
  rintro e w2 ⟨rfl, r, rfl, hsm⟩
  clear HBIG
  cases r with
  | true =>
    clear hsm
    go_wp2_with fail
    go_ret
    exact ⟨rfl, HB1.out⟩
  | false =>
    have hs := hsm rfl
    have hz : z0.length ≤ 60 := hs.1
    have HK := Lib.hid (vkeep13_any w2 z0 a0 cap0 (HL.out.below HB1.out (Nat.le_refl _)) a1 a2 a3 a4 HBD.out.1 HBD.out.2.1 HBD.out.2.2 (by omega))
    have HWF : Hid (∀ r ∈ keepL a1 a2 a3 a4 z0, r.wf) := Lib.hid fun r hr => HL.out.2.2.2 r (keep_sub _ r hr)
    have HLN := Lib.hid (keep_length (point := a1) (now := a2) (grace := a3) (dead := a4) z0)
    clear hsm hs
    go_wp2_with fail
    refine HK.out.mono ?_
    rintro e w3 ⟨v, rfl, ho, hb3⟩
    obtain ⟨B, c, rfl, hl3, _⟩ := ho.parts HWF.out
    have hB3 := HB1.out.trans (hb3.mono HB1.out.size)
    have HK2 := Lib.hid (vkeep13_any w3 _ B c hl3 a1 a2 a3 a4 HBD.out.1 HBD.out.2.1 HBD.out.2.2 (by have := HLN.out; omega))
    rw [keep_again] at HK2
    have HB3 := Lib.hid hB3
    have HL3 := Lib.hid hl3
    have hc3 := hl3.2.1
    have hc4 := hl3.2.2.1
    unfold maxLen at hc4
    have hln := HLN.out
    clear ho hb3 hl3 hB3 HK
    obtain ⟨K, hK⟩ : ∃ K, keepL a1 a2 a3 a4 z0 = K := ⟨_, rfl⟩
    rw [hK] at HWF HK2 HL3 hc3 hln ⊢
    clear hK HLN
    go_wp2_with fail
    refine HK2.out.mono ?_
    rintro e w4 ⟨v4, rfl, ho4, hb4⟩
    obtain ⟨B4, c4, rfl, hl4, _⟩ := ho4.parts HWF.out
    have HS := Lib.hid (samerecs2_any w4 K K B4 B c4 c hl4 (HL3.out.below hb4 (Nat.le_refl _)))
    have HB4 := Lib.hid (HB3.out.trans (hb4.mono HB3.out.size))
    have q1 : decide ((K.length : Int) ≤ (z0.length : Int)) = true := decide_eq_true (by omega)
    clear ho4 hb4 hl4 HK2
    go_wp2_with fail
    refine HS.out.mono ?_
    rintro e w5 ⟨d, m, rfl, hd, rfl⟩
    obtain rfl : d = true := by simpa using hd
    clear hd HS
    go_wp2_with fail
    go_ret
    exact ⟨rfl, below_more HB4.out m⟩

set_option maxRecDepth 100000 in
theorem lifted (os : Os) (started : os.Started) (H : Type) (enc : TypeId × Value → H) :
    ReturnsInHanded {} Try.checked os 6 .any (Rows.cleanAgainSpec.pre6 enc Try.prog Try.f6 Rows.cleanAgainRow.domain false) (Rows.cleanAgainSpec.post enc Try.prog Try.f6 false true false false) := by
  refine returnsInHanded_of_change (C := Try.checked) own started (by kernel_rfl) Try.func6
    (ChangeSpec.witness6 (enc := enc) (C := Try.checked) false ⟨#[], #[.slice none 0 0, .int .i64 0, .int .i64 0, .int .i64 0, .bool false], []⟩ 8 (by kernel_rfl) (by kernel_rfl) (by kernel_rfl) (by kernel_rfl)) ?_
  intro W base args ds gs before hval0 hW hcnd _
  have hval : ∀ (j : Nat) t v, Try.f6.params[j]? = some t → args[j]? = some v → Value.okWide Try.prog W .any base t v := hval0
  have hW' := hW
  obtain ⟨p, q, hA0, hV, rfl, hfz, hnd⟩ := hW
  have hA : DataW.TrodAll enc Try.prog W 0 (fun _ => true) true Try.f6.params.toList args.toList ds p := hA0
  rw [Try.params6] at hA hval
  obtain ⟨v0, vs0, d0, ds0, p0, q0, hargs, rfl, rfl, h0, r0⟩ := trodAll_cons hA
  obtain ⟨v1, vs1, d1, ds1, p1, q1, rfl, rfl, rfl, h1, r1⟩ := trodAll_cons r0
  obtain ⟨v2, vs2, d2, ds2, p2, q2, rfl, rfl, rfl, h2, r2⟩ := trodAll_cons r1
  obtain ⟨v3, vs3, d3, ds3, p3, q3, rfl, rfl, rfl, h3, r3⟩ := trodAll_cons r2
  obtain ⟨v4, vs4, d4, ds4, p4, q4, rfl, rfl, rfl, h4, r4⟩ := trodAll_cons r3
  obtain ⟨rfl, rfl, rfl⟩ := trodAll_nil r4
  obtain rfl : args = #[v0, v1, v2, v3, v4] := by cases args; simp_all
  obtain ⟨rfl, rfl⟩ := trodVars_none hV
  have k0 := h0
  have lt0 : ∀ x ∈ p0, x.block < W.heap.size := by obtain ⟨m, hm⟩ := k0; exact DataW.trod_lt m _ _ _ hm
  obtain ⟨a0, cap0, z0, rfl, w0⟩ := recs_came (hval 0 22 v0 rfl rfl) h0
  obtain ⟨a1, rfl, rfl, rfl, w1⟩ := open_int Try.underlying3 (hval 1 3 v1 rfl rfl) h1
  obtain ⟨a2, rfl, rfl, rfl, w2⟩ := open_int Try.underlying3 (hval 2 3 v2 rfl rfl) h2
  obtain ⟨a3, rfl, rfl, rfl, w3⟩ := open_int Try.underlying3 (hval 3 3 v3 rfl rfl) h3
  obtain ⟨a4, rfl, rfl, rfl⟩ := open_bool Try.underlying4 (hval 4 4 v4 rfl rfl) h4
  clear hA0 hval0
  refine (walk a0 cap0 z0 a1 a2 a3 a4 W w0 w1 w2 w3).mono fun e W' ⟨he, bel⟩ => ?_
  subst he
  exact ⟨_, rfl, _, _, _, [], _, [], hW', trodAll_mk1 (shut_bool Try.underlying4 _), (trodAll_cons_mk (Below.trod laidOut (by kernel_rfl) (of_decide_eq_true (by kernel_rfl)) k0 bel lt0) (trodAll_cons_mk (shut_int Try.underlying3 w1) (trodAll_cons_mk (shut_int Try.underlying3 w2) (trodAll_cons_mk (shut_int Try.underlying3 w3) (trodAll_cons_mk (shut_bool Try.underlying4 _) trodAll_mk0))))), rfl, bel.frame _, fun h => by cases h⟩

theorem over : Rows.cleanAgainRow.holds Try.pinned (OpenSpec.ofChange Rows.cleanAgainSpec) :=
  OpenClaim.holds_of_wide 6 Try.f6 rfl rfl rfl rfl rfl rfl rfl ⟨rfl, rfl, rfl, rfl, rfl⟩ rfl rfl rfl rfl rfl (by kernel_rfl) Try.func6 (by kernel_rfl)
    (of_decide_eq_true (by kernel_rfl)) (by unfold Func.isWrapper; first | (rw [if_pos (by decide +kernel)]; kernel_rfl) | (rw [if_neg (by decide +kernel)]; exact ⟨rfl, rfl⟩))
    (fun os started H enc _ => lifted os started H enc)

theorem proved : Rows.CleanAgainSaid := over
#print axioms proved
end Go.Proofs.Ytjblhfhfappmoaa.cleanAgain
