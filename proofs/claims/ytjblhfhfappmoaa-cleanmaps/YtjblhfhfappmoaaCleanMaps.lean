/- Proved: for every list l of records, list of gaps, point, time, grace and choice, CleanMaps returns true. -/
import Derived.Test.YtjblhfhfappmoaaRows
import Derived.WalkKit
import Derived.ProofKit
import Derived.OpenShut
import Derived.ShutString
import Derived.ChangeOld
import Derived.Below
import Derived.Test.YtjblhfhfappmoaaCame
import Derived.Test.YtjblhfhfappmoaaClnProg
import Derived.Test.YtjblhfhfappmoaaClnAlive
import Derived.Test.YtjblhfhfappmoaaCleanRise
import Derived.Test.YtjblhfhfappmoaaSegBig
import Derived.Test.YtjblhfhfappmoaaRKeep
namespace Go.Proofs.Ytjblhfhfappmoaa.cleanMaps
open Go.ChangeShapes Go.WideShapes Go.ChangeAt Go.RowKit
open Go.ChangeMaps (open_string shut_string)
set_option linter.unusedVariables false

theorem own : ownKnob Try.prog.godebug = none := by kernel_rfl
theorem laidOut : laidOutB Try.prog = true := by kernel_rfl

def IsRow (k : IntKind) (w : World) (a : Option Addr) (len cap : Nat) (zs : List Int) : Prop :=
  (a = none ∧ len = 0 ∧ cap = 0 ∧ zs = []) ∨
  ∃ x, a = some x ∧ len ≤ cap ∧ cap ≤ maxLen ∧ zs.length = cap ∧ (∀ i, i < zs.length → w.cell? (x.add i) = some (.int k (zs.getD i 0))) ∧ ∀ n ∈ zs, (Lit.int k n).wf = true

set_option maxHeartbeats 6400000 in
theorem walk (a0 : Option Addr) (cap0 : Nat) (z0 : List Rec) (a1 : Option Addr) (len1 cap1 : Nat) (z1 : List Int) (a2 : Int) (a3 : Int) (a4 : Int) (a5 : Bool) (w : World) (w0 : RecsLie w a0 z0 cap0) (w1 : IsRow .i64 w a1 len1 cap1 z1) (w2 : (Lit.int .i64 a2).wf = true) (w3 : (Lit.int .i64 a3).wf = true) (w4 : (Lit.int .i64 a4).wf = true) :
    Calls Try.prog 4 #[.slice a0 z0.length cap0, .slice a1 len1 cap1, .int .i64 a2, .int .i64 a3, .int .i64 a4, .bool a5] w fun e w' => e = .returned (.bool true) ∧ Below w.heap.size w w' := by
  have HAL := Lib.hid (alive13_any w)
  obtain ⟨gs, rfl, hg1, hg2, hgl, _, _⟩ := row_came w1
  have b2 := bounds_i64 w2
  have b3 := bounds_i64 w3
  have b4 := bounds_i64 w4
  have HL := Lib.hid w0
  have HGL := Lib.hid hgl
  have hcl := w0.2.1
  have hcm := w0.2.2.1
  unfold maxLen at hcm
  have HG := Lib.hid (And.intro hg1 hg2)
  have hg3 := hg2
  unfold maxLen at hg3
  have HBD := Lib.hid (And.intro b2 (And.intro b3 b4))
  clear w0 w1 w2 w3 w4 b2 b3 b4 hg2 hgl
  go_enter Try.func4, Try.ntmps4
  go_wp2_with fail
  refine HAL.out.mono ?_
  rintro e w1 ⟨rfl, hb1⟩
  have HB1 := Lib.hid hb1
  have HBIG := Lib.hid (big_any w w1 a0 z0 cap0 HL.out hb1)
  clear HAL hb1
  go_wp2_with fail
  refine HBIG.out.mono ?_
  rintro e w2 ⟨rfl, r, rfl, hsm⟩
  clear HBIG
  cases r with
  | true =>
    clear hsm
    go_wp2_with fail
    go_ret
    exact ⟨rfl, HB1.out⟩
  | false =>
    have hs := hsm rfl
    have hz : z0.length ≤ 60 := hs.1
    clear hsm hs
    by_cases hgz : gs.length < z0.length
    · have q1 : decide (gs.length < z0.length) = true := decide_eq_true hgz
      go_wp2_with fail
      go_ret
      exact ⟨rfl, HB1.out⟩
    · have q1 : decide (gs.length < z0.length) = false := decide_eq_false hgz
      have hgle : z0.length ≤ gs.length := by omega
      have HR := Lib.hid (rise_any w2 z0 a0 cap0 (HL.out.below HB1.out (Nat.le_refl _)) gs a1 cap1 ((HGL.out.below HB1.out).more HB1.out.size) hg1 HG.out.2 hgle (by omega))
      have HRW := Lib.hid (rise_wf 0 z0 gs (by omega) (by omega) HL.out.2.2.2)
      have HRO := Lib.hid (rise_over 0 z0 gs).1
      have hrl := rise_length 0 z0 gs hgle
      have hrz : (riseL 0 z0 gs).length ≤ 60 := by omega
      clear hrl
      obtain ⟨R, hR⟩ : ∃ R, riseL 0 z0 gs = R := ⟨_, rfl⟩
      rw [hR] at HR HRW HRO hrz
      clear hR hgz hgle
      go_wp2_with fail
      refine HR.out.mono ?_
      rintro e w3 ⟨v3, rfl, ho3, hb3⟩
      obtain ⟨B, c, rfl, hl3, _⟩ := ho3.parts HRW.out
      have HB3 := Lib.hid (HB1.out.trans (hb3.mono HB1.out.size))
      have HL3 := Lib.hid hl3
      have HM := Lib.hid (vmap13_any w3 R B c hl3 (by omega))
      have HMW : Hid (∀ r ∈ mapL R, r.wf) := Lib.hid fun r hr => HRW.out r ((last_key (((map_tells R).2 r).mp hr).1).2)
      have HKW : Hid (∀ r ∈ keepL a2 a3 a4 a5 R, r.wf) := Lib.hid fun r hr => HRW.out r (keep_sub _ r hr)
      have HKL := Lib.hid (keep_length (point := a2) (now := a3) (grace := a4) (dead := a5) R)
      have HE := Lib.hid (map_keep (point := a2) (now := a3) (grace := a4) (dead := a5) HRO.out)
      have hc3 := hl3.2.1
      have hc4 := hl3.2.2.1
      unfold maxLen at hc4
      clear ho3 hb3 hl3 HR HB1
      go_wp2_with fail
      refine HM.out.mono ?_
      rintro e w4 ⟨v4, rfl, ho4, hb4⟩
      obtain ⟨B4, c4, rfl, hl4, _⟩ := ho4.parts HMW.out
      have HB4 := Lib.hid (HB3.out.trans (hb4.mono HB3.out.size))
      have HL4 := Lib.hid hl4
      have HK := Lib.hid (vkeep13_any w4 R B c (HL3.out.below hb4 (Nat.le_refl _)) a2 a3 a4 a5 HBD.out.1 HBD.out.2.1 HBD.out.2.2 (by omega))
      have hc5 := hl4.2.1
      have hc6 := hl4.2.2.1
      unfold maxLen at hc6
      clear ho4 hb4 hl4 HM HB3
      go_wp2_with fail
      refine HK.out.mono ?_
      rintro e w5 ⟨v5, rfl, ho5, hb5⟩
      obtain ⟨B5, c5, rfl, hl5, _⟩ := ho5.parts HKW.out
      have HB5 := Lib.hid (HB4.out.trans (hb5.mono HB4.out.size))
      have HL5 := Lib.hid (HL4.out.below hb5 (Nat.le_refl _))
      have HM2 := Lib.hid (vmap13_any w5 _ B5 c5 hl5 (by have := HKL.out; omega))
      rw [HE.out] at HM2
      have hc7 := hl5.2.1
      have hc8 := hl5.2.2.1
      unfold maxLen at hc8
      clear ho5 hb5 hl5 HK HB4 HL4 HKW HE
      obtain ⟨K, hK⟩ : ∃ K, keepL a2 a3 a4 a5 R = K := ⟨_, rfl⟩
      rw [hK] at hc7 HM2 HKL ⊢
      clear hK
      go_wp2_with fail
      refine HM2.out.mono ?_
      rintro e w6 ⟨v6, rfl, ho6, hb6⟩
      obtain ⟨B6, c6, rfl, hl6, _⟩ := ho6.parts HMW.out
      have HB6 := Lib.hid (HB5.out.trans (hb6.mono HB5.out.size))
      have HL6 := Lib.hid (HL5.out.below hb6 (Nat.le_refl _))
      have HL7 := Lib.hid hl6
      have hc9 := hl6.2.1
      have hc10 := hl6.2.2.1
      unfold maxLen at hc10
      clear ho6 hb6 hl6 HM2 HB5 HL5 HMW
      obtain ⟨M, hM⟩ : ∃ M, mapL R = M := ⟨_, rfl⟩
      rw [hM] at hc5 hc9 HL6 HL7 ⊢
      clear hM
      have q2 : ((M.length : Int) != (M.length : Int)) = false := by simp
      go_wp2_with fail
      go_loopw [18] (fun iv wr => ∃ (i m : Nat), iv = .int .i64 i ∧ i ≤ M.length ∧ wr = w6.drewN m) (fun iv _ => M.length - (intOf iv).toNat)
      case atStart => exact ⟨0, 0, rfl, Nat.zero_le _, rfl⟩
      case round =>
        obtain ⟨i, m, rfl, hi, rfl⟩ := hrel
        by_cases hlt : i < M.length
        · obtain ⟨b1, o1, rfl, _, k1⟩ := HL6.out.more hlt
          obtain ⟨b2, o2, rfl, _, k2⟩ := HL7.out.more hlt
          obtain ⟨x0, x1, x2, x3, x4⟩ : RecAt (w6.drewN m) b1 (o1 + i * 5) M[i] := k1
          obtain ⟨y0, y1, y2, y3, y4⟩ : RecAt (w6.drewN m) b2 (o2 + i * 5) M[i] := k2
          obtain ⟨km, hkm⟩ : ∃ n, M[i].key = n := ⟨_, rfl⟩
          obtain ⟨vm, hvm⟩ : ∃ n, M[i].val = n := ⟨_, rfl⟩
          rw [hkm] at x2 y2
          rw [hvm] at x3 y3
          have sk : (km.toList != km.toList) = false := by simp
          have sv : (vm.toList != vm.toList) = false := by simp
          have HW := Lib.hid (fun n => World.drewN_drewN w6 m n)
          clear x0 x1 x4 y0 y1 y4 hkm hvm
          generalize w6.drewN m = W0 at *
          go_wp2_with fail
          go_quiet (fail)
          go_wp2
          go_roundw
          case rel => exact ⟨i + 1, m + nq, by go_num, by omega, HW.out nq⟩
          case measure => simp [intOf]; omega
        · obtain rfl : i = M.length := by omega
          go_wp2_with fail
          go_ret
          exact ⟨rfl, below_more HB6.out m⟩

set_option maxRecDepth 100000 in
theorem lifted (os : Os) (started : os.Started) (H : Type) (enc : TypeId × Value → H) :
    ReturnsInHanded {} Try.checked os 4 .any (Rows.cleanMapsSpec.pre6 enc Try.prog Try.f4 Rows.cleanMapsRow.domain false) (Rows.cleanMapsSpec.post enc Try.prog Try.f4 false true false false) := by
  refine returnsInHanded_of_change (C := Try.checked) own started (by kernel_rfl) Try.func4
    (ChangeSpec.witness6 (enc := enc) (C := Try.checked) false ⟨#[], #[.slice none 0 0, .slice none 0 0, .int .i64 0, .int .i64 0, .int .i64 0, .bool false], []⟩ 8 (by kernel_rfl) (by kernel_rfl) (by kernel_rfl) (by kernel_rfl)) ?_
  intro W base args ds gs before hval0 hW hcnd _
  have hval : ∀ (j : Nat) t v, Try.f4.params[j]? = some t → args[j]? = some v → Value.okWide Try.prog W .any base t v := hval0
  have hW' := hW
  obtain ⟨p, q, hA0, hV, rfl, hfz, hnd⟩ := hW
  have hA : DataW.TrodAll enc Try.prog W 0 (fun _ => true) true Try.f4.params.toList args.toList ds p := hA0
  rw [Try.params4] at hA hval
  obtain ⟨v0, vs0, d0, ds0, p0, q0, hargs, rfl, rfl, h0, r0⟩ := trodAll_cons hA
  obtain ⟨v1, vs1, d1, ds1, p1, q1, rfl, rfl, rfl, h1, r1⟩ := trodAll_cons r0
  obtain ⟨v2, vs2, d2, ds2, p2, q2, rfl, rfl, rfl, h2, r2⟩ := trodAll_cons r1
  obtain ⟨v3, vs3, d3, ds3, p3, q3, rfl, rfl, rfl, h3, r3⟩ := trodAll_cons r2
  obtain ⟨v4, vs4, d4, ds4, p4, q4, rfl, rfl, rfl, h4, r4⟩ := trodAll_cons r3
  obtain ⟨v5, vs5, d5, ds5, p5, q5, rfl, rfl, rfl, h5, r5⟩ := trodAll_cons r4
  obtain ⟨rfl, rfl, rfl⟩ := trodAll_nil r5
  obtain rfl : args = #[v0, v1, v2, v3, v4, v5] := by cases args; simp_all
  obtain ⟨rfl, rfl⟩ := trodVars_none hV
  have k0 := h0
  have lt0 : ∀ x ∈ p0, x.block < W.heap.size := by obtain ⟨m, hm⟩ := k0; exact DataW.trod_lt m _ _ _ hm
  obtain ⟨a0, cap0, z0, rfl, w0⟩ := recs_came (hval 0 22 v0 rfl rfl) h0
  obtain ⟨a1, len1, cap1, rfl⟩ := okWide_slice Try.underlying29 (hval 1 29 v1 rfl rfl)
  have k1 := h1
  have lt1 : ∀ x ∈ p1, x.block < W.heap.size := by obtain ⟨m, hm⟩ := k1; exact DataW.trod_lt m _ _ _ hm
  obtain ⟨z1, w1⟩ : ∃ zs, IsRow .i64 W a1 len1 cap1 zs := by
    obtain ⟨fuel, hf⟩ := h1
    rcases open_ints Try.underlying29 Try.underlying3 (by kernel_rfl) hf with ⟨hcs, _⟩ | ⟨x, l, c, zs, hcs, _, hl, hm, hz, _, hcell, hwz⟩
    · simp [Value.cells] at hcs
      obtain ⟨rfl, rfl, rfl⟩ := hcs
      exact ⟨[], .inl ⟨rfl, rfl, rfl, rfl⟩⟩
    · simp [Value.cells] at hcs
      obtain ⟨rfl, rfl, rfl⟩ := hcs
      exact ⟨zs, .inr ⟨_, rfl, hl, hm, by simpa using hz, hcell, hwz⟩⟩
  obtain ⟨a2, rfl, rfl, rfl, w2⟩ := open_int Try.underlying3 (hval 2 3 v2 rfl rfl) h2
  obtain ⟨a3, rfl, rfl, rfl, w3⟩ := open_int Try.underlying3 (hval 3 3 v3 rfl rfl) h3
  obtain ⟨a4, rfl, rfl, rfl, w4⟩ := open_int Try.underlying3 (hval 4 3 v4 rfl rfl) h4
  obtain ⟨a5, rfl, rfl, rfl⟩ := open_bool Try.underlying4 (hval 5 4 v5 rfl rfl) h5
  clear hA0 hval0
  refine (walk a0 cap0 z0 a1 len1 cap1 z1 a2 a3 a4 a5 W w0 w1 w2 w3 w4).mono fun e W' ⟨he, bel⟩ => ?_
  subst he
  exact ⟨_, rfl, _, _, _, [], _, [], hW', trodAll_mk1 (shut_bool Try.underlying4 _), (trodAll_cons_mk (Below.trod laidOut (by kernel_rfl) (of_decide_eq_true (by kernel_rfl)) k0 bel lt0) (trodAll_cons_mk (Below.trod laidOut (by kernel_rfl) (of_decide_eq_true (by kernel_rfl)) k1 bel lt1) (trodAll_cons_mk (shut_int Try.underlying3 w2) (trodAll_cons_mk (shut_int Try.underlying3 w3) (trodAll_cons_mk (shut_int Try.underlying3 w4) (trodAll_cons_mk (shut_bool Try.underlying4 _) trodAll_mk0)))))), rfl, bel.frame _, fun h => by cases h⟩

theorem over : Rows.cleanMapsRow.holds Try.pinned (OpenSpec.ofChange Rows.cleanMapsSpec) :=
  OpenClaim.holds_of_wide 4 Try.f4 rfl rfl rfl rfl rfl rfl rfl ⟨rfl, rfl, rfl, rfl, rfl⟩ rfl rfl rfl rfl rfl (by kernel_rfl) Try.func4 (by kernel_rfl)
    (of_decide_eq_true (by kernel_rfl)) (by unfold Func.isWrapper; first | (rw [if_pos (by decide +kernel)]; kernel_rfl) | (rw [if_neg (by decide +kernel)]; exact ⟨rfl, rfl⟩))
    (fun os started H enc _ => lifted os started H enc)

theorem proved : Rows.CleanMapsSaid := over
#print axioms proved
end Go.Proofs.Ytjblhfhfappmoaa.cleanMaps
