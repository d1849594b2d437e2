/- Proved: for every list l of segments, every Conf c and every int now, RetainDrops returns true. -/
import Derived.Test.YtoienjlpncphgaaRows
import Derived.WalkKit
import Derived.ProofKit
import Derived.OpenShut
import Derived.ShutString
import Derived.ChangeOld
import Derived.Below
import Derived.Test.YtoienjlpncphgaaCame
import Derived.Test.YtoienjlpncphgaaRetAlive
import Derived.Test.YtoienjlpncphgaaRDrop
import Derived.Test.YtoienjlpncphgaaSegsCame
namespace Go.Proofs.Ytoienjlpncphgaa.retainDrops
open Go.ChangeShapes Go.WideShapes Go.ChangeAt Go.RowKit
open Go.ChangeMaps (open_string shut_string)
set_option linter.unusedVariables false

theorem own : ownKnob Try.prog.godebug = none := by kernel_rfl
theorem laidOut : laidOutB Try.prog = true := by kernel_rfl

def IsRow (k : IntKind) (w : World) (a : Option Addr) (len cap : Nat) (zs : List Int) : Prop :=
  (a = none ∧ len = 0 ∧ cap = 0 ∧ zs = []) ∨
  ∃ x, a = some x ∧ len ≤ cap ∧ cap ≤ maxLen ∧ zs.length = cap ∧ (∀ i, i < zs.length → w.cell? (x.add i) = some (.int k (zs.getD i 0))) ∧ ∀ n ∈ zs, (Lit.int k n).wf = true

set_option maxHeartbeats 6400000 in
set_option maxRecDepth 4000 in
theorem walk (a0 : Option Addr) (cap0 : Nat) (z0 : List LSeg) (cs1 ck1 ca1 cg1 : Int) (a2 : Int) (w : World) (w0 : RowsLie segRep w (fun b => b < w.heap.size) a0 z0 cap0 ∧ ∀ m ∈ z0, m.wf) (w1 : (-9223372036854775808 ≤ cs1 ∧ cs1 ≤ 9223372036854775807) ∧ (-9223372036854775808 ≤ ck1 ∧ ck1 ≤ 9223372036854775807) ∧ (-9223372036854775808 ≤ ca1 ∧ ca1 ≤ 9223372036854775807) ∧ (-9223372036854775808 ≤ cg1 ∧ cg1 ≤ 9223372036854775807)) (w2 : (Lit.int .i64 a2).wf = true) :
    Calls Try.prog 3 #[.slice a0 z0.length cap0, .agg #[.int .i64 cs1, .int .i64 ck1, .int .i64 ca1, .int .i64 cg1], .int .i64 a2] w fun e w' => e = .returned (.bool true) ∧ Below w.heap.size w w' := by
  have HAL := Lib.hid (fun W => alive14_any W)
  obtain ⟨hl0, hwf0⟩ := w0
  have b2 := bounds_i64 w2
  have hcl := hl0.2.1
  have hcm := hl0.2.2
  unfold maxLen at hcm
  have hb0 : Below w.heap.size w (w.alloc (.cells #[.int .i64 cs1, .int .i64 ck1, .int .i64 ca1, .int .i64 cg1] 24)) := (Below.refl _ _).alloc (Nat.le_refl _) _
  have hg0 : (w.alloc (.cells #[.int .i64 cs1, .int .i64 ck1, .int .i64 ca1, .int .i64 cg1] 24)).heap[w.heap.size]? = some (.cells #[.int .i64 cs1, .int .i64 ck1, .int .i64 ca1, .int .i64 cg1] 24) := heap_alloc_new _ _
  have H0 := Lib.hid (And.intro hb0 (And.intro hg0 (show (w.alloc (.cells #[.int .i64 cs1, .int .i64 ck1, .int .i64 ca1, .int .i64 cg1] 24)).heap.size = w.heap.size + 1 by simp)))
  have HVD := Lib.hid (fun (W : World) (hb : Below w.heap.size w W) (hl : z0.length ≤ 1000000000) => vdrop_any W (fun b => b < w.heap.size) z0 a0 cap0 (hl0.below hb fun _ h => h) (fun _ h => Nat.lt_of_lt_of_le h hb.size) hwf0 cs1 ck1 ca1 cg1 a2 w1.2.1.2 w1.2.2.1.2 b2 hl)
  have HRD := Lib.hid (fun (W : World) (hb : Below w.heap.size w W) (hl : z0.length ≤ 1000000000) => refdrop_any W (fun b => b < w.heap.size) z0 a0 cap0 (hl0.below hb fun _ h => h) (fun _ h => Nat.lt_of_lt_of_le h hb.size) hwf0 cs1 ck1 ca1 cg1 a2 w1.2.1.2 w1.2.2.1 b2 hl)
  have HC0 := Lib.hid (fun (W : World) (h : W.heap[w.heap.size]? = some (.cells #[.int .i64 cs1, .int .i64 ck1, .int .i64 ca1, .int .i64 cg1] 24)) => show W.cell? ⟨w.heap.size, 0, none⟩ = some (.int .i64 cs1) ∧ W.cell? ⟨w.heap.size, 1, none⟩ = some (.int .i64 ck1) ∧ W.cell? ⟨w.heap.size, 2, none⟩ = some (.int .i64 ca1) ∧ W.cell? ⟨w.heap.size, 3, none⟩ = some (.int .i64 cg1) from ⟨by unfold World.cell?; rw [h]; rfl, by unfold World.cell?; rw [h]; rfl, by unfold World.cell?; rw [h]; rfl, by unfold World.cell?; rw [h]; rfl⟩)
  clear hl0 hwf0 b2 w1 w2 hb0 hg0
  go_enter Try.func3, Try.ntmps3
  go_wp2_with fail
  refine (HAL.out _).mono ?_
  rintro e w3 ⟨rfl, hb1⟩
  have HB3 := Lib.hid (H0.out.1.trans (hb1.mono (by rw [H0.out.2.2]; omega)))
  have HG3 : Hid (w3.heap[w.heap.size]? = some (.cells #[.int .i64 cs1, .int .i64 ck1, .int .i64 ca1, .int .i64 cg1] 24)) := Lib.hid ((hb1.block _ (by rw [H0.out.2.2]; omega)).trans H0.out.2.1)
  clear hb1 HAL H0
  by_cases hbig : 50 < z0.length
  · have q1 : decide ((50 : Int) < (z0.length : Int)) = true := decide_eq_true (by omega)
    clear HVD HRD
    go_wp2_with fail
    go_quiet (fail)
    go_wp2_with fail
    go_ret
    exact ⟨rfl, below_dr HB3.out _⟩
  · have q1 : decide ((50 : Int) < (z0.length : Int)) = false := decide_eq_false (by omega)
    have HV := Lib.hid (fun W hb => HVD.out W hb (by omega))
    have HR := Lib.hid (fun W hb => HRD.out W hb (by omega))
    generalize dropL ck1 ca1 a2 z0 = D at HV HR
    have hbb : ((D : Int) == (D : Int)) = true := by simp
    clear HVD HRD
    go_wp2_with fail
    refine wp_region_held_drew (S := fun W => Below w.heap.size w W ∧ W.heap[w.heap.size]? = some (.cells #[.int .i64 cs1, .int .i64 ck1, .int .i64 ca1, .int .i64 cg1] 24)) (by kernel_rfl) ⟨?_, ?_⟩ (fun hHeld => ?_)
    · exact below_dr HB3.out 1
    · exact HG3.out
    refine held_take 0 9 (v := ?v101) rfl rfl (by kernel_rfl) (by kernel_rfl) (by kernel_rfl) (fun _ _ _ h => h) hHeld (Or.inl ⟨by rfl, ?y101⟩) ?r101
    case y101 => intro W hSw; go_simp; (try with_reducible rfl)
    simp only [List.setIfInBounds_toArray, List.set_cons_zero, List.set_cons_succ]
    refine held_take 1 10 (v := ?v102) rfl rfl (by kernel_rfl) (by kernel_rfl) (by kernel_rfl) (fun _ _ _ h => h) hHeld (Or.inl ⟨by rfl, ?y102⟩) ?r102
    case y102 => intro W hSw; go_simp; (try with_reducible rfl)
    simp only [List.setIfInBounds_toArray, List.set_cons_zero, List.set_cons_succ]
    refine held_take 2 11 (v := ?v103) rfl rfl (by kernel_rfl) (by kernel_rfl) (by kernel_rfl) (fun _ _ _ h => h) hHeld (Or.inl ⟨by rfl, ?y103⟩) ?r103
    case y103 => intro W hSw; go_simp; (try with_reducible rfl)
    simp only [List.setIfInBounds_toArray, List.set_cons_zero, List.set_cons_succ]
    refine held_take 3 12 (v := ?v104) rfl rfl (by kernel_rfl) (by kernel_rfl) (by kernel_rfl) (fun _ _ _ h => h) hHeld (Or.inl ⟨by rfl, ?y104⟩) ?r104
    case y104 => intro W hSw; go_simp; (try with_reducible rfl)
    simp only [List.setIfInBounds_toArray, List.set_cons_zero, List.set_cons_succ]
    refine held_take 4 13 (v := ?v105) rfl rfl (by kernel_rfl) (by kernel_rfl) (by kernel_rfl) (fun _ _ _ h => h) hHeld (Or.inl ⟨by rfl, ?y105⟩) ?r105
    case y105 => intro W hSw; go_simp; (try with_reducible rfl)
    simp only [List.setIfInBounds_toArray, List.set_cons_zero, List.set_cons_succ]
    refine held_take 5 14 (v := ?v106) rfl rfl (by kernel_rfl) (by kernel_rfl) (by kernel_rfl) (fun _ _ _ h => h) hHeld (Or.inl ⟨by rfl, ?y106⟩) ?r106
    case y106 => intro W hSw; go_simp; (try with_reducible rfl)
    simp only [List.setIfInBounds_toArray, List.set_cons_zero, List.set_cons_succ]
    refine held_take 6 15 (v := ?v107) rfl rfl (by kernel_rfl) (by kernel_rfl) (by kernel_rfl) (fun _ _ _ h => h) hHeld (Or.inl ⟨by rfl, ?y107⟩) ?r107
    case y107 => intro W hSw; go_simp; (try with_reducible rfl)
    simp only [List.setIfInBounds_toArray, List.set_cons_zero, List.set_cons_succ]
    refine held_take 7 16 (v := ?v108) rfl rfl (by kernel_rfl) (by kernel_rfl) (by kernel_rfl) (fun _ _ _ h => h) hHeld (Or.inl ⟨by rfl, ?y108⟩) ?r108
    case y108 => intro W hSw; obtain ⟨s0, s1, s2, s3⟩ := HC0.out W hSw.2; go_simp; (try with_reducible rfl)
    simp only [List.setIfInBounds_toArray, List.set_cons_zero, List.set_cons_succ]
    refine held_take 8 17 (v := ?v109) rfl rfl (by kernel_rfl) (by kernel_rfl) (by kernel_rfl) (fun _ _ _ h => h) hHeld (Or.inl ⟨by rfl, ?y109⟩) ?r109
    case y109 => intro W hSw; go_simp; (try with_reducible rfl)
    simp only [List.setIfInBounds_toArray, List.set_cons_zero, List.set_cons_succ]
    refine held_take 10 19 (v := ?v110) rfl rfl (by kernel_rfl) (by kernel_rfl) (by kernel_rfl) (fun _ _ _ h => h) hHeld (Or.inl ⟨by rfl, ?y110⟩) ?r110
    case y110 => intro W hSw; go_simp; (try with_reducible rfl)
    simp only [List.setIfInBounds_toArray, List.set_cons_zero, List.set_cons_succ]
    refine held_take 11 20 (v := ?v111) rfl rfl (by kernel_rfl) (by kernel_rfl) (by kernel_rfl) (fun _ _ _ h => h) hHeld (Or.inl ⟨by rfl, ?y111⟩) ?r111
    case y111 => intro W hSw; obtain ⟨s0, s1, s2, s3⟩ := HC0.out W hSw.2; go_simp; (try with_reducible rfl)
    simp only [List.setIfInBounds_toArray, List.set_cons_zero, List.set_cons_succ]
    refine held_take 12 21 (v := ?v112) rfl rfl (by kernel_rfl) (by kernel_rfl) (by kernel_rfl) (fun _ _ _ h => h) hHeld (Or.inl ⟨by rfl, ?y112⟩) ?r112
    case y112 => intro W hSw; go_simp; (try with_reducible rfl)
    simp only [List.setIfInBounds_toArray, List.set_cons_zero, List.set_cons_succ]
    refine wpAnyH_ready (rs := [9]) (by kernel_rfl) (by simp) ?_
    refine AllReadyH.cons rfl (fun K hK => ?_) AllReadyH.nil
    go_simp
    refine (HV.out w3.drew (below_dr HB3.out 1)).mono ?_
    rintro e w4 ⟨rfl, hbx⟩
    have HBw4 := Lib.hid ((below_dr HB3.out 1).trans (hbx.mono (below_dr HB3.out 1).size))
    have HGw4 : Hid (w4.heap[w.heap.size]? = some (.cells #[.int .i64 cs1, .int .i64 ck1, .int .i64 ca1, .int .i64 cg1] 24)) := Lib.hid ((hbx.block _ (Array.getElem?_eq_some_iff.1 (show w3.drew.heap[w.heap.size]? = _ from HG3.out)).1).trans (show w3.drew.heap[w.heap.size]? = _ from HG3.out))
    clear hbx HV hHeld
    refine hK.out _ _ ⟨HBw4.out, HGw4.out⟩ (fun _ => ?_)
    clear hK K
    have hHeld := And.intro HBw4.out HGw4.out
    refine wpAnyH_ready (rs := [13]) (by kernel_rfl) (by simp) ?_
    refine AllReadyH.cons rfl (fun K hK => ?_) AllReadyH.nil
    go_simp
    refine (HR.out w4 (HBw4.out)).mono ?_
    rintro e w5 ⟨rfl, hbx⟩
    have HBw5 := Lib.hid ((HBw4.out).trans (hbx.mono (HBw4.out).size))
    have HGw5 : Hid (w5.heap[w.heap.size]? = some (.cells #[.int .i64 cs1, .int .i64 ck1, .int .i64 ca1, .int .i64 cg1] 24)) := Lib.hid ((hbx.block _ (Array.getElem?_eq_some_iff.1 (HGw4.out)).1).trans (HGw4.out))
    clear hbx HR hHeld
    refine hK.out _ _ ⟨HBw5.out, HGw5.out⟩ (fun _ => ?_)
    clear hK K
    have hHeld := And.intro HBw5.out HGw5.out
    refine held_take 14 23 (v := ?v113) rfl rfl (by kernel_rfl) (by kernel_rfl) (by kernel_rfl) (fun _ _ _ h => h) hHeld (Or.inl ⟨by rfl, ?y113⟩) ?r113
    case y113 => intro W hSw; go_simp; (try with_reducible rfl)
    simp only [List.setIfInBounds_toArray, List.set_cons_zero, List.set_cons_succ]
    refine held_take 15 24 (v := ?v114) rfl rfl (by kernel_rfl) (by kernel_rfl) (by kernel_rfl) (fun _ _ _ h => h) hHeld (Or.inl ⟨by rfl, ?y114⟩) ?r114
    case y114 => intro W hSw; go_simp; (try with_reducible rfl)
    simp only [List.setIfInBounds_toArray, List.set_cons_zero, List.set_cons_succ]
    refine held_take 16 25 (v := ?v115) rfl rfl (by kernel_rfl) (by kernel_rfl) (by kernel_rfl) (fun _ _ _ h => h) hHeld (Or.inl ⟨by rfl, ?y115⟩) ?r115
    case y115 => intro W hSw; go_simp; (try with_reducible rfl)
    simp only [List.setIfInBounds_toArray, List.set_cons_zero, List.set_cons_succ]
    refine held_take 17 6 (v := ?v116) rfl rfl (by kernel_rfl) (by kernel_rfl) (by kernel_rfl) (fun _ _ _ h => h) hHeld (Or.inl ⟨by rfl, ?y116⟩) ?r116
    case y116 => intro W hSw; go_simp; (try with_reducible rfl)
    simp only [List.setIfInBounds_toArray, List.set_cons_zero, List.set_cons_succ]
    refine wpAnyH_done (by kernel_rfl) ?_ _
    clear hHeld
    go_wp2
    go_ret
    exact ⟨rfl, HBw5.out⟩

set_option maxRecDepth 100000 in
theorem lifted (os : Os) (started : os.Started) (H : Type) (enc : TypeId × Value → H) :
    ReturnsInHanded {} Try.checked os 3 .any (Rows.retainDropsSpec.pre6 enc Try.prog Try.f3 Rows.retainDropsRow.domain false) (Rows.retainDropsSpec.post enc Try.prog Try.f3 false true false false) := by
  refine returnsInHanded_of_change (C := Try.checked) own started (by kernel_rfl) Try.func3
    (ChangeSpec.witness6 (enc := enc) (C := Try.checked) false ⟨#[], #[.slice none 0 0, .agg #[.int .i64 0, .int .i64 0, .int .i64 0, .int .i64 0], .int .i64 0], []⟩ 8 (by kernel_rfl) (by kernel_rfl) (by kernel_rfl) (by kernel_rfl)) ?_
  intro W base args ds gs before hval0 hW hcnd _
  have hval : ∀ (j : Nat) t v, Try.f3.params[j]? = some t → args[j]? = some v → Value.okWide Try.prog W .any base t v := hval0
  have hW' := hW
  obtain ⟨p, q, hA0, hV, rfl, hfz, hnd⟩ := hW
  have hA : DataW.TrodAll enc Try.prog W 0 (fun _ => true) true Try.f3.params.toList args.toList ds p := hA0
  rw [Try.params3] at hA hval
  obtain ⟨v0, vs0, d0, ds0, p0, q0, hargs, rfl, rfl, h0, r0⟩ := trodAll_cons hA
  obtain ⟨v1, vs1, d1, ds1, p1, q1, rfl, rfl, rfl, h1, r1⟩ := trodAll_cons r0
  obtain ⟨v2, vs2, d2, ds2, p2, q2, rfl, rfl, rfl, h2, r2⟩ := trodAll_cons r1
  obtain ⟨rfl, rfl, rfl⟩ := trodAll_nil r2
  obtain rfl : args = #[v0, v1, v2] := by cases args; simp_all
  obtain ⟨rfl, rfl⟩ := trodVars_none hV
  have k0 := h0
  have lt0 : ∀ x ∈ p0, x.block < W.heap.size := by obtain ⟨m, hm⟩ := k0; exact DataW.trod_lt m _ _ _ hm
  obtain ⟨a0, cap0, z0, rfl, w0⟩ := segs_came (hval 0 22 v0 rfl rfl) h0
  have k1 := h1
  have lt1 : ∀ x ∈ p1, x.block < W.heap.size := by obtain ⟨m, hm⟩ := k1; exact DataW.trod_lt m _ _ _ hm
  obtain ⟨cs1, ck1, ca1, cg1, rfl, w1⟩ := conf_came (hval 1 24 v1 rfl rfl) h1
  obtain ⟨a2, rfl, rfl, rfl, w2⟩ := open_int Try.underlying3 (hval 2 3 v2 rfl rfl) h2
  clear hA0 hval0
  refine (walk a0 cap0 z0 cs1 ck1 ca1 cg1 a2 W w0 w1 w2).mono fun e W' ⟨he, bel⟩ => ?_
  subst he
  exact ⟨_, rfl, _, _, _, [], _, [], hW', trodAll_mk1 (shut_bool Try.underlying4 _), (trodAll_cons_mk (Below.trod laidOut (by kernel_rfl) (of_decide_eq_true (by kernel_rfl)) k0 bel lt0) (trodAll_cons_mk (Below.trod laidOut (by kernel_rfl) (of_decide_eq_true (by kernel_rfl)) k1 bel lt1) (trodAll_cons_mk (shut_int Try.underlying3 w2) trodAll_mk0))), rfl, bel.frame _, fun h => by cases h⟩

theorem over : Rows.retainDropsRow.holds Try.pinned (OpenSpec.ofChange Rows.retainDropsSpec) :=
  OpenClaim.holds_of_wide 3 Try.f3 rfl rfl rfl rfl rfl rfl rfl ⟨rfl, rfl, rfl, rfl, rfl⟩ rfl rfl rfl rfl rfl (by kernel_rfl) Try.func3 (by kernel_rfl)
    (of_decide_eq_true (by kernel_rfl)) (by unfold Func.isWrapper; first | (rw [if_pos (by decide +kernel)]; kernel_rfl) | (rw [if_neg (by decide +kernel)]; exact ⟨rfl, rfl⟩))
    (fun os started H enc _ => lifted os started H enc)

theorem proved : Rows.RetainDropsSaid := over
#print axioms proved
end Go.Proofs.Ytoienjlpncphgaa.retainDrops
