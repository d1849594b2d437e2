/- For every number x of 64 bits the law VarintLong answers true, and its argument reads as before. No condition. -/
import Derived.Test.YtcdhbmjobahoiaaRows
import Derived.WalkKit
import Derived.ProofKit
import Derived.OpenShut
import Derived.ShutString
import Derived.Below
import Derived.Test.YtcdhbmjobahoiaaPut
import Derived.Test.YtcdhbmjobahoiaaGet
import Derived.Test.YtcdhbmjobahoiaaCame
namespace Go.Proofs.Ytcdhbmjobahoiaa.varintLong
open Go.ChangeShapes Go.WideShapes Go.ChangeAt Go.RowKit
open Go.ChangeMaps (open_string shut_string)
set_option linter.unusedVariables false

theorem own : ownKnob Try.prog.godebug = none := by kernel_rfl

set_option maxHeartbeats 800000 in
theorem walk (a0 : Int) (w0 : (Lit.int .u64 a0).wf = true) (w : World) :
    Calls Try.prog 6 #[.int .u64 a0] w fun e w' => e = .returned (.bool true) ∧ Below w.heap.size w w' := by
  obtain ⟨x0, x1⟩ := bounds_u64 w0
  clear w0
  have hst := Lib.hid (PutAt.start [] a0 x1)
  have hlen := putL_length a0
  have hshort := Lib.hid (getR_short a0 x0)
  have hby : IsBytes (putL a0) := putL_range a0 x0 x1
  go_enter Try.func6, Try.ntmps6
  go_wp2_with fail
  refine (alive_any w).mono ?_
  rintro e w1 ⟨rfl, hbel⟩
  go_wp2_with fail
  refine (put_nil a0 w1 x0 x1).mono ?_
  rintro e w2 ⟨v, rfl, hown, hbel2⟩
  obtain ⟨A, c, rfl, hc, hm, hl⟩ := hown.parts
  have hb2 : Below w.heap.size w w2 := hbel.trans (hbel2.mono hbel.size)
  clear hown hbel2
  rw [List.nil_append] at hst
  obtain ⟨zs, hzs⟩ : ∃ zs, putL a0 = zs := ⟨_, rfl⟩
  rw [hzs] at hst hlen hshort hby hl hc ⊢
  clear hzs
  unfold maxLen at hm
  go_wp2_with fail
  go_loop [5, 6] (fun nv yv => ∃ (y : Int) (pre : List Int), nv = .int .i64 ((pre.length : Int) + 1) ∧ yv = .int .u64 (y / 128) ∧ 0 ≤ y ∧ y ≤ 18446744073709551615 ∧ PutAt zs pre y)
    (fun _ yv => (intOf yv).toNat)
  case atStart => exact ⟨a0, [], rfl, rfl, x0, x1, hst.out⟩
  case round =>
    obtain ⟨y, pre, rfl, rfl, hy0, hy1, hat⟩ := hrel
    have hpl := hat.len
    by_cases hbig : 128 ≤ y
    · have hst2 := hat.step hbig
      have h0 : 0 < y / 128 := by omega
      go_wp2
      go_round
      case rel => exact ⟨y / 128, pre ++ [y % 128 + 128], by simp, rfl, by omega, by omega, hst2⟩
      case measure => simp [intOf]; omega
    · have hz : zs.length = pre.length + 1 := by rw [← hat.done (by omega)]; simp
      have h0 : ¬ 0 < y / 128 := by omega
      have hne : ((zs.length : Int) != (pre.length : Int) + 1) = false := by simp; omega
      have hl2 := hl.take pre.length
      have ht : (zs.take pre.length).length = pre.length := by simp; omega
      have hs2 := hshort.out
      rw [show zs.length - 1 = pre.length from by omega] at hs2
      have HS := Lib.hid hs2
      have HT := Lib.hid ht
      clear hs2 ht hst
      have hz1 : pre.length + 1 ≤ zs.length := by omega
      have hz2 : zs.length ≤ pre.length + 1 := by omega
      have hz3 : pre.length ≤ c := by omega
      clear hz hat
      have hg := get_any A (zs.take pre.length) c w2 hl2 (fun q hq => hby q (List.mem_of_mem_take hq))
      rw [HT.out, HS.out] at hg
      have HG := Lib.hid hg
      clear hg
      go_wp2_with fail
      refine HG.out.mono ?_
      rintro e w3 ⟨rfl, rfl⟩
      go_wp2_with fail
      refine (num_any _ _).mono ?_
      rintro e w3 ⟨rfl, rfl⟩
      go_wp2
      go_ret
      exact ⟨rfl, hb2⟩

set_option maxRecDepth 100000 in
theorem lifted (os : Os) (started : os.Started) (H : Type) (enc : TypeId × Value → H) :
    ReturnsInHanded {} Try.checked os 6 .any (Rows.varintLongSpec.pre6 enc Try.prog Try.f6 Rows.varintLongRow.domain false) (Rows.varintLongSpec.post enc Try.prog Try.f6 false true false false) := by
  refine returnsInHanded_of_change (C := Try.checked) own started (by kernel_rfl) Try.func6
    (ChangeSpec.witness6 (enc := enc) (C := Try.checked) false ⟨#[], #[.int .u64 0], []⟩ 8 (by kernel_rfl) (by kernel_rfl) (by kernel_rfl) (by kernel_rfl)) ?_
  intro W base args ds gs before hval0 hW hcnd _
  have hval : ∀ (j : Nat) t v, Try.f6.params[j]? = some t → args[j]? = some v → Value.okWide Try.prog W .any base t v := hval0
  have hW' := hW
  obtain ⟨p, q, hA0, hV, rfl, hfz, hnd⟩ := hW
  have hA : DataW.TrodAll enc Try.prog W 0 (fun _ => true) true Try.f6.params.toList args.toList ds p := hA0
  rw [Try.params6] at hA hval
  obtain ⟨v0, vs0, d0, ds0, p0, q0, hargs, rfl, rfl, h0, r0⟩ := trodAll_cons hA
  obtain ⟨rfl, rfl, rfl⟩ := trodAll_nil r0
  obtain rfl : args = #[v0] := by cases args; simp_all
  obtain ⟨rfl, rfl⟩ := trodVars_none hV
  obtain ⟨a0, rfl, rfl, rfl, w0⟩ := open_int Try.underlying23 (hval 0 23 v0 rfl rfl) h0
  clear hA0 hval0
  simp only [List.append_nil] at hW'
  refine (walk a0 w0 W).mono fun e W' ⟨he, bel⟩ => ?_
  subst he
  exact ⟨_, rfl, _, _, _, [], [], [], hW', (trodAll_cons_mk (shut_bool Try.underlying4 _) trodAll_mk0), (trodAll_cons_mk (shut_int Try.underlying23 w0) trodAll_mk0), rfl, bel.frame _, fun h => by cases h⟩

theorem over : Rows.varintLongRow.holds Try.pinned (OpenSpec.ofChange Rows.varintLongSpec) :=
  OpenClaim.holds_of_wide 6 Try.f6 rfl rfl rfl rfl rfl rfl rfl ⟨rfl, rfl, rfl, rfl, rfl⟩ rfl rfl rfl rfl rfl (by kernel_rfl) Try.func6 (by kernel_rfl)
    (of_decide_eq_true (by kernel_rfl)) (by unfold Func.isWrapper; first | (rw [if_pos (by decide +kernel)]; kernel_rfl) | (rw [if_neg (by decide +kernel)]; exact ⟨rfl, rfl⟩))
    (fun os started H enc _ => lifted os started H enc)

theorem proved : Rows.VarintLongSaid :=
  over
#print axioms proved
end Go.Proofs.Ytcdhbmjobahoiaa.varintLong
