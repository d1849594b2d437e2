/- Proved: for every number n, DedupMany(n) returns true. -/
import Derived.Test.YtgjgbelloobdfaaRows
import Derived.WalkKit
import Derived.ProofKit
import Derived.OpenShut
import Derived.ShutString
import Derived.ChangeOld
import Derived.Below
import Derived.Test.YtgjgbelloobdfaaCame
import Derived.Test.YtgjgbelloobdfaaDedAlive
import Derived.Test.YtgjgbelloobdfaaDedNum
namespace Go.Proofs.Ytgjgbelloobdfaa.dedupMany
open Go.ChangeShapes Go.WideShapes Go.ChangeAt Go.RowKit
open Go.ChangeMaps (open_string shut_string)
set_option linter.unusedVariables false

theorem own : ownKnob Try.prog.godebug = none := by kernel_rfl
theorem laidOut : laidOutB Try.prog = true := by kernel_rfl

def IsRow (k : IntKind) (w : World) (a : Option Addr) (len cap : Nat) (zs : List Int) : Prop :=
  (a = none ∧ len = 0 ∧ cap = 0 ∧ zs = []) ∨
  ∃ x, a = some x ∧ len ≤ cap ∧ cap ≤ maxLen ∧ zs.length = cap ∧ (∀ i, i < zs.length → w.cell? (x.add i) = some (.int k (zs.getD i 0))) ∧ ∀ n ∈ zs, (Lit.int k n).wf = true

set_option maxHeartbeats 3200000 in
theorem walk (a0 : Int) (w : World) (w0 : (Lit.int .i64 a0).wf = true) :
    Calls Try.prog 5 #[.int .i64 a0] w fun e w' => e = .returned (.bool true) ∧ Below w.heap.size w w' := by
  have HAL := Lib.hid (alive11_any w)
  have HN := Lib.hid num11_any
  clear w0
  have htz := tab_zero
  by_cases h1 : a0 < 0
  · have q1 : decide (a0 < 0) = true := decide_eq_true h1
    go_enter Try.func5, Try.ntmps5
    go_wp2_with fail
    refine HAL.out.mono ?_
    rintro e w2 ⟨rfl, hb2⟩
    go_wp2_with fail
    go_ret
    exact ⟨rfl, hb2⟩
  have q1 : decide (a0 < 0) = false := decide_eq_false h1
  by_cases h2 : 120 < a0
  · have q2 : decide ((120 : Int) < a0) = true := decide_eq_true h2
    go_enter Try.func5, Try.ntmps5
    go_wp2_with fail
    refine HAL.out.mono ?_
    rintro e w2 ⟨rfl, hb2⟩
    go_wp2_with fail
    go_ret
    exact ⟨rfl, hb2⟩
  have q2 : decide ((120 : Int) < a0) = false := decide_eq_false h2
  obtain ⟨n, rfl⟩ : ∃ n : Nat, a0 = (n : Int) := ⟨a0.toNat, by omega⟩
  have hn : n ≤ 120 := by omega
  clear h1 h2
  go_enter Try.func5, Try.ntmps5
  go_wp2_with fail
  refine HAL.out.mono ?_
  rintro e w2 ⟨rfl, hb2⟩
  have H0 := Lib.hid (Solo.new w hb2)
  clear hb2 HAL q1 q2
  go_wp2_with fail
  generalize w2.heap.size = g at *
  generalize w2.alloc tabO = w3 at *
  go_loopw [5] (fun iv wr => ∃ i : Nat, iv = .int .i64 i ∧ i ≤ n ∧ Solo w wr g (rowsN (min i 100))) (fun iv _ => n - (intOf iv).toNat)
  case atStart => exact ⟨0, rfl, Nat.zero_le _, H0.out⟩
  case round =>
    obtain ⟨i, rfl, hi, hs⟩ := hrel
    have HS := Lib.hid hs
    clear hs
    by_cases hlt : i < n
    · by_cases h100 : i < 100
      · have hm : min i 100 = i := by omega
        have hm2 : min (i + 1) 100 = i + 1 := by omega
        have d1 : decide ((100 : Int) ≤ (i : Int)) = false := decide_eq_false (by omega)
        have d2 : decide (100 ≤ i) = false := decide_eq_false (by omega)
        have H := Lib.hid (HS.out.set ⟨(i : Int), 0, (i : Int)⟩ ⟨⟨by dsimp only; omega, by dsimp only; omega⟩, ⟨by dsimp only; omega, by dsimp only; omega⟩, ⟨by dsimp only; omega, by dsimp only; omega⟩⟩)
        rw [hm, rowsN_set h100, ← hm2] at H
        dsimp only at H
        clear hm hm2 h100 HS
        go_wp2_with (first | (go_at_call 8; refine H.out.mono ?_; rintro e w4 ⟨rfl, h4⟩; have H4 := Lib.hid h4; clear h4) | (go_at_call 11; refine (HN.out _ _).mono ?_; rintro e w5 ⟨rfl, rfl⟩))
        go_roundw
        case rel => exact ⟨i + 1, by go_num, hlt, H4.out⟩
        case measure => simp [intOf]; omega
      · have hm : min i 100 = 100 := by omega
        have hm2 : min (i + 1) 100 = 100 := by omega
        have d1 : decide ((100 : Int) ≤ (i : Int)) = true := decide_eq_true (by omega)
        have d2 : decide (100 ≤ i) = true := decide_eq_true (by omega)
        have H := Lib.hid (HS.out.set ⟨(i : Int), 0, (i : Int)⟩ ⟨⟨by dsimp only; omega, by dsimp only; omega⟩, ⟨by dsimp only; omega, by dsimp only; omega⟩, ⟨by dsimp only; omega, by dsimp only; omega⟩⟩)
        rw [hm, rowsN_full (Nat.le_of_not_lt h100)] at H
        dsimp only at H
        have HM2 := Lib.hid hm2
        clear hm hm2 h100 HS
        go_wp2_with (first | (go_at_call 8; refine H.out.mono ?_; rintro e w4 ⟨rfl, h4⟩; have H4 := Lib.hid h4; clear h4) | (go_at_call 11; refine (HN.out _ _).mono ?_; rintro e w5 ⟨rfl, rfl⟩))
        go_roundw
        case rel => exact ⟨i + 1, by go_num, hlt, by rw [HM2.out]; exact H4.out⟩
        case measure => simp [intOf]; omega
    · obtain rfl : i = n := by omega
      clear hlt
      by_cases h0 : i = 0
      · subst h0
        have H := Lib.hid HS.out.rows
        clear HS
        go_wp2_with fail
        refine H.out.mono ?_
        rintro e w4 ⟨v, rfl, hown, _, h4⟩
        obtain ⟨A4, c4, rfl, _, _⟩ := OwnS.parts hown
        have H4 := Lib.hid h4
        clear hown h4
        go_wp2_with fail
        go_ret
        exact ⟨rfl, H4.out.since⟩
      · have b0 : ((i : Int) == 0) = false := by simp; omega
        have hk : 0 < min i 100 := by omega
        have H := Lib.hid (HS.out.set ⟨0, 1, 77⟩ ⟨by decide, by decide, by decide⟩)
        rw [rowsN_again hk] at H
        dsimp only at H
        have HK := Lib.hid (fun (W : World) (h : Solo w W g (putP ⟨0, 1, 77⟩ (rowsN (min i 100)))) => Solo.ask h 0 1 (by omega) (by omega))
        rw [rowsN_asked] at HK
        dsimp only at HK
        clear hk h0 HS
        go_wp2_with (first | (go_at_call 8; refine H.out.mono ?_; rintro e w4 ⟨rfl, h4⟩; have H4 := Lib.hid h4; clear h4) | (go_at_call 9; refine (HK.out _ H4.out).mono ?_; rintro e w6 ⟨rfl, h6⟩; have H6 := Lib.hid h6; clear h6) | (go_at_call 11; refine (HN.out _ _).mono ?_; rintro e w5 ⟨rfl, rfl⟩))
        go_ret
        exact ⟨rfl, H6.out.since⟩

set_option maxRecDepth 100000 in
theorem lifted (os : Os) (started : os.Started) (H : Type) (enc : TypeId × Value → H) :
    ReturnsInHanded {} Try.checked os 5 .any (Rows.dedupManySpec.pre6 enc Try.prog Try.f5 Rows.dedupManyRow.domain false) (Rows.dedupManySpec.post enc Try.prog Try.f5 false true false false) := by
  refine returnsInHanded_of_change (C := Try.checked) own started (by kernel_rfl) Try.func5
    (ChangeSpec.witness6 (enc := enc) (C := Try.checked) false ⟨#[], #[.int .i64 0], []⟩ 8 (by kernel_rfl) (by kernel_rfl) (by kernel_rfl) (by kernel_rfl)) ?_
  intro W base args ds gs before hval0 hW hcnd _
  have hval : ∀ (j : Nat) t v, Try.f5.params[j]? = some t → args[j]? = some v → Value.okWide Try.prog W .any base t v := hval0
  have hW' := hW
  obtain ⟨p, q, hA0, hV, rfl, hfz, hnd⟩ := hW
  have hA : DataW.TrodAll enc Try.prog W 0 (fun _ => true) true Try.f5.params.toList args.toList ds p := hA0
  rw [Try.params5] at hA hval
  obtain ⟨v0, vs0, d0, ds0, p0, q0, hargs, rfl, rfl, h0, r0⟩ := trodAll_cons hA
  obtain ⟨rfl, rfl, rfl⟩ := trodAll_nil r0
  obtain rfl : args = #[v0] := by cases args; simp_all
  obtain ⟨rfl, rfl⟩ := trodVars_none hV
  obtain ⟨a0, rfl, rfl, rfl, w0⟩ := open_int Try.underlying3 (hval 0 3 v0 rfl rfl) h0
  clear hA0 hval0
  refine (walk a0 W w0).mono fun e W' ⟨he, bel⟩ => ?_
  subst he
  exact ⟨_, rfl, _, _, _, [], _, [], hW', trodAll_mk1 (shut_bool Try.underlying4 _), (trodAll_cons_mk (shut_int Try.underlying3 w0) trodAll_mk0), rfl, bel.frame _, fun h => by cases h⟩

theorem over : Rows.dedupManyRow.holds Try.pinned (OpenSpec.ofChange Rows.dedupManySpec) :=
  OpenClaim.holds_of_wide 5 Try.f5 rfl rfl rfl rfl rfl rfl rfl ⟨rfl, rfl, rfl, rfl, rfl⟩ rfl rfl rfl rfl rfl (by kernel_rfl) Try.func5 (by kernel_rfl)
    (of_decide_eq_true (by kernel_rfl)) (by unfold Func.isWrapper; first | (rw [if_pos (by decide +kernel)]; kernel_rfl) | (rw [if_neg (by decide +kernel)]; exact ⟨rfl, rfl⟩))
    (fun os started H enc _ => lifted os started H enc)

theorem proved : Rows.DedupManySaid := over
#print axioms proved
end Go.Proofs.Ytgjgbelloobdfaa.dedupMany
