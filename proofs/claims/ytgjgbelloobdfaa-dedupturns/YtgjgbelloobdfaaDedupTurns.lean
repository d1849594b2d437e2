/- Proved: for every two numbers pid and n and every list l of numbers, DedupTurns(pid, n, l) returns true. -/
import Derived.Test.YtgjgbelloobdfaaRows
import Derived.WalkKit
import Derived.ProofKit
import Derived.OpenShut
import Derived.ShutString
import Derived.ChangeOld
import Derived.Below
import Derived.Test.YtgjgbelloobdfaaCame
import Derived.Test.YtgjgbelloobdfaaDedAlive
import Derived.Test.YtgjgbelloobdfaaDedNum
namespace Go.Proofs.Ytgjgbelloobdfaa.dedupTurns
open Go.ChangeShapes Go.WideShapes Go.ChangeAt Go.RowKit
open Go.ChangeMaps (open_string shut_string)
set_option linter.unusedVariables false

theorem own : ownKnob Try.prog.godebug = none := by kernel_rfl
theorem laidOut : laidOutB Try.prog = true := by kernel_rfl

def IsRow (k : IntKind) (w : World) (a : Option Addr) (len cap : Nat) (zs : List Int) : Prop :=
  (a = none ∧ len = 0 ∧ cap = 0 ∧ zs = []) ∨
  ∃ x, a = some x ∧ len ≤ cap ∧ cap ≤ maxLen ∧ zs.length = cap ∧ (∀ i, i < zs.length → w.cell? (x.add i) = some (.int k (zs.getD i 0))) ∧ ∀ n ∈ zs, (Lit.int k n).wf = true

set_option maxHeartbeats 3200000 in
theorem walk (a0 : Int) (a1 : Int) (a2 : Option Addr) (len2 cap2 : Nat) (z2 : List Int) (w : World) (w0 : (Lit.int .i64 a0).wf = true) (w1 : (Lit.int .i64 a1).wf = true) (w2 : IsRow .i64 w a2 len2 cap2 z2) :
    Calls Try.prog 4 #[.int .i64 a0, .int .i64 a1, .slice a2 len2 cap2] w fun e w' => e = .returned (.bool true) ∧ Below w.heap.size w w' := by
  obtain ⟨zs, rfl, hlc, hlm, hlie, hwfl, _⟩ := row_came w2
  have htz := tab_zero
  have HAL := Lib.hid (alive11_any w)
  have HN := Lib.hid num11_any
  have hp0 := bounds_i64 w0
  have HP := Lib.hid hp0
  have HWL := Lib.hid hwfl
  have HLI := Lib.hid hlie
  unfold maxLen at hlm
  clear w0 w1 w2 hp0 hwfl hlie
  by_cases h1 : a1 < 0
  · have q1 : decide (a1 < 0) = true := decide_eq_true h1
    go_enter Try.func4, Try.ntmps4
    go_wp2_with fail
    refine HAL.out.mono ?_
    rintro e w2 ⟨rfl, hb2⟩
    go_wp2_with fail
    go_ret
    exact ⟨rfl, hb2⟩
  have q1 : decide (a1 < 0) = false := decide_eq_false h1
  by_cases h2 : 40 < a1
  · have q2 : decide ((40 : Int) < a1) = true := decide_eq_true h2
    go_enter Try.func4, Try.ntmps4
    go_wp2_with fail
    refine HAL.out.mono ?_
    rintro e w2 ⟨rfl, hb2⟩
    go_wp2_with fail
    go_ret
    exact ⟨rfl, hb2⟩
  have q2 : decide ((40 : Int) < a1) = false := decide_eq_false h2
  by_cases h3 : (40 : Int) < (zs.length : Int)
  · have q3 : decide ((40 : Int) < (zs.length : Int)) = true := decide_eq_true h3
    have q3b : decide (40 < zs.length) = true := decide_eq_true (by omega)
    go_enter Try.func4, Try.ntmps4
    go_wp2_with fail
    refine HAL.out.mono ?_
    rintro e w2 ⟨rfl, hb2⟩
    go_wp2_with fail
    go_ret
    exact ⟨rfl, hb2⟩
  have q3 : decide ((40 : Int) < (zs.length : Int)) = false := decide_eq_false h3
  have q3b : decide (40 < zs.length) = false := decide_eq_false (by omega)
  obtain ⟨n, rfl⟩ : ∃ n : Nat, a1 = (n : Int) := ⟨a1.toNat, by omega⟩
  have hn : n ≤ 40 := by omega
  have hl40 : zs.length ≤ 40 := by omega
  clear h1 h2 h3
  go_enter Try.func4, Try.ntmps4
  go_wp2_with fail
  refine HAL.out.mono ?_
  rintro e w2 ⟨rfl, hb2⟩
  have H0 := Lib.hid (Solo.new w hb2)
  clear hb2 HAL q1 q2 q3 q3b
  go_wp2_with fail
  generalize w2.heap.size = g at *
  generalize w2.alloc tabO = w3 at *
  go_loopw [9] (fun iv wr => ∃ i : Nat, iv = .int .i64 i ∧ i ≤ n + 1 ∧ Solo w wr g (rowT a0 i)) (fun iv _ => n + 1 - (intOf iv).toNat)
  case atStart => exact ⟨0, rfl, Nat.zero_le _, H0.out⟩
  case round =>
    obtain ⟨i, rfl, hi, hs⟩ := hrel
    have HS := Lib.hid hs
    clear hs
    by_cases hlt : i < n + 1
    · have d1 : decide ((i : Int) ≤ (n : Int)) = true := decide_eq_true (by omega)
      have d2 : decide (i ≤ n) = true := decide_eq_true (by omega)
      have H := Lib.hid (HS.out.ask a0 (i : Int) HP.out (by omega))
      rw [rowT_ask] at H
      have HX := Lib.hid (fun (W : World) (h : Solo w W g (rowT a0 i)) => Solo.set h ⟨a0, (i : Int), 10 * (i : Int)⟩ ⟨HP.out, ⟨by dsimp only; omega, by dsimp only; omega⟩, ⟨by dsimp only; omega, by dsimp only; omega⟩⟩)
      rw [rowT_set] at HX
      dsimp only at H HX
      clear HS
      go_wp2_with (first | (go_at_call 9; refine H.out.mono ?_; rintro e w4 ⟨rfl, h4⟩; have H4 := Lib.hid h4; clear h4) | (go_at_call 8; refine (HX.out _ H4.out).mono ?_; rintro e w5 ⟨rfl, h5⟩; have H5 := Lib.hid h5; clear h5) | (go_at_call 11; refine (HN.out _ _).mono ?_; rintro e w6 ⟨rfl, rfl⟩))
      go_roundw
      case rel => exact ⟨i + 1, by go_num, by omega, H5.out⟩
      case measure => simp [intOf]; omega
    · have HI : Hid (i = n + 1) := Lib.hid (by omega)
      have d1 : decide ((i : Int) ≤ (n : Int)) = false := decide_eq_false (by omega)
      have d2 : decide (i ≤ n) = false := decide_eq_false (by omega)
      have HS : Hid (Solo w wr g (rowT a0 (n + 1))) := Lib.hid (by rw [← HI.out]; exact HS.out)
      clear hlt hi HI
      go_wp2_with fail
      generalize wr = wA at *
      go_loopw [13] (fun jv ws => ∃ j : Nat, jv = .int .i64 j ∧ j ≤ zs.length ∧ Solo w ws g (rowT a0 (n + 1))) (fun jv _ => zs.length - (intOf jv).toNat)
      case atStart => exact ⟨0, rfl, Nat.zero_le _, HS.out⟩
      case round =>
        obtain ⟨j, rfl, hj, hs⟩ := hrel
        by_cases hlt : j < zs.length
        · have j1 : decide ((j : Int) < (zs.length : Int)) = true := decide_eq_true (by omega)
          have j2 : decide (j < zs.length) = true := decide_eq_true hlt
          obtain ⟨b, off, rfl, hb0, hcw⟩ := HLI.out.at_ hlt
          have hsz := bounds_i64 (HWL.out _ (List.getElem_mem hlt))
          obtain ⟨s, hsj⟩ : ∃ s, zs[j] = s := ⟨_, rfl⟩
          rw [hsj] at hcw hsz
          have hc0 := (hs.since.cell (p := ⟨b, off + j, none⟩) hb0).trans hcw
          have H := Lib.hid (hs.ask a0 s HP.out hsz)
          rw [rowT_asked] at H
          have HCW := Lib.hid (fun (W : World) (hb : Below w.heap.size w W) => (hb.cell (p := ⟨b, off + j, none⟩) hb0).trans hcw)
          clear hcw hsj hs hsz
          by_cases e1 : s = (n : Int)
          · have b1 : (s == (n : Int)) = true := by simpa using e1
            rw [if_pos e1] at H
            dsimp only at H
            have HE1 := Lib.hid e1
            clear e1
            go_wp2_with (go_at_call 9; refine H.out.mono ?_; rintro e w4 ⟨rfl, h4⟩; have H4 := Lib.hid h4; have hc4 := HCW.out w4 h4.since; clear h4)
            go_roundw
            case rel => exact ⟨j + 1, by go_num, hlt, H4.out⟩
            case measure => simp [intOf]; omega
          · have b1 : (s == (n : Int)) = false := by simpa using e1
            rw [if_neg e1] at H
            by_cases e2 : s = (n : Int) + 1
            · have b2 : (s == (n : Int) + 1) = true := by simpa using e2
              rw [if_pos e2] at H
              dsimp only at H
              clear e1 e2
              go_wp2_with (go_at_call 9; refine H.out.mono ?_; rintro e w4 ⟨rfl, h4⟩; have H4 := Lib.hid h4; have hc4 := HCW.out w4 h4.since; clear h4)
              go_roundw
              case rel => exact ⟨j + 1, by go_num, hlt, H4.out⟩
              case measure => simp [intOf]; omega
            · have b2 : (s == (n : Int) + 1) = false := by simpa using e2
              rw [if_neg e2] at H
              dsimp only at H
              clear e1 e2
              go_wp2_with (go_at_call 9; refine H.out.mono ?_; rintro e w4 ⟨rfl, h4⟩; have H4 := Lib.hid h4; have hc4 := HCW.out w4 h4.since; clear h4)
              go_roundw
              case rel => exact ⟨j + 1, by go_num, hlt, H4.out⟩
              case measure => simp [intOf]; omega
        · obtain rfl : j = zs.length := by omega
          have HE := Lib.hid hs.since
          clear hs
          go_wp2_with fail
          go_ret
          exact ⟨rfl, HE.out⟩

set_option maxRecDepth 100000 in
theorem lifted (os : Os) (started : os.Started) (H : Type) (enc : TypeId × Value → H) :
    ReturnsInHanded {} Try.checked os 4 .any (Rows.dedupTurnsSpec.pre6 enc Try.prog Try.f4 Rows.dedupTurnsRow.domain false) (Rows.dedupTurnsSpec.post enc Try.prog Try.f4 false true false false) := by
  refine returnsInHanded_of_change (C := Try.checked) own started (by kernel_rfl) Try.func4
    (ChangeSpec.witness6 (enc := enc) (C := Try.checked) false ⟨#[], #[.int .i64 0, .int .i64 0, .slice none 0 0], []⟩ 8 (by kernel_rfl) (by kernel_rfl) (by kernel_rfl) (by kernel_rfl)) ?_
  intro W base args ds gs before hval0 hW hcnd _
  have hval : ∀ (j : Nat) t v, Try.f4.params[j]? = some t → args[j]? = some v → Value.okWide Try.prog W .any base t v := hval0
  have hW' := hW
  obtain ⟨p, q, hA0, hV, rfl, hfz, hnd⟩ := hW
  have hA : DataW.TrodAll enc Try.prog W 0 (fun _ => true) true Try.f4.params.toList args.toList ds p := hA0
  rw [Try.params4] at hA hval
  obtain ⟨v0, vs0, d0, ds0, p0, q0, hargs, rfl, rfl, h0, r0⟩ := trodAll_cons hA
  obtain ⟨v1, vs1, d1, ds1, p1, q1, rfl, rfl, rfl, h1, r1⟩ := trodAll_cons r0
  obtain ⟨v2, vs2, d2, ds2, p2, q2, rfl, rfl, rfl, h2, r2⟩ := trodAll_cons r1
  obtain ⟨rfl, rfl, rfl⟩ := trodAll_nil r2
  obtain rfl : args = #[v0, v1, v2] := by cases args; simp_all
  obtain ⟨rfl, rfl⟩ := trodVars_none hV
  obtain ⟨a0, rfl, rfl, rfl, w0⟩ := open_int Try.underlying3 (hval 0 3 v0 rfl rfl) h0
  obtain ⟨a1, rfl, rfl, rfl, w1⟩ := open_int Try.underlying3 (hval 1 3 v1 rfl rfl) h1
  obtain ⟨a2, len2, cap2, rfl⟩ := okWide_slice Try.underlying44 (hval 2 44 v2 rfl rfl)
  have k2 := h2
  have lt2 : ∀ x ∈ p2, x.block < W.heap.size := by obtain ⟨m, hm⟩ := k2; exact DataW.trod_lt m _ _ _ hm
  obtain ⟨z2, w2⟩ : ∃ zs, IsRow .i64 W a2 len2 cap2 zs := by
    obtain ⟨fuel, hf⟩ := h2
    rcases open_ints Try.underlying44 Try.underlying3 (by kernel_rfl) hf with ⟨hcs, _⟩ | ⟨x, l, c, zs, hcs, _, hl, hm, hz, _, hcell, hwz⟩
    · simp [Value.cells] at hcs
      obtain ⟨rfl, rfl, rfl⟩ := hcs
      exact ⟨[], .inl ⟨rfl, rfl, rfl, rfl⟩⟩
    · simp [Value.cells] at hcs
      obtain ⟨rfl, rfl, rfl⟩ := hcs
      exact ⟨zs, .inr ⟨_, rfl, hl, hm, by simpa using hz, hcell, hwz⟩⟩
  clear hA0 hval0
  refine (walk a0 a1 a2 len2 cap2 z2 W w0 w1 w2).mono fun e W' ⟨he, bel⟩ => ?_
  subst he
  exact ⟨_, rfl, _, _, _, [], _, [], hW', trodAll_mk1 (shut_bool Try.underlying4 _), (trodAll_cons_mk (shut_int Try.underlying3 w0) (trodAll_cons_mk (shut_int Try.underlying3 w1) (trodAll_cons_mk (Below.trod laidOut (by kernel_rfl) (of_decide_eq_true (by kernel_rfl)) k2 bel lt2) trodAll_mk0))), rfl, bel.frame _, fun h => by cases h⟩

theorem over : Rows.dedupTurnsRow.holds Try.pinned (OpenSpec.ofChange Rows.dedupTurnsSpec) :=
  OpenClaim.holds_of_wide 4 Try.f4 rfl rfl rfl rfl rfl rfl rfl ⟨rfl, rfl, rfl, rfl, rfl⟩ rfl rfl rfl rfl rfl (by kernel_rfl) Try.func4 (by kernel_rfl)
    (of_decide_eq_true (by kernel_rfl)) (by unfold Func.isWrapper; first | (rw [if_pos (by decide +kernel)]; kernel_rfl) | (rw [if_neg (by decide +kernel)]; exact ⟨rfl, rfl⟩))
    (fun os started H enc _ => lifted os started H enc)

theorem proved : Rows.DedupTurnsSaid := over
#print axioms proved
end Go.Proofs.Ytgjgbelloobdfaa.dedupTurns
