/- Proved: for every n and wide, NamesLong(n, wide) returns true: a text of n runes alike (of one byte each, or of two) is a name just if n is 1 to 40, and it has n runes; for n from 0 to 60. Conditions: none on the input; the library's two tables unicode/utf8.first and unicode/utf8.acceptRanges start as the program's text lays them (the card ties them; the first is pinned). -/
import Derived.Test.YtddlebgfbnfbbaaDoorRows
import Derived.WalkKit
import Derived.ProofKit
import Derived.OpenShut
import Derived.ShutString
import Derived.LaidMore
import Derived.Stop.Joined
import Derived.SevenTiedAt
import Derived.Lay
import Derived.Test.YtddlebgfbnfbbaaDoorCards
import Derived.Test.YtddlebgfbnfbbaaDoorTie
import Derived.Test.YtddlebgfbnfbbaaDoorValid
import Derived.Test.YtddlebgfbnfbbaaDoorNAlive
namespace Go.Proofs.YtddlebgfbnfbbaaDoor.namesLong
open Go.ChangeShapes Go.WideShapes Go.ChangeAt Go.RowKit
open Go.ChangeMaps (open_string shut_string)
set_option linter.unusedVariables false      -- a walk need not use every 'w<i>' (that an integer argument fits its kind)

theorem own : ownKnob Tryd.prog.godebug = none := by kernel_rfl

set_option maxHeartbeats 1600000 in
theorem walk (a0 : Int) (a1 : Bool) (w0 : (Lit.int .i64 a0).wf = true) (w : World) (hh : Tabs w) :
    Calls Tryd.prog 6 #[.int .i64 a0, .bool a1] w fun e w' => e = .returned (.bool true) ∧ Below w.heap.size w w' := by
  by_cases hneg : a0 < 0
  · clear w0
    go_enter Tryd.func6, Tryd.ntmps6
    go_wp2_with fail
    refine (alive_any w hh).mono ?_
    rintro e w1 ⟨rfl, hbel⟩
    go_wp2
    go_ret
    exact ⟨rfl, hbel⟩
  · by_cases h60 : 60 < a0
    · clear w0
      go_enter Tryd.func6, Tryd.ntmps6
      go_wp2_with fail
      refine (alive_any w hh).mono ?_
      rintro e w1 ⟨rfl, hbel⟩
      go_wp2
      go_ret
      exact ⟨rfl, hbel⟩
    · obtain ⟨m, rfl⟩ : ∃ m : Nat, a0 = m := ⟨a0.toNat, by omega⟩
      have hm60 : m ≤ 60 := by omega
      clear w0
      have fin : ∀ (c : Nat) (u : ByteArray), Utf8.encode (c : Int) = u → u.size ≤ 2 → Utf8.valid (c : Int) = true → (plainR c = true ∨ farR c = true) →
          (∀ w, Tabs w → Calls Tryd.prog 8 #[.string (repB u m)] w (fun e w' => e = .returned (.bool (decide (0 < m) && decide (m ≤ 40))) ∧ Below w.heap.size w w')) ∧
          (∀ w, Calls Tryd.prog 10 #[.string (repB u m)] w (fun e w' => e = .returned (.int .i64 (m : Int)) ∧ Below w.heap.size w w')) := by
        intro c u hu hs hv hf
        have hz : (repB u m).size ≤ maxLen := by
          rw [repB_size]
          have := Nat.mul_le_mul_left m hs
          unfold maxLen
          omega
        have hval := rep_valid c hv hf m
        have hcnt := rep_cnt c hv m m 0 (by omega)
        rw [hu] at hval hcnt
        rw [Nat.zero_mul] at hcnt
        constructor
        · intro w hT
          have := valid_any (repB u m) w hz hT
          rw [hval] at this
          exact this
        · intro w
          have := count_any (repB u m) w hz
          rw [hcnt] at this
          exact this
      cases a1 with
      | true =>
        obtain ⟨hv, hc⟩ := fin 233 ⟨#[195, 169]⟩ (by decide +kernel) (by decide) (by decide) (.inr (by decide))
        clear fin
        go_enter Tryd.func6, Tryd.ntmps6
        go_wp2_with fail
        refine (alive_any w hh).mono ?_
        rintro e w1 ⟨rfl, hb1⟩
        have hh1 := hh.below hb1
        go_wp2_with fail
        go_loop [6, 7] (fun sv iv => ∃ i : Nat, sv = .string (repB ⟨#[195, 169]⟩ i) ∧ iv = .int .i64 (i : Int) ∧ i ≤ m) (fun _ iv => m - (intOf iv).toNat)
        case atStart => exact ⟨0, rfl, rfl, Nat.zero_le _⟩
        case round =>
          obtain ⟨i, rfl, rfl, hi⟩ := hrel
          by_cases hlt : (i : Int) < (m : Int)
          · have hstep : repB ⟨#[195, 169]⟩ i ++ ⟨#[195, 169]⟩ = repB ⟨#[195, 169]⟩ (i + 1) := rfl
            have hz := repB_size ⟨#[195, 169]⟩ i
            have hz2 : (repB ⟨#[195, 169]⟩ i).size ≤ 120 := by
              rw [hz]; show i * 2 ≤ 120; omega
            clear hz
            go_wp2
            go_round
            case rel => exact ⟨i + 1, rfl, by go_num, by omega⟩
            case measure => simp [intOf]; omega
          · obtain rfl : i = m := by omega
            obtain ⟨u, hu⟩ : ∃ u, repB ⟨#[195, 169]⟩ i = u := ⟨_, rfl⟩
            rw [hu] at hv hc
            have hv1 := hv w1 hh1
            clear hv
            by_cases h1 : (1 : Int) ≤ i
            · by_cases h40 : (i : Int) ≤ 40
              · rw [decide_eq_true (show 0 < i by omega), decide_eq_true (show i ≤ 40 by omega), Bool.and_true] at hv1
                go_wp2_with fail
                refine hv1.mono ?_
                rintro e w2 ⟨rfl, hb2⟩
                have heq : ((i : Int) == (i : Int)) = true := by simp
                go_wp2_with fail
                refine (hc w2).mono ?_
                rintro e w3 ⟨rfl, hb3⟩
                have hb12 := hb1.trans (hb2.mono hb1.size)
                have hb13 := hb12.trans (hb3.mono hb12.size)
                go_wp2
                go_ret
                exact ⟨rfl, hb13⟩
              · rw [decide_eq_false (show ¬ i ≤ 40 by omega), Bool.and_false] at hv1
                have d40 : decide ((i : Int) ≤ 40) = false := decide_eq_false h40
                go_wp2_with fail
                refine hv1.mono ?_
                rintro e w2 ⟨rfl, hb2⟩
                have heq : ((i : Int) == (i : Int)) = true := by simp
                go_wp2_with fail
                refine (hc w2).mono ?_
                rintro e w3 ⟨rfl, hb3⟩
                have hb12 := hb1.trans (hb2.mono hb1.size)
                have hb13 := hb12.trans (hb3.mono hb12.size)
                go_wp2
                go_ret
                exact ⟨rfl, hb13⟩
            · rw [decide_eq_false (show ¬ 0 < i by omega), Bool.false_and] at hv1
              go_wp2_with fail
              refine hv1.mono ?_
              rintro e w2 ⟨rfl, hb2⟩
              have heq : ((i : Int) == (i : Int)) = true := by simp
              go_wp2_with fail
              refine (hc w2).mono ?_
              rintro e w3 ⟨rfl, hb3⟩
              have hb12 := hb1.trans (hb2.mono hb1.size)
              have hb13 := hb12.trans (hb3.mono hb12.size)
              go_wp2
              go_ret
              exact ⟨rfl, hb13⟩
      | false =>
        obtain ⟨hv, hc⟩ := fin 97 ⟨#[97]⟩ (by decide +kernel) (by decide) (by decide) (.inl (by decide))
        clear fin
        go_enter Tryd.func6, Tryd.ntmps6
        go_wp2_with fail
        refine (alive_any w hh).mono ?_
        rintro e w1 ⟨rfl, hb1⟩
        have hh1 := hh.below hb1
        go_wp2_with fail
        go_loop [6, 7] (fun sv iv => ∃ i : Nat, sv = .string (repB ⟨#[97]⟩ i) ∧ iv = .int .i64 (i : Int) ∧ i ≤ m) (fun _ iv => m - (intOf iv).toNat)
        case atStart => exact ⟨0, rfl, rfl, Nat.zero_le _⟩
        case round =>
          obtain ⟨i, rfl, rfl, hi⟩ := hrel
          by_cases hlt : (i : Int) < (m : Int)
          · have hstep : repB ⟨#[97]⟩ i ++ ⟨#[97]⟩ = repB ⟨#[97]⟩ (i + 1) := rfl
            have hz := repB_size ⟨#[97]⟩ i
            have hz2 : (repB ⟨#[97]⟩ i).size ≤ 120 := by
              rw [hz]; show i * 1 ≤ 120; omega
            clear hz
            go_wp2
            go_round
            case rel => exact ⟨i + 1, rfl, by go_num, by omega⟩
            case measure => simp [intOf]; omega
          · obtain rfl : i = m := by omega
            obtain ⟨u, hu⟩ : ∃ u, repB ⟨#[97]⟩ i = u := ⟨_, rfl⟩
            rw [hu] at hv hc
            have hv1 := hv w1 hh1
            clear hv
            by_cases h1 : (1 : Int) ≤ i
            · by_cases h40 : (i : Int) ≤ 40
              · rw [decide_eq_true (show 0 < i by omega), decide_eq_true (show i ≤ 40 by omega), Bool.and_true] at hv1
                go_wp2_with fail
                refine hv1.mono ?_
                rintro e w2 ⟨rfl, hb2⟩
                have heq : ((i : Int) == (i : Int)) = true := by simp
                go_wp2_with fail
                refine (hc w2).mono ?_
                rintro e w3 ⟨rfl, hb3⟩
                have hb12 := hb1.trans (hb2.mono hb1.size)
                have hb13 := hb12.trans (hb3.mono hb12.size)
                go_wp2
                go_ret
                exact ⟨rfl, hb13⟩
              · rw [decide_eq_false (show ¬ i ≤ 40 by omega), Bool.and_false] at hv1
                have d40 : decide ((i : Int) ≤ 40) = false := decide_eq_false h40
                go_wp2_with fail
                refine hv1.mono ?_
                rintro e w2 ⟨rfl, hb2⟩
                have heq : ((i : Int) == (i : Int)) = true := by simp
                go_wp2_with fail
                refine (hc w2).mono ?_
                rintro e w3 ⟨rfl, hb3⟩
                have hb12 := hb1.trans (hb2.mono hb1.size)
                have hb13 := hb12.trans (hb3.mono hb12.size)
                go_wp2
                go_ret
                exact ⟨rfl, hb13⟩
            · rw [decide_eq_false (show ¬ 0 < i by omega), Bool.false_and] at hv1
              go_wp2_with fail
              refine hv1.mono ?_
              rintro e w2 ⟨rfl, hb2⟩
              have heq : ((i : Int) == (i : Int)) = true := by simp
              go_wp2_with fail
              refine (hc w2).mono ?_
              rintro e w3 ⟨rfl, hb3⟩
              have hb12 := hb1.trans (hb2.mono hb1.size)
              have hb13 := hb12.trans (hb3.mono hb12.size)
              go_wp2
              go_ret
              exact ⟨rfl, hb13⟩

set_option maxRecDepth 100000 in
theorem lifted (os : Os) (started : os.Started) (H : Type) (enc : TypeId × Value → H) :
    ReturnsInHanded {} Tryd.checked os 6 .any (fun w args => (Rows.namesLongSpec.pre enc Tryd.prog Tryd.f6 [] false w args ∧ laidMetH Tryd.prog laid1 w) ∧ sizedMet enc Tryd.prog Tryd.f6 (OpenSpec.ofChange Rows.namesLongSpec) false w args) (Rows.namesLongSpec.post enc Tryd.prog Tryd.f6 false true false false) := by
  refine returnsInHanded_of_change_and (C := Tryd.checked) (X := fun w _ => laidMetH Tryd.prog laid1 w) (fun _ _ _ hh h => h.of_heap hh) own started (by kernel_rfl) Tryd.func6
    (ChangeSpec.witness_shaped (enc := enc) (C := Tryd.checked) (os := os) (X := fun w _ => laidMetH Tryd.prog laid1 w) false (World.laidAll Tryd.prog os laid1) #[.int .i64 0, .bool false] 8 (World.laidAll_os _ _ _) (World.shaped_of_ZipB (by kernel_rfl) (by kernel_rfl)) (by kernel_rfl) (by kernel_rfl) (by kernel_rfl) (door_met os _)) ?_
  intro W base args ds gs before hval0 hW _ _ hL _
  have hval : ∀ (j : Nat) t v, Tryd.f6.params[j]? = some t → args[j]? = some v → Value.okWide Tryd.prog W .any base t v := hval0
  have hW' := hW
  obtain ⟨p, q, hA0, hV, rfl, hfz, hnd⟩ := hW
  have hA : DataW.TrodAll enc Tryd.prog W 0 (fun _ => true) true Tryd.f6.params.toList args.toList ds p := hA0
  rw [Tryd.params6] at hA hval
  obtain ⟨v0, vs0, d0, ds0, p0, q0, hargs, rfl, rfl, h0, r0⟩ := trodAll_cons hA
  obtain ⟨v1, vs1, d1, ds1, p1, q1, rfl, rfl, rfl, h1, r1⟩ := trodAll_cons r0
  obtain ⟨rfl, rfl, rfl⟩ := trodAll_nil r1
  obtain rfl : args = #[v0, v1] := by cases args; simp_all
  obtain ⟨rfl, rfl⟩ := trodVars_none hV
  obtain ⟨a0, rfl, rfl, rfl, w0⟩ := open_int Tryd.underlying3 (hval 0 3 v0 rfl rfl) h0
  obtain ⟨a1, rfl, rfl, rfl⟩ := open_bool Tryd.underlying4 (hval 1 4 v1 rfl rfl) h1
  clear hA0 hval0
  simp only [List.append_nil] at hW'
  refine (walk a0 a1 w0 W (of_laid hL)).mono fun e W' ⟨he, bel⟩ => ?_
  subst he
  exact ⟨_, rfl, _, _, _, [], [], [], hW', (trodAll_cons_mk (shut_bool Tryd.underlying4 _) trodAll_mk0), (trodAll_cons_mk (shut_int Tryd.underlying3 w0) (trodAll_cons_mk (shut_bool Tryd.underlying4 _) trodAll_mk0)), rfl, bel.frame _, fun h => by cases h⟩

theorem over : Rows.namesLongRow.holds Tryd.pinned (OpenSpec.ofChange Rows.namesLongSpec) :=
  OpenClaim.holds_of_wide 6 Tryd.f6 rfl rfl rfl rfl rfl rfl rfl ⟨rfl, rfl, rfl, rfl, rfl⟩ rfl rfl rfl rfl rfl (by kernel_rfl) Tryd.func6 (by kernel_rfl)
    (of_decide_eq_true (by kernel_rfl)) (by unfold Func.isWrapper; first | (rw [if_pos (by decide +kernel)]; kernel_rfl) | (rw [if_neg (by decide +kernel)]; exact ⟨rfl, rfl⟩))
    (fun os started H enc _ => lifted os started H enc)

theorem proved : Rows.NamesLongCardSaid :=
  Claim7.holds_tied_plain_at .later [] [.data, .pinned] true (true, "dfb91a640cee4f78bae66a14287d2fb00db62dae2a497d04d981e9d8a0b6174b") false
    over (fun _ h => by cases h) (by kernel_rfl) (fun _ h => by cases h) namesLong_row_tie rfl ⟨rfl, rfl⟩ (by kernel_rfl) rfl
    (fun f fn hf hfn => by
      obtain rfl : f = 6 := Option.some.inj ((show Tryd.prog.funcNamed "cooperage/cooperagelaw3.NamesLong" = some 6 by kernel_rfl).symm.trans hf) |>.symm
      obtain rfl : fn = Tryd.f6 := (Option.some.inj (Tryd.func6.symm.trans hfn)).symm
      exact ⟨by kernel_rfl, fun j t ht => by
        rw [Tryd.params6] at ht
        have hm : t ∈ [3, 4] := by simpa using Array.mem_of_getElem? ht
        have hall : ([3, 4].all fun u => !Tryd.prog.wantsStandIn u) = true := by kernel_rfl
        exact (show Tryd.prog.wantsStandIn t = false by simpa using List.all_eq_true.1 hall t hm)⟩)
    (by kernel_rfl)
#print axioms proved
end Go.Proofs.YtddlebgfbnfbbaaDoor.namesLong
