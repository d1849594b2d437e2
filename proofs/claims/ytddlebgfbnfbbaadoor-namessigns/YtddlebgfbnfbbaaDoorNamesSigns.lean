/- Proved: for every c, NamesSigns(c) returns true: of each rune, from 0 to 1114111 and no half of a pair, the text of it alone is a name just if it is one of a to z, 0 to 9 or from 161 to 65535 but 173 and 65279; behind an a just if it is one of these or a mark; it is one rune; and cut after one rune of a longer text it is what is left. Conditions: none on the input; the library's two tables unicode/utf8.first and unicode/utf8.acceptRanges start as the program's text lays them (the card ties them; the first is pinned). -/
import Derived.Test.YtddlebgfbnfbbaaDoorRows
import Derived.WalkKit
import Derived.ProofKit
import Derived.OpenShut
import Derived.ShutString
import Derived.LaidMore
import Derived.Stop.Joined
import Derived.SevenTiedAt
import Derived.Lay
import Derived.Test.YtddlebgfbnfbbaaDoorCards
import Derived.Test.YtddlebgfbnfbbaaDoorTie
import Derived.Test.YtddlebgfbnfbbaaDoorValid
import Derived.Test.YtddlebgfbnfbbaaDoorNAlive
import Derived.Test.YtddlebgfbnfbbaaDoorSignsMore
namespace Go.Proofs.YtddlebgfbnfbbaaDoor.namesSigns
open Go.ChangeShapes Go.WideShapes Go.ChangeAt Go.RowKit
open Go.ChangeMaps (open_string shut_string)
set_option linter.unusedVariables false      -- a walk need not use every 'w<i>' (that an integer argument fits its kind)

theorem own : ownKnob Tryd.prog.godebug = none := by kernel_rfl

set_option maxRecDepth 100000 in
set_option maxHeartbeats 8000000 in
theorem walk (a0 : Int) (w0 : (Lit.int .i64 a0).wf = true) (w : World) (hh : Tabs w) :
    Calls Tryd.prog 5 #[.int .i64 a0] w fun e w' => e = .returned (.bool true) ∧ Below w.heap.size w w' := by
  by_cases hneg : a0 < 0
  · clear w0
    go_enter Tryd.func5, Tryd.ntmps5
    go_wp2_with fail
    refine (alive_any w hh).mono ?_
    rintro e w1 ⟨rfl, hbel⟩
    go_wp2
    go_ret
    exact ⟨rfl, hbel⟩
  by_cases hbig : 1114111 < a0
  · clear w0
    go_enter Tryd.func5, Tryd.ntmps5
    go_wp2_with fail
    refine (alive_any w hh).mono ?_
    rintro e w1 ⟨rfl, hbel⟩
    go_wp2
    go_ret
    exact ⟨rfl, hbel⟩
  by_cases hhalf : 55296 ≤ a0 ∧ a0 ≤ 57343
  · clear w0
    obtain ⟨hf1, hf2⟩ := hhalf
    go_enter Tryd.func5, Tryd.ntmps5
    go_wp2_with fail
    refine (alive_any w hh).mono ?_
    rintro e w1 ⟨rfl, hbel⟩
    go_wp2
    go_ret
    exact ⟨rfl, hbel⟩
  obtain ⟨c, rfl⟩ : ∃ c : Nat, a0 = c := ⟨a0.toNat, by omega⟩
  have hv : Utf8.valid (c : Int) = true := by
    simp only [Utf8.valid, Bool.or_eq_true, Bool.and_eq_true, decide_eq_true_eq]
    omega
  have hv1 := one_valid c hv
  have hv2 := a_valid c hv ⟨#[97]⟩ rfl
  have hc1 := one_cnt c hv
  have hu1 := one_upTo c hv ⟨#[120]⟩
  have hz := enc_four c hv
  have hwr : IntKind.i32.wrap (c : Int) = (c : Int) := wrap_rune c (by omega)
  clear w0
  obtain ⟨u, hu⟩ : ∃ u, Utf8.encode (c : Int) = u := ⟨_, rfl⟩
  rw [hu] at hv1 hv2 hc1 hu1 hz
  have hax : (⟨#[97]⟩ ++ u : ByteArray).size ≤ maxLen := by rw [app_size]; show 1 + u.size ≤ 2 ^ 63 - 1; omega
  have hux : (u ++ ⟨#[120]⟩ : ByteArray).size ≤ maxLen := by rw [app_size]; show u.size + 1 ≤ 2 ^ 63 - 1; omega
  have hfr : (u ++ ⟨#[120]⟩ : ByteArray).extract 0 u.size = u := front_app u ⟨#[120]⟩
  have cv := fun w hT => valid_any u w (by show u.size ≤ 2 ^ 63 - 1; omega) hT
  have ca := fun w hT => valid_any (⟨#[97]⟩ ++ u) w hax hT
  have cc := fun w => count_any u w (by show u.size ≤ 2 ^ 63 - 1; omega)
  have cu := fun w => cut_any (u ++ ⟨#[120]⟩) 1 w hux (by omega) (by omega)
  rw [hv1] at cv
  rw [hv2] at ca
  rw [hc1] at cc
  rw [show (1 : Int).toNat = 1 from rfl, hu1, hfr] at cu
  clear hv1 hv2 hc1 hu1 hax hux hfr hv
  by_cases h45 : c = 45
  · have hp : (plainR c || farR c) = false := by rw [h45]; rfl
    have hm : markR c = true := by rw [h45]; rfl
    rw [hp] at cv
    rw [hp, hm] at ca
    clear hp hm hneg hbig hhalf
    have q0 : ¬ (c : Int) < 0 := by omega
    have d0 : decide ((c : Int) < 0) = false := decide_eq_false q0
    have q1 : ¬ (1114111 : Int) < c := by omega
    have d1 : decide ((1114111 : Int) < c) = false := decide_eq_false q1
    have q2 : ¬ (55296 : Int) ≤ c := by omega
    have d2 : decide ((55296 : Int) ≤ c) = false := decide_eq_false q2
    have q3 : ¬ (97 : Int) ≤ c := by omega
    have d3 : decide ((97 : Int) ≤ c) = false := decide_eq_false q3
    have q4 : ¬ (48 : Int) ≤ c := by omega
    have d4 : decide ((48 : Int) ≤ c) = false := decide_eq_false q4
    have q5 : ¬ (161 : Int) ≤ c := by omega
    have d5 : decide ((161 : Int) ≤ c) = false := decide_eq_false q5
    have e45 : ((c : Int) == 45) = true := by simp; omega
    have e46 : ((c : Int) == 46) = false := by simp; omega
    have e95 : ((c : Int) == 95) = false := by simp; omega
    have e173 : ((c : Int) != 173) = true := by simp; omega
    have e65279 : ((c : Int) != 65279) = true := by simp; omega
    clear h45
    go_enter Tryd.func5, Tryd.ntmps5
    go_wp2_with fail
    refine (alive_any w hh).mono ?_
    rintro e w1 ⟨rfl, hb1⟩
    have hh1 := hh.below hb1
    go_wp2_with fail
    refine (cv w1 hh1).mono ?_
    rintro e w2 ⟨rfl, hb2⟩
    have hh2 := hh1.below hb2
    go_wp2_with fail
    refine (ca w2 hh2).mono ?_
    rintro e w3 ⟨rfl, hb3⟩
    go_wp2_with fail
    refine (cc w3).mono ?_
    rintro e w4 ⟨rfl, hb4⟩
    go_wp2_with fail
    refine (cu w4).mono ?_
    rintro e w5 ⟨rfl, hb5⟩
    have hb12 := hb1.trans (hb2.mono hb1.size)
    have hb13 := hb12.trans (hb3.mono hb12.size)
    have hb14 := hb13.trans (hb4.mono hb13.size)
    have hb15 := hb14.trans (hb5.mono hb14.size)
    go_wp2
    go_ret
    exact ⟨rfl, hb15⟩
  by_cases h46 : c = 46
  · have hp : (plainR c || farR c) = false := by rw [h46]; rfl
    have hm : markR c = true := by rw [h46]; rfl
    rw [hp] at cv
    rw [hp, hm] at ca
    clear hp hm hneg hbig hhalf
    have q0 : ¬ (c : Int) < 0 := by omega
    have d0 : decide ((c : Int) < 0) = false := decide_eq_false q0
    have q1 : ¬ (1114111 : Int) < c := by omega
    have d1 : decide ((1114111 : Int) < c) = false := decide_eq_false q1
    have q2 : ¬ (55296 : Int) ≤ c := by omega
    have d2 : decide ((55296 : Int) ≤ c) = false := decide_eq_false q2
    have q3 : ¬ (97 : Int) ≤ c := by omega
    have d3 : decide ((97 : Int) ≤ c) = false := decide_eq_false q3
    have q4 : ¬ (48 : Int) ≤ c := by omega
    have d4 : decide ((48 : Int) ≤ c) = false := decide_eq_false q4
    have q5 : ¬ (161 : Int) ≤ c := by omega
    have d5 : decide ((161 : Int) ≤ c) = false := decide_eq_false q5
    have e45 : ((c : Int) == 45) = false := by simp; omega
    have e46 : ((c : Int) == 46) = true := by simp; omega
    have e95 : ((c : Int) == 95) = false := by simp; omega
    have e173 : ((c : Int) != 173) = true := by simp; omega
    have e65279 : ((c : Int) != 65279) = true := by simp; omega
    clear h46
    go_enter Tryd.func5, Tryd.ntmps5
    go_wp2_with fail
    refine (alive_any w hh).mono ?_
    rintro e w1 ⟨rfl, hb1⟩
    have hh1 := hh.below hb1
    go_wp2_with fail
    refine (cv w1 hh1).mono ?_
    rintro e w2 ⟨rfl, hb2⟩
    have hh2 := hh1.below hb2
    go_wp2_with fail
    refine (ca w2 hh2).mono ?_
    rintro e w3 ⟨rfl, hb3⟩
    go_wp2_with fail
    refine (cc w3).mono ?_
    rintro e w4 ⟨rfl, hb4⟩
    go_wp2_with fail
    refine (cu w4).mono ?_
    rintro e w5 ⟨rfl, hb5⟩
    have hb12 := hb1.trans (hb2.mono hb1.size)
    have hb13 := hb12.trans (hb3.mono hb12.size)
    have hb14 := hb13.trans (hb4.mono hb13.size)
    have hb15 := hb14.trans (hb5.mono hb14.size)
    go_wp2
    go_ret
    exact ⟨rfl, hb15⟩
  by_cases h95 : c = 95
  · have hp : (plainR c || farR c) = false := by rw [h95]; rfl
    have hm : markR c = true := by rw [h95]; rfl
    rw [hp] at cv
    rw [hp, hm] at ca
    clear hp hm hneg hbig hhalf
    have q0 : ¬ (c : Int) < 0 := by omega
    have d0 : decide ((c : Int) < 0) = false := decide_eq_false q0
    have q1 : ¬ (1114111 : Int) < c := by omega
    have d1 : decide ((1114111 : Int) < c) = false := decide_eq_false q1
    have q2 : ¬ (55296 : Int) ≤ c := by omega
    have d2 : decide ((55296 : Int) ≤ c) = false := decide_eq_false q2
    have q3 : ¬ (97 : Int) ≤ c := by omega
    have d3 : decide ((97 : Int) ≤ c) = false := decide_eq_false q3
    have q4 : (48 : Int) ≤ c := by omega
    have d4 : decide ((48 : Int) ≤ c) = true := decide_eq_true q4
    have q5 : ¬ (c : Int) ≤ 57 := by omega
    have d5 : decide ((c : Int) ≤ 57) = false := decide_eq_false q5
    have q6 : ¬ (161 : Int) ≤ c := by omega
    have d6 : decide ((161 : Int) ≤ c) = false := decide_eq_false q6
    have e45 : ((c : Int) == 45) = false := by simp; omega
    have e46 : ((c : Int) == 46) = false := by simp; omega
    have e95 : ((c : Int) == 95) = true := by simp; omega
    have e173 : ((c : Int) != 173) = true := by simp; omega
    have e65279 : ((c : Int) != 65279) = true := by simp; omega
    clear h95
    go_enter Tryd.func5, Tryd.ntmps5
    go_wp2_with fail
    refine (alive_any w hh).mono ?_
    rintro e w1 ⟨rfl, hb1⟩
    have hh1 := hh.below hb1
    go_wp2_with fail
    refine (cv w1 hh1).mono ?_
    rintro e w2 ⟨rfl, hb2⟩
    have hh2 := hh1.below hb2
    go_wp2_with fail
    refine (ca w2 hh2).mono ?_
    rintro e w3 ⟨rfl, hb3⟩
    go_wp2_with fail
    refine (cc w3).mono ?_
    rintro e w4 ⟨rfl, hb4⟩
    go_wp2_with fail
    refine (cu w4).mono ?_
    rintro e w5 ⟨rfl, hb5⟩
    have hb12 := hb1.trans (hb2.mono hb1.size)
    have hb13 := hb12.trans (hb3.mono hb12.size)
    have hb14 := hb13.trans (hb4.mono hb13.size)
    have hb15 := hb14.trans (hb5.mono hb14.size)
    go_wp2
    go_ret
    exact ⟨rfl, hb15⟩
  by_cases h173 : c = 173
  · have hp : (plainR c || farR c) = false := by rw [h173]; rfl
    have hm : markR c = false := by rw [h173]; rfl
    rw [hp] at cv
    rw [hp, hm] at ca
    clear hp hm hneg hbig hhalf
    have q0 : ¬ (c : Int) < 0 := by omega
    have d0 : decide ((c : Int) < 0) = false := decide_eq_false q0
    have q1 : ¬ (1114111 : Int) < c := by omega
    have d1 : decide ((1114111 : Int) < c) = false := decide_eq_false q1
    have q2 : ¬ (55296 : Int) ≤ c := by omega
    have d2 : decide ((55296 : Int) ≤ c) = false := decide_eq_false q2
    have q3 : (97 : Int) ≤ c := by omega
    have d3 : decide ((97 : Int) ≤ c) = true := decide_eq_true q3
    have q4 : ¬ (c : Int) ≤ 122 := by omega
    have d4 : decide ((c : Int) ≤ 122) = false := decide_eq_false q4
    have q5 : (48 : Int) ≤ c := by omega
    have d5 : decide ((48 : Int) ≤ c) = true := decide_eq_true q5
    have q6 : ¬ (c : Int) ≤ 57 := by omega
    have d6 : decide ((c : Int) ≤ 57) = false := decide_eq_false q6
    have q7 : (161 : Int) ≤ c := by omega
    have d7 : decide ((161 : Int) ≤ c) = true := decide_eq_true q7
    have q8 : (c : Int) ≤ 65535 := by omega
    have d8 : decide ((c : Int) ≤ 65535) = true := decide_eq_true q8
    have e45 : ((c : Int) == 45) = false := by simp; omega
    have e46 : ((c : Int) == 46) = false := by simp; omega
    have e95 : ((c : Int) == 95) = false := by simp; omega
    have e173 : ((c : Int) != 173) = false := by simp; omega
    have e65279 : ((c : Int) != 65279) = true := by simp; omega
    clear h173
    go_enter Tryd.func5, Tryd.ntmps5
    go_wp2_with fail
    refine (alive_any w hh).mono ?_
    rintro e w1 ⟨rfl, hb1⟩
    have hh1 := hh.below hb1
    go_wp2_with fail
    refine (cv w1 hh1).mono ?_
    rintro e w2 ⟨rfl, hb2⟩
    have hh2 := hh1.below hb2
    go_wp2_with fail
    refine (ca w2 hh2).mono ?_
    rintro e w3 ⟨rfl, hb3⟩
    go_wp2_with fail
    refine (cc w3).mono ?_
    rintro e w4 ⟨rfl, hb4⟩
    go_wp2_with fail
    refine (cu w4).mono ?_
    rintro e w5 ⟨rfl, hb5⟩
    have hb12 := hb1.trans (hb2.mono hb1.size)
    have hb13 := hb12.trans (hb3.mono hb12.size)
    have hb14 := hb13.trans (hb4.mono hb13.size)
    have hb15 := hb14.trans (hb5.mono hb14.size)
    go_wp2
    go_ret
    exact ⟨rfl, hb15⟩
  by_cases h65279 : c = 65279
  · have hp : (plainR c || farR c) = false := by rw [h65279]; rfl
    have hm : markR c = false := by rw [h65279]; rfl
    rw [hp] at cv
    rw [hp, hm] at ca
    clear hp hm hneg hbig hhalf
    have q0 : ¬ (c : Int) < 0 := by omega
    have d0 : decide ((c : Int) < 0) = false := decide_eq_false q0
    have q1 : ¬ (1114111 : Int) < c := by omega
    have d1 : decide ((1114111 : Int) < c) = false := decide_eq_false q1
    have q2 : (55296 : Int) ≤ c := by omega
    have d2 : decide ((55296 : Int) ≤ c) = true := decide_eq_true q2
    have q3 : ¬ (c : Int) ≤ 57343 := by omega
    have d3 : decide ((c : Int) ≤ 57343) = false := decide_eq_false q3
    have q4 : (97 : Int) ≤ c := by omega
    have d4 : decide ((97 : Int) ≤ c) = true := decide_eq_true q4
    have q5 : ¬ (c : Int) ≤ 122 := by omega
    have d5 : decide ((c : Int) ≤ 122) = false := decide_eq_false q5
    have q6 : (48 : Int) ≤ c := by omega
    have d6 : decide ((48 : Int) ≤ c) = true := decide_eq_true q6
    have q7 : ¬ (c : Int) ≤ 57 := by omega
    have d7 : decide ((c : Int) ≤ 57) = false := decide_eq_false q7
    have q8 : (161 : Int) ≤ c := by omega
    have d8 : decide ((161 : Int) ≤ c) = true := decide_eq_true q8
    have q9 : (c : Int) ≤ 65535 := by omega
    have d9 : decide ((c : Int) ≤ 65535) = true := decide_eq_true q9
    have e45 : ((c : Int) == 45) = false := by simp; omega
    have e46 : ((c : Int) == 46) = false := by simp; omega
    have e95 : ((c : Int) == 95) = false := by simp; omega
    have e173 : ((c : Int) != 173) = true := by simp; omega
    have e65279 : ((c : Int) != 65279) = false := by simp; omega
    clear h65279
    go_enter Tryd.func5, Tryd.ntmps5
    go_wp2_with fail
    refine (alive_any w hh).mono ?_
    rintro e w1 ⟨rfl, hb1⟩
    have hh1 := hh.below hb1
    go_wp2_with fail
    refine (cv w1 hh1).mono ?_
    rintro e w2 ⟨rfl, hb2⟩
    have hh2 := hh1.below hb2
    go_wp2_with fail
    refine (ca w2 hh2).mono ?_
    rintro e w3 ⟨rfl, hb3⟩
    go_wp2_with fail
    refine (cc w3).mono ?_
    rintro e w4 ⟨rfl, hb4⟩
    go_wp2_with fail
    refine (cu w4).mono ?_
    rintro e w5 ⟨rfl, hb5⟩
    have hb12 := hb1.trans (hb2.mono hb1.size)
    have hb13 := hb12.trans (hb3.mono hb12.size)
    have hb14 := hb13.trans (hb4.mono hb13.size)
    have hb15 := hb14.trans (hb5.mono hb14.size)
    go_wp2
    go_ret
    exact ⟨rfl, hb15⟩
  by_cases r0 : c < 48
  · have hp : (plainR c || farR c) = false := by simp [plainR, farR]; omega
    have hm : markR c = false := by simp [markR]; omega
    rw [hp] at cv
    rw [hp, hm] at ca
    clear hp hm
    have q0 : ¬ (c : Int) < 0 := by omega
    have d0 : decide ((c : Int) < 0) = false := decide_eq_false q0
    have q1 : ¬ (1114111 : Int) < c := by omega
    have d1 : decide ((1114111 : Int) < c) = false := decide_eq_false q1
    have q2 : ¬ (55296 : Int) ≤ c := by omega
    have d2 : decide ((55296 : Int) ≤ c) = false := decide_eq_false q2
    have q3 : ¬ (97 : Int) ≤ c := by omega
    have d3 : decide ((97 : Int) ≤ c) = false := decide_eq_false q3
    have q4 : ¬ (48 : Int) ≤ c := by omega
    have d4 : decide ((48 : Int) ≤ c) = false := decide_eq_false q4
    have q5 : ¬ (161 : Int) ≤ c := by omega
    have d5 : decide ((161 : Int) ≤ c) = false := decide_eq_false q5
    clear hneg hbig hhalf
    have e45 : ((c : Int) == 45) = false := by simp; omega
    have e46 : ((c : Int) == 46) = false := by simp; omega
    have e95 : ((c : Int) == 95) = false := by simp; omega
    have e173 : ((c : Int) != 173) = true := by simp; omega
    have e65279 : ((c : Int) != 65279) = true := by simp; omega
    clear r0 h45 h46 h95 h173 h65279
    go_enter Tryd.func5, Tryd.ntmps5
    go_wp2_with fail
    refine (alive_any w hh).mono ?_
    rintro e w1 ⟨rfl, hb1⟩
    have hh1 := hh.below hb1
    go_wp2_with fail
    refine (cv w1 hh1).mono ?_
    rintro e w2 ⟨rfl, hb2⟩
    have hh2 := hh1.below hb2
    go_wp2_with fail
    refine (ca w2 hh2).mono ?_
    rintro e w3 ⟨rfl, hb3⟩
    go_wp2_with fail
    refine (cc w3).mono ?_
    rintro e w4 ⟨rfl, hb4⟩
    go_wp2_with fail
    refine (cu w4).mono ?_
    rintro e w5 ⟨rfl, hb5⟩
    have hb12 := hb1.trans (hb2.mono hb1.size)
    have hb13 := hb12.trans (hb3.mono hb12.size)
    have hb14 := hb13.trans (hb4.mono hb13.size)
    have hb15 := hb14.trans (hb5.mono hb14.size)
    go_wp2
    go_ret
    exact ⟨rfl, hb15⟩
  by_cases r1 : c ≤ 57
  · have hp : (plainR c || farR c) = true := by simp [plainR, farR]; omega
    have hm : markR c = false := by simp [markR]; omega
    rw [hp] at cv
    rw [hp, hm] at ca
    clear hp hm
    have q0 : ¬ (c : Int) < 0 := by omega
    have d0 : decide ((c : Int) < 0) = false := decide_eq_false q0
    have q1 : ¬ (1114111 : Int) < c := by omega
    have d1 : decide ((1114111 : Int) < c) = false := decide_eq_false q1
    have q2 : ¬ (55296 : Int) ≤ c := by omega
    have d2 : decide ((55296 : Int) ≤ c) = false := decide_eq_false q2
    have q3 : ¬ (97 : Int) ≤ c := by omega
    have d3 : decide ((97 : Int) ≤ c) = false := decide_eq_false q3
    have q4 : (48 : Int) ≤ c := by omega
    have d4 : decide ((48 : Int) ≤ c) = true := decide_eq_true q4
    have q5 : (c : Int) ≤ 57 := by omega
    have d5 : decide ((c : Int) ≤ 57) = true := decide_eq_true q5
    have q6 : ¬ (161 : Int) ≤ c := by omega
    have d6 : decide ((161 : Int) ≤ c) = false := decide_eq_false q6
    clear hneg hbig hhalf
    have e45 : ((c : Int) == 45) = false := by simp; omega
    have e46 : ((c : Int) == 46) = false := by simp; omega
    have e95 : ((c : Int) == 95) = false := by simp; omega
    have e173 : ((c : Int) != 173) = true := by simp; omega
    have e65279 : ((c : Int) != 65279) = true := by simp; omega
    clear r0 r1 h45 h46 h95 h173 h65279
    go_enter Tryd.func5, Tryd.ntmps5
    go_wp2_with fail
    refine (alive_any w hh).mono ?_
    rintro e w1 ⟨rfl, hb1⟩
    have hh1 := hh.below hb1
    go_wp2_with fail
    refine (cv w1 hh1).mono ?_
    rintro e w2 ⟨rfl, hb2⟩
    have hh2 := hh1.below hb2
    go_wp2_with fail
    refine (ca w2 hh2).mono ?_
    rintro e w3 ⟨rfl, hb3⟩
    go_wp2_with fail
    refine (cc w3).mono ?_
    rintro e w4 ⟨rfl, hb4⟩
    go_wp2_with fail
    refine (cu w4).mono ?_
    rintro e w5 ⟨rfl, hb5⟩
    have hb12 := hb1.trans (hb2.mono hb1.size)
    have hb13 := hb12.trans (hb3.mono hb12.size)
    have hb14 := hb13.trans (hb4.mono hb13.size)
    have hb15 := hb14.trans (hb5.mono hb14.size)
    go_wp2
    go_ret
    exact ⟨rfl, hb15⟩
  by_cases r2 : c < 97
  · have hp : (plainR c || farR c) = false := by simp [plainR, farR]; omega
    have hm : markR c = false := by simp [markR]; omega
    rw [hp] at cv
    rw [hp, hm] at ca
    clear hp hm
    have q0 : ¬ (c : Int) < 0 := by omega
    have d0 : decide ((c : Int) < 0) = false := decide_eq_false q0
    have q1 : ¬ (1114111 : Int) < c := by omega
    have d1 : decide ((1114111 : Int) < c) = false := decide_eq_false q1
    have q2 : ¬ (55296 : Int) ≤ c := by omega
    have d2 : decide ((55296 : Int) ≤ c) = false := decide_eq_false q2
    have q3 : ¬ (97 : Int) ≤ c := by omega
    have d3 : decide ((97 : Int) ≤ c) = false := decide_eq_false q3
    have q4 : (48 : Int) ≤ c := by omega
    have d4 : decide ((48 : Int) ≤ c) = true := decide_eq_true q4
    have q5 : ¬ (c : Int) ≤ 57 := by omega
    have d5 : decide ((c : Int) ≤ 57) = false := decide_eq_false q5
    have q6 : ¬ (161 : Int) ≤ c := by omega
    have d6 : decide ((161 : Int) ≤ c) = false := decide_eq_false q6
    clear hneg hbig hhalf
    have e45 : ((c : Int) == 45) = false := by simp; omega
    have e46 : ((c : Int) == 46) = false := by simp; omega
    have e95 : ((c : Int) == 95) = false := by simp; omega
    have e173 : ((c : Int) != 173) = true := by simp; omega
    have e65279 : ((c : Int) != 65279) = true := by simp; omega
    clear r0 r1 r2 h45 h46 h95 h173 h65279
    go_enter Tryd.func5, Tryd.ntmps5
    go_wp2_with fail
    refine (alive_any w hh).mono ?_
    rintro e w1 ⟨rfl, hb1⟩
    have hh1 := hh.below hb1
    go_wp2_with fail
    refine (cv w1 hh1).mono ?_
    rintro e w2 ⟨rfl, hb2⟩
    have hh2 := hh1.below hb2
    go_wp2_with fail
    refine (ca w2 hh2).mono ?_
    rintro e w3 ⟨rfl, hb3⟩
    go_wp2_with fail
    refine (cc w3).mono ?_
    rintro e w4 ⟨rfl, hb4⟩
    go_wp2_with fail
    refine (cu w4).mono ?_
    rintro e w5 ⟨rfl, hb5⟩
    have hb12 := hb1.trans (hb2.mono hb1.size)
    have hb13 := hb12.trans (hb3.mono hb12.size)
    have hb14 := hb13.trans (hb4.mono hb13.size)
    have hb15 := hb14.trans (hb5.mono hb14.size)
    go_wp2
    go_ret
    exact ⟨rfl, hb15⟩
  by_cases r3 : c ≤ 122
  · have hp : (plainR c || farR c) = true := by simp [plainR, farR]; omega
    have hm : markR c = false := by simp [markR]; omega
    rw [hp] at cv
    rw [hp, hm] at ca
    clear hp hm
    have q0 : ¬ (c : Int) < 0 := by omega
    have d0 : decide ((c : Int) < 0) = false := decide_eq_false q0
    have q1 : ¬ (1114111 : Int) < c := by omega
    have d1 : decide ((1114111 : Int) < c) = false := decide_eq_false q1
    have q2 : ¬ (55296 : Int) ≤ c := by omega
    have d2 : decide ((55296 : Int) ≤ c) = false := decide_eq_false q2
    have q3 : (97 : Int) ≤ c := by omega
    have d3 : decide ((97 : Int) ≤ c) = true := decide_eq_true q3
    have q4 : (c : Int) ≤ 122 := by omega
    have d4 : decide ((c : Int) ≤ 122) = true := decide_eq_true q4
    have q5 : (48 : Int) ≤ c := by omega
    have d5 : decide ((48 : Int) ≤ c) = true := decide_eq_true q5
    have q6 : ¬ (c : Int) ≤ 57 := by omega
    have d6 : decide ((c : Int) ≤ 57) = false := decide_eq_false q6
    have q7 : ¬ (161 : Int) ≤ c := by omega
    have d7 : decide ((161 : Int) ≤ c) = false := decide_eq_false q7
    clear hneg hbig hhalf
    have e45 : ((c : Int) == 45) = false := by simp; omega
    have e46 : ((c : Int) == 46) = false := by simp; omega
    have e95 : ((c : Int) == 95) = false := by simp; omega
    have e173 : ((c : Int) != 173) = true := by simp; omega
    have e65279 : ((c : Int) != 65279) = true := by simp; omega
    clear r0 r1 r2 r3 h45 h46 h95 h173 h65279
    go_enter Tryd.func5, Tryd.ntmps5
    go_wp2_with fail
    refine (alive_any w hh).mono ?_
    rintro e w1 ⟨rfl, hb1⟩
    have hh1 := hh.below hb1
    go_wp2_with fail
    refine (cv w1 hh1).mono ?_
    rintro e w2 ⟨rfl, hb2⟩
    have hh2 := hh1.below hb2
    go_wp2_with fail
    refine (ca w2 hh2).mono ?_
    rintro e w3 ⟨rfl, hb3⟩
    go_wp2_with fail
    refine (cc w3).mono ?_
    rintro e w4 ⟨rfl, hb4⟩
    go_wp2_with fail
    refine (cu w4).mono ?_
    rintro e w5 ⟨rfl, hb5⟩
    have hb12 := hb1.trans (hb2.mono hb1.size)
    have hb13 := hb12.trans (hb3.mono hb12.size)
    have hb14 := hb13.trans (hb4.mono hb13.size)
    have hb15 := hb14.trans (hb5.mono hb14.size)
    go_wp2
    go_ret
    exact ⟨rfl, hb15⟩
  by_cases r4 : c < 161
  · have hp : (plainR c || farR c) = false := by simp [plainR, farR]; omega
    have hm : markR c = false := by simp [markR]; omega
    rw [hp] at cv
    rw [hp, hm] at ca
    clear hp hm
    have q0 : ¬ (c : Int) < 0 := by omega
    have d0 : decide ((c : Int) < 0) = false := decide_eq_false q0
    have q1 : ¬ (1114111 : Int) < c := by omega
    have d1 : decide ((1114111 : Int) < c) = false := decide_eq_false q1
    have q2 : ¬ (55296 : Int) ≤ c := by omega
    have d2 : decide ((55296 : Int) ≤ c) = false := decide_eq_false q2
    have q3 : (97 : Int) ≤ c := by omega
    have d3 : decide ((97 : Int) ≤ c) = true := decide_eq_true q3
    have q4 : ¬ (c : Int) ≤ 122 := by omega
    have d4 : decide ((c : Int) ≤ 122) = false := decide_eq_false q4
    have q5 : (48 : Int) ≤ c := by omega
    have d5 : decide ((48 : Int) ≤ c) = true := decide_eq_true q5
    have q6 : ¬ (c : Int) ≤ 57 := by omega
    have d6 : decide ((c : Int) ≤ 57) = false := decide_eq_false q6
    have q7 : ¬ (161 : Int) ≤ c := by omega
    have d7 : decide ((161 : Int) ≤ c) = false := decide_eq_false q7
    clear hneg hbig hhalf
    have e45 : ((c : Int) == 45) = false := by simp; omega
    have e46 : ((c : Int) == 46) = false := by simp; omega
    have e95 : ((c : Int) == 95) = false := by simp; omega
    have e173 : ((c : Int) != 173) = true := by simp; omega
    have e65279 : ((c : Int) != 65279) = true := by simp; omega
    clear r0 r1 r2 r3 r4 h45 h46 h95 h173 h65279
    go_enter Tryd.func5, Tryd.ntmps5
    go_wp2_with fail
    refine (alive_any w hh).mono ?_
    rintro e w1 ⟨rfl, hb1⟩
    have hh1 := hh.below hb1
    go_wp2_with fail
    refine (cv w1 hh1).mono ?_
    rintro e w2 ⟨rfl, hb2⟩
    have hh2 := hh1.below hb2
    go_wp2_with fail
    refine (ca w2 hh2).mono ?_
    rintro e w3 ⟨rfl, hb3⟩
    go_wp2_with fail
    refine (cc w3).mono ?_
    rintro e w4 ⟨rfl, hb4⟩
    go_wp2_with fail
    refine (cu w4).mono ?_
    rintro e w5 ⟨rfl, hb5⟩
    have hb12 := hb1.trans (hb2.mono hb1.size)
    have hb13 := hb12.trans (hb3.mono hb12.size)
    have hb14 := hb13.trans (hb4.mono hb13.size)
    have hb15 := hb14.trans (hb5.mono hb14.size)
    go_wp2
    go_ret
    exact ⟨rfl, hb15⟩
  by_cases r5 : c < 55296
  · have hp : (plainR c || farR c) = true := by simp [plainR, farR]; omega
    have hm : markR c = false := by simp [markR]; omega
    rw [hp] at cv
    rw [hp, hm] at ca
    clear hp hm
    have q0 : ¬ (c : Int) < 0 := by omega
    have d0 : decide ((c : Int) < 0) = false := decide_eq_false q0
    have q1 : ¬ (1114111 : Int) < c := by omega
    have d1 : decide ((1114111 : Int) < c) = false := decide_eq_false q1
    have q2 : ¬ (55296 : Int) ≤ c := by omega
    have d2 : decide ((55296 : Int) ≤ c) = false := decide_eq_false q2
    have q3 : (97 : Int) ≤ c := by omega
    have d3 : decide ((97 : Int) ≤ c) = true := decide_eq_true q3
    have q4 : ¬ (c : Int) ≤ 122 := by omega
    have d4 : decide ((c : Int) ≤ 122) = false := decide_eq_false q4
    have q5 : (48 : Int) ≤ c := by omega
    have d5 : decide ((48 : Int) ≤ c) = true := decide_eq_true q5
    have q6 : ¬ (c : Int) ≤ 57 := by omega
    have d6 : decide ((c : Int) ≤ 57) = false := decide_eq_false q6
    have q7 : (161 : Int) ≤ c := by omega
    have d7 : decide ((161 : Int) ≤ c) = true := decide_eq_true q7
    have q8 : (c : Int) ≤ 65535 := by omega
    have d8 : decide ((c : Int) ≤ 65535) = true := decide_eq_true q8
    clear hneg hbig hhalf
    have e45 : ((c : Int) == 45) = false := by simp; omega
    have e46 : ((c : Int) == 46) = false := by simp; omega
    have e95 : ((c : Int) == 95) = false := by simp; omega
    have e173 : ((c : Int) != 173) = true := by simp; omega
    have e65279 : ((c : Int) != 65279) = true := by simp; omega
    clear r0 r1 r2 r3 r4 r5 h45 h46 h95 h173 h65279
    go_enter Tryd.func5, Tryd.ntmps5
    go_wp2_with fail
    refine (alive_any w hh).mono ?_
    rintro e w1 ⟨rfl, hb1⟩
    have hh1 := hh.below hb1
    go_wp2_with fail
    refine (cv w1 hh1).mono ?_
    rintro e w2 ⟨rfl, hb2⟩
    have hh2 := hh1.below hb2
    go_wp2_with fail
    refine (ca w2 hh2).mono ?_
    rintro e w3 ⟨rfl, hb3⟩
    go_wp2_with fail
    refine (cc w3).mono ?_
    rintro e w4 ⟨rfl, hb4⟩
    go_wp2_with fail
    refine (cu w4).mono ?_
    rintro e w5 ⟨rfl, hb5⟩
    have hb12 := hb1.trans (hb2.mono hb1.size)
    have hb13 := hb12.trans (hb3.mono hb12.size)
    have hb14 := hb13.trans (hb4.mono hb13.size)
    have hb15 := hb14.trans (hb5.mono hb14.size)
    go_wp2
    go_ret
    exact ⟨rfl, hb15⟩
  by_cases r6 : c ≤ 65535
  · have hp : (plainR c || farR c) = true := by simp [plainR, farR]; omega
    have hm : markR c = false := by simp [markR]; omega
    rw [hp] at cv
    rw [hp, hm] at ca
    clear hp hm
    have q0 : ¬ (c : Int) < 0 := by omega
    have d0 : decide ((c : Int) < 0) = false := decide_eq_false q0
    have q1 : ¬ (1114111 : Int) < c := by omega
    have d1 : decide ((1114111 : Int) < c) = false := decide_eq_false q1
    have q2 : (55296 : Int) ≤ c := by omega
    have d2 : decide ((55296 : Int) ≤ c) = true := decide_eq_true q2
    have q3 : ¬ (c : Int) ≤ 57343 := by omega
    have d3 : decide ((c : Int) ≤ 57343) = false := decide_eq_false q3
    have q4 : (97 : Int) ≤ c := by omega
    have d4 : decide ((97 : Int) ≤ c) = true := decide_eq_true q4
    have q5 : ¬ (c : Int) ≤ 122 := by omega
    have d5 : decide ((c : Int) ≤ 122) = false := decide_eq_false q5
    have q6 : (48 : Int) ≤ c := by omega
    have d6 : decide ((48 : Int) ≤ c) = true := decide_eq_true q6
    have q7 : ¬ (c : Int) ≤ 57 := by omega
    have d7 : decide ((c : Int) ≤ 57) = false := decide_eq_false q7
    have q8 : (161 : Int) ≤ c := by omega
    have d8 : decide ((161 : Int) ≤ c) = true := decide_eq_true q8
    have q9 : (c : Int) ≤ 65535 := by omega
    have d9 : decide ((c : Int) ≤ 65535) = true := decide_eq_true q9
    clear hneg hbig hhalf
    have e45 : ((c : Int) == 45) = false := by simp; omega
    have e46 : ((c : Int) == 46) = false := by simp; omega
    have e95 : ((c : Int) == 95) = false := by simp; omega
    have e173 : ((c : Int) != 173) = true := by simp; omega
    have e65279 : ((c : Int) != 65279) = true := by simp; omega
    clear r0 r1 r2 r3 r4 r5 r6 h45 h46 h95 h173 h65279
    go_enter Tryd.func5, Tryd.ntmps5
    go_wp2_with fail
    refine (alive_any w hh).mono ?_
    rintro e w1 ⟨rfl, hb1⟩
    have hh1 := hh.below hb1
    go_wp2_with fail
    refine (cv w1 hh1).mono ?_
    rintro e w2 ⟨rfl, hb2⟩
    have hh2 := hh1.below hb2
    go_wp2_with fail
    refine (ca w2 hh2).mono ?_
    rintro e w3 ⟨rfl, hb3⟩
    go_wp2_with fail
    refine (cc w3).mono ?_
    rintro e w4 ⟨rfl, hb4⟩
    go_wp2_with fail
    refine (cu w4).mono ?_
    rintro e w5 ⟨rfl, hb5⟩
    have hb12 := hb1.trans (hb2.mono hb1.size)
    have hb13 := hb12.trans (hb3.mono hb12.size)
    have hb14 := hb13.trans (hb4.mono hb13.size)
    have hb15 := hb14.trans (hb5.mono hb14.size)
    go_wp2
    go_ret
    exact ⟨rfl, hb15⟩
  have hp : (plainR c || farR c) = false := by simp [plainR, farR]; omega
  have hm : markR c = false := by simp [markR]; omega
  rw [hp] at cv
  rw [hp, hm] at ca
  clear hp hm
  have q0 : ¬ (c : Int) < 0 := by omega
  have d0 : decide ((c : Int) < 0) = false := decide_eq_false q0
  have q1 : ¬ (1114111 : Int) < c := by omega
  have d1 : decide ((1114111 : Int) < c) = false := decide_eq_false q1
  have q2 : (55296 : Int) ≤ c := by omega
  have d2 : decide ((55296 : Int) ≤ c) = true := decide_eq_true q2
  have q3 : ¬ (c : Int) ≤ 57343 := by omega
  have d3 : decide ((c : Int) ≤ 57343) = false := decide_eq_false q3
  have q4 : (97 : Int) ≤ c := by omega
  have d4 : decide ((97 : Int) ≤ c) = true := decide_eq_true q4
  have q5 : ¬ (c : Int) ≤ 122 := by omega
  have d5 : decide ((c : Int) ≤ 122) = false := decide_eq_false q5
  have q6 : (48 : Int) ≤ c := by omega
  have d6 : decide ((48 : Int) ≤ c) = true := decide_eq_true q6
  have q7 : ¬ (c : Int) ≤ 57 := by omega
  have d7 : decide ((c : Int) ≤ 57) = false := decide_eq_false q7
  have q8 : (161 : Int) ≤ c := by omega
  have d8 : decide ((161 : Int) ≤ c) = true := decide_eq_true q8
  have q9 : ¬ (c : Int) ≤ 65535 := by omega
  have d9 : decide ((c : Int) ≤ 65535) = false := decide_eq_false q9
  clear hneg hbig hhalf
  have e45 : ((c : Int) == 45) = false := by simp; omega
  have e46 : ((c : Int) == 46) = false := by simp; omega
  have e95 : ((c : Int) == 95) = false := by simp; omega
  have e173 : ((c : Int) != 173) = true := by simp; omega
  have e65279 : ((c : Int) != 65279) = true := by simp; omega
  clear r0 r1 r2 r3 r4 r5 r6 h45 h46 h95 h173 h65279
  go_enter Tryd.func5, Tryd.ntmps5
  go_wp2_with fail
  refine (alive_any w hh).mono ?_
  rintro e w1 ⟨rfl, hb1⟩
  have hh1 := hh.below hb1
  go_wp2_with fail
  refine (cv w1 hh1).mono ?_
  rintro e w2 ⟨rfl, hb2⟩
  have hh2 := hh1.below hb2
  go_wp2_with fail
  refine (ca w2 hh2).mono ?_
  rintro e w3 ⟨rfl, hb3⟩
  go_wp2_with fail
  refine (cc w3).mono ?_
  rintro e w4 ⟨rfl, hb4⟩
  go_wp2_with fail
  refine (cu w4).mono ?_
  rintro e w5 ⟨rfl, hb5⟩
  have hb12 := hb1.trans (hb2.mono hb1.size)
  have hb13 := hb12.trans (hb3.mono hb12.size)
  have hb14 := hb13.trans (hb4.mono hb13.size)
  have hb15 := hb14.trans (hb5.mono hb14.size)
  go_wp2
  go_ret
  exact ⟨rfl, hb15⟩

set_option maxRecDepth 100000 in
theorem lifted (os : Os) (started : os.Started) (H : Type) (enc : TypeId × Value → H) :
    ReturnsInHanded {} Tryd.checked os 5 .any (fun w args => (Rows.namesSignsSpec.pre enc Tryd.prog Tryd.f5 [] false w args ∧ laidMetH Tryd.prog laid1 w) ∧ sizedMet enc Tryd.prog Tryd.f5 (OpenSpec.ofChange Rows.namesSignsSpec) false w args) (Rows.namesSignsSpec.post enc Tryd.prog Tryd.f5 false true false false) := by
  refine returnsInHanded_of_change_and (C := Tryd.checked) (X := fun w _ => laidMetH Tryd.prog laid1 w) (fun _ _ _ hh h => h.of_heap hh) own started (by kernel_rfl) Tryd.func5
    (ChangeSpec.witness_shaped (enc := enc) (C := Tryd.checked) (os := os) (X := fun w _ => laidMetH Tryd.prog laid1 w) false (World.laidAll Tryd.prog os laid1) #[.int .i64 0] 8 (World.laidAll_os _ _ _) (World.shaped_of_ZipB (by kernel_rfl) (by kernel_rfl)) (by kernel_rfl) (by kernel_rfl) (by kernel_rfl) (door_met os _)) ?_
  intro W base args ds gs before hval0 hW _ _ hL _
  have hval : ∀ (j : Nat) t v, Tryd.f5.params[j]? = some t → args[j]? = some v → Value.okWide Tryd.prog W .any base t v := hval0
  have hW' := hW
  obtain ⟨p, q, hA0, hV, rfl, hfz, hnd⟩ := hW
  have hA : DataW.TrodAll enc Tryd.prog W 0 (fun _ => true) true Tryd.f5.params.toList args.toList ds p := hA0
  rw [Tryd.params5] at hA hval
  obtain ⟨v0, vs0, d0, ds0, p0, q0, hargs, rfl, rfl, h0, r0⟩ := trodAll_cons hA
  obtain ⟨rfl, rfl, rfl⟩ := trodAll_nil r0
  obtain rfl : args = #[v0] := by cases args; simp_all
  obtain ⟨rfl, rfl⟩ := trodVars_none hV
  obtain ⟨a0, rfl, rfl, rfl, w0⟩ := open_int Tryd.underlying3 (hval 0 3 v0 rfl rfl) h0
  clear hA0 hval0
  simp only [List.append_nil] at hW'
  refine (walk a0 w0 W (of_laid hL)).mono fun e W' ⟨he, bel⟩ => ?_
  subst he
  exact ⟨_, rfl, _, _, _, [], [], [], hW', (trodAll_cons_mk (shut_bool Tryd.underlying4 _) trodAll_mk0), (trodAll_cons_mk (shut_int Tryd.underlying3 w0) trodAll_mk0), rfl, bel.frame _, fun h => by cases h⟩

theorem over : Rows.namesSignsRow.holds Tryd.pinned (OpenSpec.ofChange Rows.namesSignsSpec) :=
  OpenClaim.holds_of_wide 5 Tryd.f5 rfl rfl rfl rfl rfl rfl rfl ⟨rfl, rfl, rfl, rfl, rfl⟩ rfl rfl rfl rfl rfl (by kernel_rfl) Tryd.func5 (by kernel_rfl)
    (of_decide_eq_true (by kernel_rfl)) (by unfold Func.isWrapper; first | (rw [if_pos (by decide +kernel)]; kernel_rfl) | (rw [if_neg (by decide +kernel)]; exact ⟨rfl, rfl⟩))
    (fun os started H enc _ => lifted os started H enc)

theorem proved : Rows.NamesSignsCardSaid :=
  Claim7.holds_tied_plain_at .later [] [.data, .pinned] true (true, "dfb91a640cee4f78bae66a14287d2fb00db62dae2a497d04d981e9d8a0b6174b") false
    over (fun _ h => by cases h) (by kernel_rfl) (fun _ h => by cases h) namesSigns_row_tie rfl ⟨rfl, rfl⟩ (by kernel_rfl) rfl
    (fun f fn hf hfn => by
      obtain rfl : f = 5 := Option.some.inj ((show Tryd.prog.funcNamed "cooperage/cooperagelaw3.NamesSigns" = some 5 by kernel_rfl).symm.trans hf) |>.symm
      obtain rfl : fn = Tryd.f5 := (Option.some.inj (Tryd.func5.symm.trans hfn)).symm
      exact ⟨by kernel_rfl, fun j t ht => by
        rw [Tryd.params5] at ht
        have hm : t ∈ [3] := by simpa using Array.mem_of_getElem? ht
        have hall : ([3].all fun u => !Tryd.prog.wantsStandIn u) = true := by kernel_rfl
        exact (show Tryd.prog.wantsStandIn t = false by simpa using List.all_eq_true.1 hall t hm)⟩)
    (by kernel_rfl)
#print axioms proved
end Go.Proofs.YtddlebgfbnfbbaaDoor.namesSigns
