/- Proved: for every key, value, which and dead, RecordBounds(key, value, which, dead) returns true: record.Right tells just those records right whose numbers and lengths are within the bounds, at each end of each, and record.Size of just those is above 0. Conditions: none. -/
import Derived.Test.YtdhahjkldmbneaaRows
import Derived.WalkKit
import Derived.ProofKit
import Derived.OpenShut
import Derived.ShutString
import Derived.Below
import Derived.Deep.CutBlock
import Derived.Deep.DeepCutAuto
import Derived.Test.YtdhahjkldmbneaaRecAlive
import Derived.Test.YtdhahjkldmbneaaRecText
namespace Go.Proofs.Ytdhahjkldmbneaa.recordBounds
open Go.ChangeShapes Go.WideShapes Go.ChangeAt Go.RowKit
open Go.ChangeMaps (open_string shut_string)
set_option linter.unusedVariables false

theorem own : ownKnob Try.prog.godebug = none := by kernel_rfl

set_option maxRecDepth 100000 in
set_option maxHeartbeats 16000000 in
theorem walk (a0 : Int) (a1 : Int) (a2 : Int) (a3 : Bool) (w0 : (Lit.int .i64 a0).wf = true) (w1 : (Lit.int .i64 a1).wf = true) (w2 : (Lit.int .i64 a2).wf = true) (w : World) :
    Calls Try.prog 7 #[.int .i64 a0, .int .i64 a1, .int .i64 a2, .bool a3] w fun e w' => e = .returned (.bool true) ∧ Below w.heap.size w w' := by
  by_cases k0 : a0 < 0
  · clear w0 w1 w2
    go_enter Try.func7, Try.ntmps7
    go_wp2_with fail
    refine (alive_any w).mono ?_
    rintro e w1 ⟨rfl, hbel⟩
    go_wp2
    go_ret
    exact ⟨rfl, hbel⟩
  by_cases k1 : 210 < a0
  · clear w0 w1 w2
    go_enter Try.func7, Try.ntmps7
    go_wp2_with fail
    refine (alive_any w).mono ?_
    rintro e w1 ⟨rfl, hbel⟩
    go_wp2
    go_ret
    exact ⟨rfl, hbel⟩
  by_cases v0 : a1 < 0
  · clear w0 w1 w2
    go_enter Try.func7, Try.ntmps7
    go_wp2_with fail
    refine (alive_any w).mono ?_
    rintro e w1 ⟨rfl, hbel⟩
    go_wp2
    go_ret
    exact ⟨rfl, hbel⟩
  by_cases v1 : 2010 < a1
  · clear w0 w1 w2
    go_enter Try.func7, Try.ntmps7
    go_wp2_with fail
    refine (alive_any w).mono ?_
    rintro e w1 ⟨rfl, hbel⟩
    go_wp2
    go_ret
    exact ⟨rfl, hbel⟩
  obtain ⟨k, rfl⟩ : ∃ k : Nat, a0 = k := ⟨a0.toNat, by omega⟩
  obtain ⟨v, rfl⟩ : ∃ v : Nat, a1 = v := ⟨a1.toNat, by omega⟩
  clear w0 w1 w2
  have HT1 := Lib.hid (fun W => text_any k W (by omega))
  have HT2 := Lib.hid (fun W => text_any v W (by omega))
  obtain ⟨okB, hok⟩ : ∃ okB, decide ((1 : Int) ≤ k ∧ (k : Int) ≤ 200 ∧ (v : Int) ≤ 2000 ∧ (a3 = true → v = 0)) = okB := ⟨_, rfl⟩
  have HOK := Lib.hid hok
  clear hok
  go_enter Try.func7, Try.ntmps7
  go_wp2_with fail
  refine (alive_any w).mono ?_
  rintro e w1 ⟨rfl, hb1⟩
  go_wp2_with fail
  refine (HT1.out w1).mono ?_
  rintro e w2 ⟨⟨sk, rfl, hsk⟩, hb2⟩
  go_wp2_with fail
  refine (HT2.out w2).mono ?_
  rintro e w3 ⟨⟨sv, rfl, hsv⟩, hb3⟩
  have HSK := Lib.hid hsk
  have HSV := Lib.hid hsv
  have hb13 := (hb1.trans (hb2.mono hb1.size)).trans (hb3.mono (hb1.trans (hb2.mono hb1.size)).size)
  have HB := Lib.hid hb13
  clear hsk hsv HT1 HT2 hb1 hb2 hb3 hb13
  go_upto_region 5 with fail
  go_cut [11] (fun s11 wx => s11 = .bool okB ∧ wx = w3.alloc (.cells #[.int .i64 0, .int .i64 0, .string sk, .string sv, .bool a3] 24))
  case first =>
    by_cases f1 : (1 : Int) ≤ k
    · have d1 := decide_eq_true f1
      by_cases f2 : (k : Int) ≤ 200
      · have d2 := decide_eq_true f2
        by_cases f3 : (v : Int) ≤ 2000
        · have d3 := decide_eq_true f3
          cases a3 with
          | false =>
            have hv : okB = true := by rw [← HOK.out]; simp; omega
            subst hv
            clear HOK
            go_wp2
            go_meet
            exact ⟨rfl, rfl⟩
          | true =>
            by_cases f4 : v = 0
            · have hv : okB = true := by rw [← HOK.out]; simp; omega
              subst hv
              have e4 : ((v : Int) == 0) = true := by simpa using f4
              clear HOK f4
              go_wp2
              go_meet
              exact ⟨rfl, rfl⟩
            · have hv : okB = false := by rw [← HOK.out]; simp; omega
              subst hv
              have e4 : ((v : Int) == 0) = false := by simpa using f4
              clear HOK f4
              go_wp2
              go_meet
              exact ⟨rfl, rfl⟩
        · have d3 := decide_eq_false f3
          have hv : okB = false := by rw [← HOK.out]; simp; omega
          subst hv
          clear HOK
          go_wp2
          go_meet
          exact ⟨rfl, rfl⟩
      · have d2 := decide_eq_false f2
        have hv : okB = false := by rw [← HOK.out]; simp; omega
        subst hv
        clear HOK
        go_wp2
        go_meet
        exact ⟨rfl, rfl⟩
    · have d1 := decide_eq_false f1
      have hv : okB = false := by rw [← HOK.out]; simp; omega
      subst hv
      clear HOK
      go_wp2
      go_meet
      exact ⟨rfl, rfl⟩
  case rest =>
    obtain ⟨rfl, rfl⟩ := hcut
    by_cases q0 : a2 < 0
    · clear HOK HSK HSV
      go_wp2
      go_ret
      exact ⟨rfl, ((HB.out.alloc HB.out.size _).alloc (by have := HB.out.size; simp; omega) _).alloc (by have := HB.out.size; simp; omega) _⟩
    by_cases q1 : 8 ≤ a2
    · clear HOK HSK HSV
      go_wp2
      go_ret
      exact ⟨rfl, ((HB.out.alloc HB.out.size _).alloc (by have := HB.out.size; simp; omega) _).alloc (by have := HB.out.size; simp; omega) _⟩
    have HW := Lib.hid (show sk.size ≤ 300 ∧ sv.size ≤ 3000 by have := HSK.out; have := HSV.out; omega)
    clear k0 k1 v0 v1
    obtain q | q | q | q | q | q | q | q : a2 = 0 ∨ a2 = 1 ∨ a2 = 2 ∨ a2 = 3 ∨ a2 = 4 ∨ a2 = 5 ∨ a2 = 6 ∨ a2 = 7 := by omega
    · subst q
      clear q0 q1
      have hr1 : decide (⟨0, 0, sk, sv, a3⟩ : Rec).right = okB := by
        rw [← HOK.out]
        have h1 := HSK.out
        have h2 := HSV.out
        by_cases h : (⟨0, 0, sk, sv, a3⟩ : Rec).right
        · rw [decide_eq_true h]
          obtain ⟨_, _, _, _, h5, h6, h7, h8⟩ := h
          simp only at h5 h6 h7 h8
          exact (decide_eq_true ⟨by omega, by omega, by omega, fun h => by have := h8 h; omega⟩).symm
        · rw [decide_eq_false h]
          refine (decide_eq_false ?_).symm
          rintro ⟨h5, h6, h7, h8⟩
          exact h ⟨by simp, by simp, by simp, by simp, by simp only; omega, by simp only; omega, by simp only; omega, fun h => by have := h8 h; simp only; omega⟩
      have hwf : Rec.wf ⟨0, 0, sk, sv, a3⟩ := by
        have := HW.out
        unfold Rec.wf maxLen
        simp only
        omega
      have hR := fun W => rright_any ⟨0, 0, sk, sv, a3⟩ W hwf
      have hS := fun W => rsize_any ⟨0, 0, sk, sv, a3⟩ W hwf
      rw [hr1] at hR
      have hL : decide (0 < (putR ⟨0, 0, sk, sv, a3⟩).length) = okB := by
        rw [← hr1]
        by_cases h : (⟨0, 0, sk, sv, a3⟩ : Rec).right
        · have := (recL_length _ h).1
          rw [putR_right h, decide_eq_true h]
          exact decide_eq_true (by omega)
        · rw [putR_wrong h, decide_eq_false h]
          rfl
      obtain ⟨L, hLe⟩ : ∃ L, (putR ⟨0, 0, sk, sv, a3⟩).length = L := ⟨_, rfl⟩
      rw [hLe] at hL
      simp only [hLe] at hS
      unfold recV at hR hS
      simp only at hR hS
      have HR := Lib.hid hR
      have HS := Lib.hid hS
      clear hR hS hr1 hLe hwf HOK HSK HSV HW
      cases okB with
      | true =>
        go_wp2_with fail
        refine (HR.out _).mono ?_
        rintro e w5 ⟨rfl, hb5⟩
        have hbx := (((Boxed.new w3 ⟨0, 0, sk, sv, a3⟩ 24).below (B := w3.heap.size + 1) (((Below.refl _ _).alloc (by simp) (.cells #[.int .i64 0, .int .i64 1125899906842624, .int .i64 1125899906842625, .int .i64 (-1), .int .i64 5, .int .i64 5, .int .i64 5, .int .i64 5] 3)).alloc (by simp) (.cells #[.int .i64 0, .int .i64 0, .int .i64 0, .int .i64 0, .int .i64 1099511627776, .int .i64 1099511627777, .int .i64 (-1099511627776), .int .i64 (-1099511627777)] 3)) (by omega)).below hb5 (by simp; omega))
        have hb45 : Below w.heap.size w w5 := (((HB.out.alloc HB.out.size (.cells #[.int .i64 0, .int .i64 0, .string sk, .string sv, .bool a3] 24)).alloc (by have := HB.out.size; simp; omega) (.cells #[.int .i64 0, .int .i64 1125899906842624, .int .i64 1125899906842625, .int .i64 (-1), .int .i64 5, .int .i64 5, .int .i64 5, .int .i64 5] 3)).alloc (by have := HB.out.size; simp; omega) (.cells #[.int .i64 0, .int .i64 0, .int .i64 0, .int .i64 0, .int .i64 1099511627776, .int .i64 1099511627777, .int .i64 (-1099511627776), .int .i64 (-1099511627777)] 3)).trans (hb5.mono (by have := HB.out.size; simp; omega))
        obtain ⟨p0, p1, p2, p3, p4, p5⟩ := hbx
        have HB5 := Lib.hid hb45
        clear hb5 hb45 HR
        go_wp2_with fail
        refine (HS.out _).mono ?_
        rintro e w6 ⟨rfl, hb6⟩
        go_wp2
        go_ret
        exact ⟨rfl, HB5.out.trans (hb6.mono HB5.out.size)⟩
      | false =>
        go_wp2_with fail
        refine (HR.out _).mono ?_
        rintro e w5 ⟨rfl, hb5⟩
        have hbx := (((Boxed.new w3 ⟨0, 0, sk, sv, a3⟩ 24).below (B := w3.heap.size + 1) (((Below.refl _ _).alloc (by simp) (.cells #[.int .i64 0, .int .i64 1125899906842624, .int .i64 1125899906842625, .int .i64 (-1), .int .i64 5, .int .i64 5, .int .i64 5, .int .i64 5] 3)).alloc (by simp) (.cells #[.int .i64 0, .int .i64 0, .int .i64 0, .int .i64 0, .int .i64 1099511627776, .int .i64 1099511627777, .int .i64 (-1099511627776), .int .i64 (-1099511627777)] 3)) (by omega)).below hb5 (by simp; omega))
        have hb45 : Below w.heap.size w w5 := (((HB.out.alloc HB.out.size (.cells #[.int .i64 0, .int .i64 0, .string sk, .string sv, .bool a3] 24)).alloc (by have := HB.out.size; simp; omega) (.cells #[.int .i64 0, .int .i64 1125899906842624, .int .i64 1125899906842625, .int .i64 (-1), .int .i64 5, .int .i64 5, .int .i64 5, .int .i64 5] 3)).alloc (by have := HB.out.size; simp; omega) (.cells #[.int .i64 0, .int .i64 0, .int .i64 0, .int .i64 0, .int .i64 1099511627776, .int .i64 1099511627777, .int .i64 (-1099511627776), .int .i64 (-1099511627777)] 3)).trans (hb5.mono (by have := HB.out.size; simp; omega))
        obtain ⟨p0, p1, p2, p3, p4, p5⟩ := hbx
        have HB5 := Lib.hid hb45
        clear hb5 hb45 HR
        go_wp2_with fail
        refine (HS.out _).mono ?_
        rintro e w6 ⟨rfl, hb6⟩
        go_wp2
        go_ret
        exact ⟨rfl, HB5.out.trans (hb6.mono HB5.out.size)⟩
    · subst q
      clear q0 q1
      have hr1 : decide (⟨1125899906842624, 0, sk, sv, a3⟩ : Rec).right = okB := by
        rw [← HOK.out]
        have h1 := HSK.out
        have h2 := HSV.out
        by_cases h : (⟨1125899906842624, 0, sk, sv, a3⟩ : Rec).right
        · rw [decide_eq_true h]
          obtain ⟨_, _, _, _, h5, h6, h7, h8⟩ := h
          simp only at h5 h6 h7 h8
          exact (decide_eq_true ⟨by omega, by omega, by omega, fun h => by have := h8 h; omega⟩).symm
        · rw [decide_eq_false h]
          refine (decide_eq_false ?_).symm
          rintro ⟨h5, h6, h7, h8⟩
          exact h ⟨by simp, by simp, by simp, by simp, by simp only; omega, by simp only; omega, by simp only; omega, fun h => by have := h8 h; simp only; omega⟩
      have hwf : Rec.wf ⟨1125899906842624, 0, sk, sv, a3⟩ := by
        have := HW.out
        unfold Rec.wf maxLen
        simp only
        omega
      have hR := fun W => rright_any ⟨1125899906842624, 0, sk, sv, a3⟩ W hwf
      have hS := fun W => rsize_any ⟨1125899906842624, 0, sk, sv, a3⟩ W hwf
      rw [hr1] at hR
      have hL : decide (0 < (putR ⟨1125899906842624, 0, sk, sv, a3⟩).length) = okB := by
        rw [← hr1]
        by_cases h : (⟨1125899906842624, 0, sk, sv, a3⟩ : Rec).right
        · have := (recL_length _ h).1
          rw [putR_right h, decide_eq_true h]
          exact decide_eq_true (by omega)
        · rw [putR_wrong h, decide_eq_false h]
          rfl
      obtain ⟨L, hLe⟩ : ∃ L, (putR ⟨1125899906842624, 0, sk, sv, a3⟩).length = L := ⟨_, rfl⟩
      rw [hLe] at hL
      simp only [hLe] at hS
      unfold recV at hR hS
      simp only at hR hS
      have HR := Lib.hid hR
      have HS := Lib.hid hS
      clear hR hS hr1 hLe hwf HOK HSK HSV HW
      cases okB with
      | true =>
        go_wp2_with fail
        refine (HR.out _).mono ?_
        rintro e w5 ⟨rfl, hb5⟩
        have hbx := (((Boxed.new w3 ⟨1125899906842624, 0, sk, sv, a3⟩ 24).below (B := w3.heap.size + 1) (((Below.refl _ _).alloc (by simp) (.cells #[.int .i64 0, .int .i64 1125899906842624, .int .i64 1125899906842625, .int .i64 (-1), .int .i64 5, .int .i64 5, .int .i64 5, .int .i64 5] 3)).alloc (by simp) (.cells #[.int .i64 0, .int .i64 0, .int .i64 0, .int .i64 0, .int .i64 1099511627776, .int .i64 1099511627777, .int .i64 (-1099511627776), .int .i64 (-1099511627777)] 3)) (by omega)).below hb5 (by simp; omega))
        have hb45 : Below w.heap.size w w5 := (((HB.out.alloc HB.out.size (.cells #[.int .i64 1125899906842624, .int .i64 0, .string sk, .string sv, .bool a3] 24)).alloc (by have := HB.out.size; simp; omega) (.cells #[.int .i64 0, .int .i64 1125899906842624, .int .i64 1125899906842625, .int .i64 (-1), .int .i64 5, .int .i64 5, .int .i64 5, .int .i64 5] 3)).alloc (by have := HB.out.size; simp; omega) (.cells #[.int .i64 0, .int .i64 0, .int .i64 0, .int .i64 0, .int .i64 1099511627776, .int .i64 1099511627777, .int .i64 (-1099511627776), .int .i64 (-1099511627777)] 3)).trans (hb5.mono (by have := HB.out.size; simp; omega))
        obtain ⟨p0, p1, p2, p3, p4, p5⟩ := hbx
        have HB5 := Lib.hid hb45
        clear hb5 hb45 HR
        go_wp2_with fail
        refine (HS.out _).mono ?_
        rintro e w6 ⟨rfl, hb6⟩
        go_wp2
        go_ret
        exact ⟨rfl, HB5.out.trans (hb6.mono HB5.out.size)⟩
      | false =>
        go_wp2_with fail
        refine (HR.out _).mono ?_
        rintro e w5 ⟨rfl, hb5⟩
        have hbx := (((Boxed.new w3 ⟨1125899906842624, 0, sk, sv, a3⟩ 24).below (B := w3.heap.size + 1) (((Below.refl _ _).alloc (by simp) (.cells #[.int .i64 0, .int .i64 1125899906842624, .int .i64 1125899906842625, .int .i64 (-1), .int .i64 5, .int .i64 5, .int .i64 5, .int .i64 5] 3)).alloc (by simp) (.cells #[.int .i64 0, .int .i64 0, .int .i64 0, .int .i64 0, .int .i64 1099511627776, .int .i64 1099511627777, .int .i64 (-1099511627776), .int .i64 (-1099511627777)] 3)) (by omega)).below hb5 (by simp; omega))
        have hb45 : Below w.heap.size w w5 := (((HB.out.alloc HB.out.size (.cells #[.int .i64 1125899906842624, .int .i64 0, .string sk, .string sv, .bool a3] 24)).alloc (by have := HB.out.size; simp; omega) (.cells #[.int .i64 0, .int .i64 1125899906842624, .int .i64 1125899906842625, .int .i64 (-1), .int .i64 5, .int .i64 5, .int .i64 5, .int .i64 5] 3)).alloc (by have := HB.out.size; simp; omega) (.cells #[.int .i64 0, .int .i64 0, .int .i64 0, .int .i64 0, .int .i64 1099511627776, .int .i64 1099511627777, .int .i64 (-1099511627776), .int .i64 (-1099511627777)] 3)).trans (hb5.mono (by have := HB.out.size; simp; omega))
        obtain ⟨p0, p1, p2, p3, p4, p5⟩ := hbx
        have HB5 := Lib.hid hb45
        clear hb5 hb45 HR
        go_wp2_with fail
        refine (HS.out _).mono ?_
        rintro e w6 ⟨rfl, hb6⟩
        go_wp2
        go_ret
        exact ⟨rfl, HB5.out.trans (hb6.mono HB5.out.size)⟩
    · subst q
      clear q0 q1
      have hr1 : decide (⟨1125899906842625, 0, sk, sv, a3⟩ : Rec).right = false := by
        refine decide_eq_false ?_
        unfold Rec.right
        simp only
        omega
      have hwf : Rec.wf ⟨1125899906842625, 0, sk, sv, a3⟩ := by
        have := HW.out
        unfold Rec.wf maxLen
        simp only
        omega
      have hR := fun W => rright_any ⟨1125899906842625, 0, sk, sv, a3⟩ W hwf
      have hS := fun W => rsize_any ⟨1125899906842625, 0, sk, sv, a3⟩ W hwf
      rw [hr1] at hR
      have hL : decide (0 < (putR ⟨1125899906842625, 0, sk, sv, a3⟩).length) = false := by
        rw [putR_wrong (of_decide_eq_false hr1)]
        rfl
      obtain ⟨L, hLe⟩ : ∃ L, (putR ⟨1125899906842625, 0, sk, sv, a3⟩).length = L := ⟨_, rfl⟩
      rw [hLe] at hL
      simp only [hLe] at hS
      unfold recV at hR hS
      simp only at hR hS
      have HR := Lib.hid hR
      have HS := Lib.hid hS
      clear hR hS hr1 hLe hwf HOK HSK HSV HW
      cases okB with
      | true =>
        go_wp2_with fail
        refine (HR.out _).mono ?_
        rintro e w5 ⟨rfl, hb5⟩
        have hbx := (((Boxed.new w3 ⟨1125899906842625, 0, sk, sv, a3⟩ 24).below (B := w3.heap.size + 1) (((Below.refl _ _).alloc (by simp) (.cells #[.int .i64 0, .int .i64 1125899906842624, .int .i64 1125899906842625, .int .i64 (-1), .int .i64 5, .int .i64 5, .int .i64 5, .int .i64 5] 3)).alloc (by simp) (.cells #[.int .i64 0, .int .i64 0, .int .i64 0, .int .i64 0, .int .i64 1099511627776, .int .i64 1099511627777, .int .i64 (-1099511627776), .int .i64 (-1099511627777)] 3)) (by omega)).below hb5 (by simp; omega))
        have hb45 : Below w.heap.size w w5 := (((HB.out.alloc HB.out.size (.cells #[.int .i64 1125899906842625, .int .i64 0, .string sk, .string sv, .bool a3] 24)).alloc (by have := HB.out.size; simp; omega) (.cells #[.int .i64 0, .int .i64 1125899906842624, .int .i64 1125899906842625, .int .i64 (-1), .int .i64 5, .int .i64 5, .int .i64 5, .int .i64 5] 3)).alloc (by have := HB.out.size; simp; omega) (.cells #[.int .i64 0, .int .i64 0, .int .i64 0, .int .i64 0, .int .i64 1099511627776, .int .i64 1099511627777, .int .i64 (-1099511627776), .int .i64 (-1099511627777)] 3)).trans (hb5.mono (by have := HB.out.size; simp; omega))
        obtain ⟨p0, p1, p2, p3, p4, p5⟩ := hbx
        have HB5 := Lib.hid hb45
        clear hb5 hb45 HR
        go_wp2_with fail
        refine (HS.out _).mono ?_
        rintro e w6 ⟨rfl, hb6⟩
        go_wp2
        go_ret
        exact ⟨rfl, HB5.out.trans (hb6.mono HB5.out.size)⟩
      | false =>
        go_wp2_with fail
        refine (HR.out _).mono ?_
        rintro e w5 ⟨rfl, hb5⟩
        have hbx := (((Boxed.new w3 ⟨1125899906842625, 0, sk, sv, a3⟩ 24).below (B := w3.heap.size + 1) (((Below.refl _ _).alloc (by simp) (.cells #[.int .i64 0, .int .i64 1125899906842624, .int .i64 1125899906842625, .int .i64 (-1), .int .i64 5, .int .i64 5, .int .i64 5, .int .i64 5] 3)).alloc (by simp) (.cells #[.int .i64 0, .int .i64 0, .int .i64 0, .int .i64 0, .int .i64 1099511627776, .int .i64 1099511627777, .int .i64 (-1099511627776), .int .i64 (-1099511627777)] 3)) (by omega)).below hb5 (by simp; omega))
        have hb45 : Below w.heap.size w w5 := (((HB.out.alloc HB.out.size (.cells #[.int .i64 1125899906842625, .int .i64 0, .string sk, .string sv, .bool a3] 24)).alloc (by have := HB.out.size; simp; omega) (.cells #[.int .i64 0, .int .i64 1125899906842624, .int .i64 1125899906842625, .int .i64 (-1), .int .i64 5, .int .i64 5, .int .i64 5, .int .i64 5] 3)).alloc (by have := HB.out.size; simp; omega) (.cells #[.int .i64 0, .int .i64 0, .int .i64 0, .int .i64 0, .int .i64 1099511627776, .int .i64 1099511627777, .int .i64 (-1099511627776), .int .i64 (-1099511627777)] 3)).trans (hb5.mono (by have := HB.out.size; simp; omega))
        obtain ⟨p0, p1, p2, p3, p4, p5⟩ := hbx
        have HB5 := Lib.hid hb45
        clear hb5 hb45 HR
        go_wp2_with fail
        refine (HS.out _).mono ?_
        rintro e w6 ⟨rfl, hb6⟩
        go_wp2
        go_ret
        exact ⟨rfl, HB5.out.trans (hb6.mono HB5.out.size)⟩
    · subst q
      clear q0 q1
      have hr1 : decide (⟨(-1), 0, sk, sv, a3⟩ : Rec).right = false := by
        refine decide_eq_false ?_
        unfold Rec.right
        simp only
        omega
      have hwf : Rec.wf ⟨(-1), 0, sk, sv, a3⟩ := by
        have := HW.out
        unfold Rec.wf maxLen
        simp only
        omega
      have hR := fun W => rright_any ⟨(-1), 0, sk, sv, a3⟩ W hwf
      have hS := fun W => rsize_any ⟨(-1), 0, sk, sv, a3⟩ W hwf
      rw [hr1] at hR
      have hL : decide (0 < (putR ⟨(-1), 0, sk, sv, a3⟩).length) = false := by
        rw [putR_wrong (of_decide_eq_false hr1)]
        rfl
      obtain ⟨L, hLe⟩ : ∃ L, (putR ⟨(-1), 0, sk, sv, a3⟩).length = L := ⟨_, rfl⟩
      rw [hLe] at hL
      simp only [hLe] at hS
      unfold recV at hR hS
      simp only at hR hS
      have HR := Lib.hid hR
      have HS := Lib.hid hS
      clear hR hS hr1 hLe hwf HOK HSK HSV HW
      cases okB with
      | true =>
        go_wp2_with fail
        refine (HR.out _).mono ?_
        rintro e w5 ⟨rfl, hb5⟩
        have hbx := (((Boxed.new w3 ⟨(-1), 0, sk, sv, a3⟩ 24).below (B := w3.heap.size + 1) (((Below.refl _ _).alloc (by simp) (.cells #[.int .i64 0, .int .i64 1125899906842624, .int .i64 1125899906842625, .int .i64 (-1), .int .i64 5, .int .i64 5, .int .i64 5, .int .i64 5] 3)).alloc (by simp) (.cells #[.int .i64 0, .int .i64 0, .int .i64 0, .int .i64 0, .int .i64 1099511627776, .int .i64 1099511627777, .int .i64 (-1099511627776), .int .i64 (-1099511627777)] 3)) (by omega)).below hb5 (by simp; omega))
        have hb45 : Below w.heap.size w w5 := (((HB.out.alloc HB.out.size (.cells #[.int .i64 (-1), .int .i64 0, .string sk, .string sv, .bool a3] 24)).alloc (by have := HB.out.size; simp; omega) (.cells #[.int .i64 0, .int .i64 1125899906842624, .int .i64 1125899906842625, .int .i64 (-1), .int .i64 5, .int .i64 5, .int .i64 5, .int .i64 5] 3)).alloc (by have := HB.out.size; simp; omega) (.cells #[.int .i64 0, .int .i64 0, .int .i64 0, .int .i64 0, .int .i64 1099511627776, .int .i64 1099511627777, .int .i64 (-1099511627776), .int .i64 (-1099511627777)] 3)).trans (hb5.mono (by have := HB.out.size; simp; omega))
        obtain ⟨p0, p1, p2, p3, p4, p5⟩ := hbx
        have HB5 := Lib.hid hb45
        clear hb5 hb45 HR
        go_wp2_with fail
        refine (HS.out _).mono ?_
        rintro e w6 ⟨rfl, hb6⟩
        go_wp2
        go_ret
        exact ⟨rfl, HB5.out.trans (hb6.mono HB5.out.size)⟩
      | false =>
        go_wp2_with fail
        refine (HR.out _).mono ?_
        rintro e w5 ⟨rfl, hb5⟩
        have hbx := (((Boxed.new w3 ⟨(-1), 0, sk, sv, a3⟩ 24).below (B := w3.heap.size + 1) (((Below.refl _ _).alloc (by simp) (.cells #[.int .i64 0, .int .i64 1125899906842624, .int .i64 1125899906842625, .int .i64 (-1), .int .i64 5, .int .i64 5, .int .i64 5, .int .i64 5] 3)).alloc (by simp) (.cells #[.int .i64 0, .int .i64 0, .int .i64 0, .int .i64 0, .int .i64 1099511627776, .int .i64 1099511627777, .int .i64 (-1099511627776), .int .i64 (-1099511627777)] 3)) (by omega)).below hb5 (by simp; omega))
        have hb45 : Below w.heap.size w w5 := (((HB.out.alloc HB.out.size (.cells #[.int .i64 (-1), .int .i64 0, .string sk, .string sv, .bool a3] 24)).alloc (by have := HB.out.size; simp; omega) (.cells #[.int .i64 0, .int .i64 1125899906842624, .int .i64 1125899906842625, .int .i64 (-1), .int .i64 5, .int .i64 5, .int .i64 5, .int .i64 5] 3)).alloc (by have := HB.out.size; simp; omega) (.cells #[.int .i64 0, .int .i64 0, .int .i64 0, .int .i64 0, .int .i64 1099511627776, .int .i64 1099511627777, .int .i64 (-1099511627776), .int .i64 (-1099511627777)] 3)).trans (hb5.mono (by have := HB.out.size; simp; omega))
        obtain ⟨p0, p1, p2, p3, p4, p5⟩ := hbx
        have HB5 := Lib.hid hb45
        clear hb5 hb45 HR
        go_wp2_with fail
        refine (HS.out _).mono ?_
        rintro e w6 ⟨rfl, hb6⟩
        go_wp2
        go_ret
        exact ⟨rfl, HB5.out.trans (hb6.mono HB5.out.size)⟩
    · subst q
      clear q0 q1
      have hr1 : decide (⟨5, 1099511627776, sk, sv, a3⟩ : Rec).right = okB := by
        rw [← HOK.out]
        have h1 := HSK.out
        have h2 := HSV.out
        by_cases h : (⟨5, 1099511627776, sk, sv, a3⟩ : Rec).right
        · rw [decide_eq_true h]
          obtain ⟨_, _, _, _, h5, h6, h7, h8⟩ := h
          simp only at h5 h6 h7 h8
          exact (decide_eq_true ⟨by omega, by omega, by omega, fun h => by have := h8 h; omega⟩).symm
        · rw [decide_eq_false h]
          refine (decide_eq_false ?_).symm
          rintro ⟨h5, h6, h7, h8⟩
          exact h ⟨by simp, by simp, by simp, by simp, by simp only; omega, by simp only; omega, by simp only; omega, fun h => by have := h8 h; simp only; omega⟩
      have hwf : Rec.wf ⟨5, 1099511627776, sk, sv, a3⟩ := by
        have := HW.out
        unfold Rec.wf maxLen
        simp only
        omega
      have hR := fun W => rright_any ⟨5, 1099511627776, sk, sv, a3⟩ W hwf
      have hS := fun W => rsize_any ⟨5, 1099511627776, sk, sv, a3⟩ W hwf
      rw [hr1] at hR
      have hL : decide (0 < (putR ⟨5, 1099511627776, sk, sv, a3⟩).length) = okB := by
        rw [← hr1]
        by_cases h : (⟨5, 1099511627776, sk, sv, a3⟩ : Rec).right
        · have := (recL_length _ h).1
          rw [putR_right h, decide_eq_true h]
          exact decide_eq_true (by omega)
        · rw [putR_wrong h, decide_eq_false h]
          rfl
      obtain ⟨L, hLe⟩ : ∃ L, (putR ⟨5, 1099511627776, sk, sv, a3⟩).length = L := ⟨_, rfl⟩
      rw [hLe] at hL
      simp only [hLe] at hS
      unfold recV at hR hS
      simp only at hR hS
      have HR := Lib.hid hR
      have HS := Lib.hid hS
      clear hR hS hr1 hLe hwf HOK HSK HSV HW
      cases okB with
      | true =>
        go_wp2_with fail
        refine (HR.out _).mono ?_
        rintro e w5 ⟨rfl, hb5⟩
        have hbx := (((Boxed.new w3 ⟨5, 1099511627776, sk, sv, a3⟩ 24).below (B := w3.heap.size + 1) (((Below.refl _ _).alloc (by simp) (.cells #[.int .i64 0, .int .i64 1125899906842624, .int .i64 1125899906842625, .int .i64 (-1), .int .i64 5, .int .i64 5, .int .i64 5, .int .i64 5] 3)).alloc (by simp) (.cells #[.int .i64 0, .int .i64 0, .int .i64 0, .int .i64 0, .int .i64 1099511627776, .int .i64 1099511627777, .int .i64 (-1099511627776), .int .i64 (-1099511627777)] 3)) (by omega)).below hb5 (by simp; omega))
        have hb45 : Below w.heap.size w w5 := (((HB.out.alloc HB.out.size (.cells #[.int .i64 5, .int .i64 1099511627776, .string sk, .string sv, .bool a3] 24)).alloc (by have := HB.out.size; simp; omega) (.cells #[.int .i64 0, .int .i64 1125899906842624, .int .i64 1125899906842625, .int .i64 (-1), .int .i64 5, .int .i64 5, .int .i64 5, .int .i64 5] 3)).alloc (by have := HB.out.size; simp; omega) (.cells #[.int .i64 0, .int .i64 0, .int .i64 0, .int .i64 0, .int .i64 1099511627776, .int .i64 1099511627777, .int .i64 (-1099511627776), .int .i64 (-1099511627777)] 3)).trans (hb5.mono (by have := HB.out.size; simp; omega))
        obtain ⟨p0, p1, p2, p3, p4, p5⟩ := hbx
        have HB5 := Lib.hid hb45
        clear hb5 hb45 HR
        go_wp2_with fail
        refine (HS.out _).mono ?_
        rintro e w6 ⟨rfl, hb6⟩
        go_wp2
        go_ret
        exact ⟨rfl, HB5.out.trans (hb6.mono HB5.out.size)⟩
      | false =>
        go_wp2_with fail
        refine (HR.out _).mono ?_
        rintro e w5 ⟨rfl, hb5⟩
        have hbx := (((Boxed.new w3 ⟨5, 1099511627776, sk, sv, a3⟩ 24).below (B := w3.heap.size + 1) (((Below.refl _ _).alloc (by simp) (.cells #[.int .i64 0, .int .i64 1125899906842624, .int .i64 1125899906842625, .int .i64 (-1), .int .i64 5, .int .i64 5, .int .i64 5, .int .i64 5] 3)).alloc (by simp) (.cells #[.int .i64 0, .int .i64 0, .int .i64 0, .int .i64 0, .int .i64 1099511627776, .int .i64 1099511627777, .int .i64 (-1099511627776), .int .i64 (-1099511627777)] 3)) (by omega)).below hb5 (by simp; omega))
        have hb45 : Below w.heap.size w w5 := (((HB.out.alloc HB.out.size (.cells #[.int .i64 5, .int .i64 1099511627776, .string sk, .string sv, .bool a3] 24)).alloc (by have := HB.out.size; simp; omega) (.cells #[.int .i64 0, .int .i64 1125899906842624, .int .i64 1125899906842625, .int .i64 (-1), .int .i64 5, .int .i64 5, .int .i64 5, .int .i64 5] 3)).alloc (by have := HB.out.size; simp; omega) (.cells #[.int .i64 0, .int .i64 0, .int .i64 0, .int .i64 0, .int .i64 1099511627776, .int .i64 1099511627777, .int .i64 (-1099511627776), .int .i64 (-1099511627777)] 3)).trans (hb5.mono (by have := HB.out.size; simp; omega))
        obtain ⟨p0, p1, p2, p3, p4, p5⟩ := hbx
        have HB5 := Lib.hid hb45
        clear hb5 hb45 HR
        go_wp2_with fail
        refine (HS.out _).mono ?_
        rintro e w6 ⟨rfl, hb6⟩
        go_wp2
        go_ret
        exact ⟨rfl, HB5.out.trans (hb6.mono HB5.out.size)⟩
    · subst q
      clear q0 q1
      have hr1 : decide (⟨5, 1099511627777, sk, sv, a3⟩ : Rec).right = false := by
        refine decide_eq_false ?_
        unfold Rec.right
        simp only
        omega
      have hwf : Rec.wf ⟨5, 1099511627777, sk, sv, a3⟩ := by
        have := HW.out
        unfold Rec.wf maxLen
        simp only
        omega
      have hR := fun W => rright_any ⟨5, 1099511627777, sk, sv, a3⟩ W hwf
      have hS := fun W => rsize_any ⟨5, 1099511627777, sk, sv, a3⟩ W hwf
      rw [hr1] at hR
      have hL : decide (0 < (putR ⟨5, 1099511627777, sk, sv, a3⟩).length) = false := by
        rw [putR_wrong (of_decide_eq_false hr1)]
        rfl
      obtain ⟨L, hLe⟩ : ∃ L, (putR ⟨5, 1099511627777, sk, sv, a3⟩).length = L := ⟨_, rfl⟩
      rw [hLe] at hL
      simp only [hLe] at hS
      unfold recV at hR hS
      simp only at hR hS
      have HR := Lib.hid hR
      have HS := Lib.hid hS
      clear hR hS hr1 hLe hwf HOK HSK HSV HW
      cases okB with
      | true =>
        go_wp2_with fail
        refine (HR.out _).mono ?_
        rintro e w5 ⟨rfl, hb5⟩
        have hbx := (((Boxed.new w3 ⟨5, 1099511627777, sk, sv, a3⟩ 24).below (B := w3.heap.size + 1) (((Below.refl _ _).alloc (by simp) (.cells #[.int .i64 0, .int .i64 1125899906842624, .int .i64 1125899906842625, .int .i64 (-1), .int .i64 5, .int .i64 5, .int .i64 5, .int .i64 5] 3)).alloc (by simp) (.cells #[.int .i64 0, .int .i64 0, .int .i64 0, .int .i64 0, .int .i64 1099511627776, .int .i64 1099511627777, .int .i64 (-1099511627776), .int .i64 (-1099511627777)] 3)) (by omega)).below hb5 (by simp; omega))
        have hb45 : Below w.heap.size w w5 := (((HB.out.alloc HB.out.size (.cells #[.int .i64 5, .int .i64 1099511627777, .string sk, .string sv, .bool a3] 24)).alloc (by have := HB.out.size; simp; omega) (.cells #[.int .i64 0, .int .i64 1125899906842624, .int .i64 1125899906842625, .int .i64 (-1), .int .i64 5, .int .i64 5, .int .i64 5, .int .i64 5] 3)).alloc (by have := HB.out.size; simp; omega) (.cells #[.int .i64 0, .int .i64 0, .int .i64 0, .int .i64 0, .int .i64 1099511627776, .int .i64 1099511627777, .int .i64 (-1099511627776), .int .i64 (-1099511627777)] 3)).trans (hb5.mono (by have := HB.out.size; simp; omega))
        obtain ⟨p0, p1, p2, p3, p4, p5⟩ := hbx
        have HB5 := Lib.hid hb45
        clear hb5 hb45 HR
        go_wp2_with fail
        refine (HS.out _).mono ?_
        rintro e w6 ⟨rfl, hb6⟩
        go_wp2
        go_ret
        exact ⟨rfl, HB5.out.trans (hb6.mono HB5.out.size)⟩
      | false =>
        go_wp2_with fail
        refine (HR.out _).mono ?_
        rintro e w5 ⟨rfl, hb5⟩
        have hbx := (((Boxed.new w3 ⟨5, 1099511627777, sk, sv, a3⟩ 24).below (B := w3.heap.size + 1) (((Below.refl _ _).alloc (by simp) (.cells #[.int .i64 0, .int .i64 1125899906842624, .int .i64 1125899906842625, .int .i64 (-1), .int .i64 5, .int .i64 5, .int .i64 5, .int .i64 5] 3)).alloc (by simp) (.cells #[.int .i64 0, .int .i64 0, .int .i64 0, .int .i64 0, .int .i64 1099511627776, .int .i64 1099511627777, .int .i64 (-1099511627776), .int .i64 (-1099511627777)] 3)) (by omega)).below hb5 (by simp; omega))
        have hb45 : Below w.heap.size w w5 := (((HB.out.alloc HB.out.size (.cells #[.int .i64 5, .int .i64 1099511627777, .string sk, .string sv, .bool a3] 24)).alloc (by have := HB.out.size; simp; omega) (.cells #[.int .i64 0, .int .i64 1125899906842624, .int .i64 1125899906842625, .int .i64 (-1), .int .i64 5, .int .i64 5, .int .i64 5, .int .i64 5] 3)).alloc (by have := HB.out.size; simp; omega) (.cells #[.int .i64 0, .int .i64 0, .int .i64 0, .int .i64 0, .int .i64 1099511627776, .int .i64 1099511627777, .int .i64 (-1099511627776), .int .i64 (-1099511627777)] 3)).trans (hb5.mono (by have := HB.out.size; simp; omega))
        obtain ⟨p0, p1, p2, p3, p4, p5⟩ := hbx
        have HB5 := Lib.hid hb45
        clear hb5 hb45 HR
        go_wp2_with fail
        refine (HS.out _).mono ?_
        rintro e w6 ⟨rfl, hb6⟩
        go_wp2
        go_ret
        exact ⟨rfl, HB5.out.trans (hb6.mono HB5.out.size)⟩
    · subst q
      clear q0 q1
      have hr1 : decide (⟨5, (-1099511627776), sk, sv, a3⟩ : Rec).right = okB := by
        rw [← HOK.out]
        have h1 := HSK.out
        have h2 := HSV.out
        by_cases h : (⟨5, (-1099511627776), sk, sv, a3⟩ : Rec).right
        · rw [decide_eq_true h]
          obtain ⟨_, _, _, _, h5, h6, h7, h8⟩ := h
          simp only at h5 h6 h7 h8
          exact (decide_eq_true ⟨by omega, by omega, by omega, fun h => by have := h8 h; omega⟩).symm
        · rw [decide_eq_false h]
          refine (decide_eq_false ?_).symm
          rintro ⟨h5, h6, h7, h8⟩
          exact h ⟨by simp, by simp, by simp, by simp, by simp only; omega, by simp only; omega, by simp only; omega, fun h => by have := h8 h; simp only; omega⟩
      have hwf : Rec.wf ⟨5, (-1099511627776), sk, sv, a3⟩ := by
        have := HW.out
        unfold Rec.wf maxLen
        simp only
        omega
      have hR := fun W => rright_any ⟨5, (-1099511627776), sk, sv, a3⟩ W hwf
      have hS := fun W => rsize_any ⟨5, (-1099511627776), sk, sv, a3⟩ W hwf
      rw [hr1] at hR
      have hL : decide (0 < (putR ⟨5, (-1099511627776), sk, sv, a3⟩).length) = okB := by
        rw [← hr1]
        by_cases h : (⟨5, (-1099511627776), sk, sv, a3⟩ : Rec).right
        · have := (recL_length _ h).1
          rw [putR_right h, decide_eq_true h]
          exact decide_eq_true (by omega)
        · rw [putR_wrong h, decide_eq_false h]
          rfl
      obtain ⟨L, hLe⟩ : ∃ L, (putR ⟨5, (-1099511627776), sk, sv, a3⟩).length = L := ⟨_, rfl⟩
      rw [hLe] at hL
      simp only [hLe] at hS
      unfold recV at hR hS
      simp only at hR hS
      have HR := Lib.hid hR
      have HS := Lib.hid hS
      clear hR hS hr1 hLe hwf HOK HSK HSV HW
      cases okB with
      | true =>
        go_wp2_with fail
        refine (HR.out _).mono ?_
        rintro e w5 ⟨rfl, hb5⟩
        have hbx := (((Boxed.new w3 ⟨5, (-1099511627776), sk, sv, a3⟩ 24).below (B := w3.heap.size + 1) (((Below.refl _ _).alloc (by simp) (.cells #[.int .i64 0, .int .i64 1125899906842624, .int .i64 1125899906842625, .int .i64 (-1), .int .i64 5, .int .i64 5, .int .i64 5, .int .i64 5] 3)).alloc (by simp) (.cells #[.int .i64 0, .int .i64 0, .int .i64 0, .int .i64 0, .int .i64 1099511627776, .int .i64 1099511627777, .int .i64 (-1099511627776), .int .i64 (-1099511627777)] 3)) (by omega)).below hb5 (by simp; omega))
        have hb45 : Below w.heap.size w w5 := (((HB.out.alloc HB.out.size (.cells #[.int .i64 5, .int .i64 (-1099511627776), .string sk, .string sv, .bool a3] 24)).alloc (by have := HB.out.size; simp; omega) (.cells #[.int .i64 0, .int .i64 1125899906842624, .int .i64 1125899906842625, .int .i64 (-1), .int .i64 5, .int .i64 5, .int .i64 5, .int .i64 5] 3)).alloc (by have := HB.out.size; simp; omega) (.cells #[.int .i64 0, .int .i64 0, .int .i64 0, .int .i64 0, .int .i64 1099511627776, .int .i64 1099511627777, .int .i64 (-1099511627776), .int .i64 (-1099511627777)] 3)).trans (hb5.mono (by have := HB.out.size; simp; omega))
        obtain ⟨p0, p1, p2, p3, p4, p5⟩ := hbx
        have HB5 := Lib.hid hb45
        clear hb5 hb45 HR
        go_wp2_with fail
        refine (HS.out _).mono ?_
        rintro e w6 ⟨rfl, hb6⟩
        go_wp2
        go_ret
        exact ⟨rfl, HB5.out.trans (hb6.mono HB5.out.size)⟩
      | false =>
        go_wp2_with fail
        refine (HR.out _).mono ?_
        rintro e w5 ⟨rfl, hb5⟩
        have hbx := (((Boxed.new w3 ⟨5, (-1099511627776), sk, sv, a3⟩ 24).below (B := w3.heap.size + 1) (((Below.refl _ _).alloc (by simp) (.cells #[.int .i64 0, .int .i64 1125899906842624, .int .i64 1125899906842625, .int .i64 (-1), .int .i64 5, .int .i64 5, .int .i64 5, .int .i64 5] 3)).alloc (by simp) (.cells #[.int .i64 0, .int .i64 0, .int .i64 0, .int .i64 0, .int .i64 1099511627776, .int .i64 1099511627777, .int .i64 (-1099511627776), .int .i64 (-1099511627777)] 3)) (by omega)).below hb5 (by simp; omega))
        have hb45 : Below w.heap.size w w5 := (((HB.out.alloc HB.out.size (.cells #[.int .i64 5, .int .i64 (-1099511627776), .string sk, .string sv, .bool a3] 24)).alloc (by have := HB.out.size; simp; omega) (.cells #[.int .i64 0, .int .i64 1125899906842624, .int .i64 1125899906842625, .int .i64 (-1), .int .i64 5, .int .i64 5, .int .i64 5, .int .i64 5] 3)).alloc (by have := HB.out.size; simp; omega) (.cells #[.int .i64 0, .int .i64 0, .int .i64 0, .int .i64 0, .int .i64 1099511627776, .int .i64 1099511627777, .int .i64 (-1099511627776), .int .i64 (-1099511627777)] 3)).trans (hb5.mono (by have := HB.out.size; simp; omega))
        obtain ⟨p0, p1, p2, p3, p4, p5⟩ := hbx
        have HB5 := Lib.hid hb45
        clear hb5 hb45 HR
        go_wp2_with fail
        refine (HS.out _).mono ?_
        rintro e w6 ⟨rfl, hb6⟩
        go_wp2
        go_ret
        exact ⟨rfl, HB5.out.trans (hb6.mono HB5.out.size)⟩
    · subst q
      clear q0 q1
      have hr1 : decide (⟨5, (-1099511627777), sk, sv, a3⟩ : Rec).right = false := by
        refine decide_eq_false ?_
        unfold Rec.right
        simp only
        omega
      have hwf : Rec.wf ⟨5, (-1099511627777), sk, sv, a3⟩ := by
        have := HW.out
        unfold Rec.wf maxLen
        simp only
        omega
      have hR := fun W => rright_any ⟨5, (-1099511627777), sk, sv, a3⟩ W hwf
      have hS := fun W => rsize_any ⟨5, (-1099511627777), sk, sv, a3⟩ W hwf
      rw [hr1] at hR
      have hL : decide (0 < (putR ⟨5, (-1099511627777), sk, sv, a3⟩).length) = false := by
        rw [putR_wrong (of_decide_eq_false hr1)]
        rfl
      obtain ⟨L, hLe⟩ : ∃ L, (putR ⟨5, (-1099511627777), sk, sv, a3⟩).length = L := ⟨_, rfl⟩
      rw [hLe] at hL
      simp only [hLe] at hS
      unfold recV at hR hS
      simp only at hR hS
      have HR := Lib.hid hR
      have HS := Lib.hid hS
      clear hR hS hr1 hLe hwf HOK HSK HSV HW
      cases okB with
      | true =>
        go_wp2_with fail
        refine (HR.out _).mono ?_
        rintro e w5 ⟨rfl, hb5⟩
        have hbx := (((Boxed.new w3 ⟨5, (-1099511627777), sk, sv, a3⟩ 24).below (B := w3.heap.size + 1) (((Below.refl _ _).alloc (by simp) (.cells #[.int .i64 0, .int .i64 1125899906842624, .int .i64 1125899906842625, .int .i64 (-1), .int .i64 5, .int .i64 5, .int .i64 5, .int .i64 5] 3)).alloc (by simp) (.cells #[.int .i64 0, .int .i64 0, .int .i64 0, .int .i64 0, .int .i64 1099511627776, .int .i64 1099511627777, .int .i64 (-1099511627776), .int .i64 (-1099511627777)] 3)) (by omega)).below hb5 (by simp; omega))
        have hb45 : Below w.heap.size w w5 := (((HB.out.alloc HB.out.size (.cells #[.int .i64 5, .int .i64 (-1099511627777), .string sk, .string sv, .bool a3] 24)).alloc (by have := HB.out.size; simp; omega) (.cells #[.int .i64 0, .int .i64 1125899906842624, .int .i64 1125899906842625, .int .i64 (-1), .int .i64 5, .int .i64 5, .int .i64 5, .int .i64 5] 3)).alloc (by have := HB.out.size; simp; omega) (.cells #[.int .i64 0, .int .i64 0, .int .i64 0, .int .i64 0, .int .i64 1099511627776, .int .i64 1099511627777, .int .i64 (-1099511627776), .int .i64 (-1099511627777)] 3)).trans (hb5.mono (by have := HB.out.size; simp; omega))
        obtain ⟨p0, p1, p2, p3, p4, p5⟩ := hbx
        have HB5 := Lib.hid hb45
        clear hb5 hb45 HR
        go_wp2_with fail
        refine (HS.out _).mono ?_
        rintro e w6 ⟨rfl, hb6⟩
        go_wp2
        go_ret
        exact ⟨rfl, HB5.out.trans (hb6.mono HB5.out.size)⟩
      | false =>
        go_wp2_with fail
        refine (HR.out _).mono ?_
        rintro e w5 ⟨rfl, hb5⟩
        have hbx := (((Boxed.new w3 ⟨5, (-1099511627777), sk, sv, a3⟩ 24).below (B := w3.heap.size + 1) (((Below.refl _ _).alloc (by simp) (.cells #[.int .i64 0, .int .i64 1125899906842624, .int .i64 1125899906842625, .int .i64 (-1), .int .i64 5, .int .i64 5, .int .i64 5, .int .i64 5] 3)).alloc (by simp) (.cells #[.int .i64 0, .int .i64 0, .int .i64 0, .int .i64 0, .int .i64 1099511627776, .int .i64 1099511627777, .int .i64 (-1099511627776), .int .i64 (-1099511627777)] 3)) (by omega)).below hb5 (by simp; omega))
        have hb45 : Below w.heap.size w w5 := (((HB.out.alloc HB.out.size (.cells #[.int .i64 5, .int .i64 (-1099511627777), .string sk, .string sv, .bool a3] 24)).alloc (by have := HB.out.size; simp; omega) (.cells #[.int .i64 0, .int .i64 1125899906842624, .int .i64 1125899906842625, .int .i64 (-1), .int .i64 5, .int .i64 5, .int .i64 5, .int .i64 5] 3)).alloc (by have := HB.out.size; simp; omega) (.cells #[.int .i64 0, .int .i64 0, .int .i64 0, .int .i64 0, .int .i64 1099511627776, .int .i64 1099511627777, .int .i64 (-1099511627776), .int .i64 (-1099511627777)] 3)).trans (hb5.mono (by have := HB.out.size; simp; omega))
        obtain ⟨p0, p1, p2, p3, p4, p5⟩ := hbx
        have HB5 := Lib.hid hb45
        clear hb5 hb45 HR
        go_wp2_with fail
        refine (HS.out _).mono ?_
        rintro e w6 ⟨rfl, hb6⟩
        go_wp2
        go_ret
        exact ⟨rfl, HB5.out.trans (hb6.mono HB5.out.size)⟩

set_option maxRecDepth 100000 in
theorem lifted (os : Os) (started : os.Started) (H : Type) (enc : TypeId × Value → H) :
    ReturnsInHanded {} Try.checked os 7 .any (Rows.recordBoundsSpec.pre6 enc Try.prog Try.f7 Rows.recordBoundsRow.domain false) (Rows.recordBoundsSpec.post enc Try.prog Try.f7 false true false false) := by
  refine returnsInHanded_of_change (C := Try.checked) own started (by kernel_rfl) Try.func7
    (ChangeSpec.witness6 (enc := enc) (C := Try.checked) false ⟨#[], #[.int .i64 0, .int .i64 0, .int .i64 0, .bool false], []⟩ 8 (by kernel_rfl) (by kernel_rfl) (by kernel_rfl) (by kernel_rfl)) ?_
  intro W base args ds gs before hval0 hW hcnd _
  have hval : ∀ (j : Nat) t v, Try.f7.params[j]? = some t → args[j]? = some v → Value.okWide Try.prog W .any base t v := hval0
  have hW' := hW
  obtain ⟨p, q, hA0, hV, rfl, hfz, hnd⟩ := hW
  have hA : DataW.TrodAll enc Try.prog W 0 (fun _ => true) true Try.f7.params.toList args.toList ds p := hA0
  rw [Try.params7] at hA hval
  obtain ⟨v0, vs0, d0, ds0, p0, q0, hargs, rfl, rfl, h0, r0⟩ := trodAll_cons hA
  obtain ⟨v1, vs1, d1, ds1, p1, q1, rfl, rfl, rfl, h1, r1⟩ := trodAll_cons r0
  obtain ⟨v2, vs2, d2, ds2, p2, q2, rfl, rfl, rfl, h2, r2⟩ := trodAll_cons r1
  obtain ⟨v3, vs3, d3, ds3, p3, q3, rfl, rfl, rfl, h3, r3⟩ := trodAll_cons r2
  obtain ⟨rfl, rfl, rfl⟩ := trodAll_nil r3
  obtain rfl : args = #[v0, v1, v2, v3] := by cases args; simp_all
  obtain ⟨rfl, rfl⟩ := trodVars_none hV
  obtain ⟨a0, rfl, rfl, rfl, w0⟩ := open_int Try.underlying3 (hval 0 3 v0 rfl rfl) h0
  obtain ⟨a1, rfl, rfl, rfl, w1⟩ := open_int Try.underlying3 (hval 1 3 v1 rfl rfl) h1
  obtain ⟨a2, rfl, rfl, rfl, w2⟩ := open_int Try.underlying3 (hval 2 3 v2 rfl rfl) h2
  obtain ⟨a3, rfl, rfl, rfl⟩ := open_bool Try.underlying4 (hval 3 4 v3 rfl rfl) h3
  clear hA0 hval0
  simp only [List.append_nil] at hW'
  refine (walk a0 a1 a2 a3 w0 w1 w2 W).mono fun e W' ⟨he, bel⟩ => ?_
  subst he
  exact ⟨_, rfl, _, _, _, [], [], [], hW', (trodAll_cons_mk (shut_bool Try.underlying4 _) trodAll_mk0), (trodAll_cons_mk (shut_int Try.underlying3 w0) (trodAll_cons_mk (shut_int Try.underlying3 w1) (trodAll_cons_mk (shut_int Try.underlying3 w2) (trodAll_cons_mk (shut_bool Try.underlying4 _) trodAll_mk0)))), rfl, bel.frame _, fun h => by cases h⟩

theorem over : Rows.recordBoundsRow.holds Try.pinned (OpenSpec.ofChange Rows.recordBoundsSpec) :=
  OpenClaim.holds_of_wide 7 Try.f7 rfl rfl rfl rfl rfl rfl rfl ⟨rfl, rfl, rfl, rfl, rfl⟩ rfl rfl rfl rfl rfl (by kernel_rfl) Try.func7 (by kernel_rfl)
    (of_decide_eq_true (by kernel_rfl)) (by unfold Func.isWrapper; first | (rw [if_pos (by decide +kernel)]; kernel_rfl) | (rw [if_neg (by decide +kernel)]; exact ⟨rfl, rfl⟩))
    (fun os started H enc _ => lifted os started H enc)

theorem proved : Rows.RecordBoundsSaid :=
  over
#print axioms proved
end Go.Proofs.Ytdhahjkldmbneaa.recordBounds
