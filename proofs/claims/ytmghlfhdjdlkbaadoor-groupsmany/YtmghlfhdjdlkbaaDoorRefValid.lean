/- A contract of the document's own Valid. -/
import Derived.Test.YtmghlfhdjdlkbaaDoorRuneTail
import Derived.Test.YtmghlfhdjdlkbaaDoorRuneValid
namespace Go.Proofs.YtmghlfhdjdlkbaaDoor
open Go.RowKit

theorem no_rune (s : ByteArray) (i : Nat) (h : (runeAt s i).2.2 = false) : (runeAt s i).1 = 0 := by
  unfold runeAt at h ⊢
  split at h
  · rename_i hb
    rw [if_pos hb]
  · cases h

set_option maxRecDepth 100000 in
set_option maxHeartbeats 4000000 in
theorem refvalid_any (s : ByteArray) (w : World) (hs : s.size ≤ maxLen) :
    Calls Tryd.prog 16 #[.string s] w (fun e w' => e = .returned (.bool (validS s)) ∧ w = w') := by
  have HS := Lib.hid hs
  unfold maxLen at hs
  go_enter Tryd.func16, Tryd.ntmps16
  go_wp2_with fail
  go_loop [3, 4] (fun nv iv => ∃ (n i : Nat), nv = .int .i64 (n : Int) ∧ iv = .int .i64 (i : Int) ∧ n + cntFrom s i = cntFrom s 0 ∧ n ≤ i ∧ i ≤ s.size ∧ good s 0 = good s i)
    (fun _ iv => s.size - (intOf iv).toNat)
  case atStart => exact ⟨0, 0, rfl, rfl, by omega, by omega, by omega, rfl⟩
  case round =>
    obtain ⟨n, i, rfl, rfl, hc, hn, hi, hg⟩ := hrel
    have HC := Lib.hid hc
    have HG := Lib.hid hg
    clear hc hg
    by_cases hlt : i < s.size
    · have hltz : (i : Int) < (s.size : Int) := by omega
      have hwd := Lib.decode_width_pos s i hlt
      have hft := decode_fits s i hlt
      have hst := cnt_step s i hlt
      have hgs := good_step s i hlt
      have hun : signAt s i = ((runeAt s i).2.2 && (plainR (runeAt s i).1 || farR (runeAt s i).1 || (markR (runeAt s i).1 && decide (0 < i)))) := rfl
      have hno := no_rune s i
      have hcall := rune_tail s i w hlt HS.out
      obtain ⟨k, hk⟩ : ∃ k, (Utf8.decode s i).2 = k := ⟨_, rfl⟩
      obtain ⟨c, hce⟩ : ∃ c, (runeAt s i).1 = c := ⟨_, rfl⟩
      obtain ⟨ok, hok⟩ : ∃ ok, (runeAt s i).2.2 = ok := ⟨_, rfl⟩
      rw [hk] at hwd hft hst hgs hcall
      rw [hce] at hun hno hcall
      rw [hok] at hun hno hcall
      have go_on : signAt s i = true → (n + 1) + cntFrom s (i + k) = cntFrom s 0 ∧ good s 0 = good s (i + k) := by
        intro h
        have h1 := HC.out
        refine ⟨by omega, ?_⟩
        rw [HG.out, hgs, h, Bool.true_and]
      have bad : signAt s i = false → validS s = false := fun h => bad_sign s i hlt h HG.out
      have GO := Lib.hid go_on
      have BAD := Lib.hid bad
      have HU := Lib.hid hun
      clear hk hce hok hst hgs hun go_on bad HC HG HS hlt
      cases ok with
      | false =>
        obtain rfl : c = 0 := hno rfl
        clear hno
        have hsig : signAt s i = false := by rw [HU.out]; rfl
        have HB := Lib.hid (BAD.out hsig)
        clear hsig GO BAD HU
        go_wp2_with fail
        refine hcall.mono ?_
        rintro e w' ⟨rfl, rfl⟩
        go_wp2
        go_ret
        exact ⟨by rw [HB.out]; rfl, rfl⟩
      | true =>
        clear hno
        by_cases h45 : c = 45
        · subst h45
          by_cases hip : (0 : Int) < i
          · have hip2 : 0 < i := by omega
            have hip3 : decide (0 < i) = true := decide_eq_true hip2
            have hsig : signAt s i = true := by rw [HU.out]; simp [plainR, farR, markR]; omega
            have HB := Lib.hid (GO.out hsig)
            clear hsig GO BAD HU hip2
            go_wp2_with fail
            refine hcall.mono ?_
            rintro e w' ⟨rfl, rfl⟩
            go_wp2
            go_round
            case rel => exact ⟨n + 1, i + k, by go_num, by go_num, HB.out.1, by omega, hft, HB.out.2⟩
            case measure => simp [intOf]; omega
          · have hip2 : ¬ 0 < i := by omega
            have hip3 : decide (0 < i) = false := decide_eq_false hip2
            have hsig : signAt s i = false := by rw [HU.out]; simp [plainR, farR, markR]; omega
            have HB := Lib.hid (BAD.out hsig)
            clear hsig GO BAD HU hip2
            go_wp2_with fail
            refine hcall.mono ?_
            rintro e w' ⟨rfl, rfl⟩
            go_wp2
            go_ret
            exact ⟨by rw [HB.out]; rfl, rfl⟩
        by_cases h46 : c = 46
        · subst h46
          by_cases hip : (0 : Int) < i
          · have hip2 : 0 < i := by omega
            have hip3 : decide (0 < i) = true := decide_eq_true hip2
            have hsig : signAt s i = true := by rw [HU.out]; simp [plainR, farR, markR]; omega
            have HB := Lib.hid (GO.out hsig)
            clear hsig GO BAD HU hip2
            go_wp2_with fail
            refine hcall.mono ?_
            rintro e w' ⟨rfl, rfl⟩
            go_wp2
            go_round
            case rel => exact ⟨n + 1, i + k, by go_num, by go_num, HB.out.1, by omega, hft, HB.out.2⟩
            case measure => simp [intOf]; omega
          · have hip2 : ¬ 0 < i := by omega
            have hip3 : decide (0 < i) = false := decide_eq_false hip2
            have hsig : signAt s i = false := by rw [HU.out]; simp [plainR, farR, markR]; omega
            have HB := Lib.hid (BAD.out hsig)
            clear hsig GO BAD HU hip2
            go_wp2_with fail
            refine hcall.mono ?_
            rintro e w' ⟨rfl, rfl⟩
            go_wp2
            go_ret
            exact ⟨by rw [HB.out]; rfl, rfl⟩
        by_cases h95 : c = 95
        · subst h95
          by_cases hip : (0 : Int) < i
          · have hip2 : 0 < i := by omega
            have hip3 : decide (0 < i) = true := decide_eq_true hip2
            have hsig : signAt s i = true := by rw [HU.out]; simp [plainR, farR, markR]; omega
            have HB := Lib.hid (GO.out hsig)
            clear hsig GO BAD HU hip2
            go_wp2_with fail
            refine hcall.mono ?_
            rintro e w' ⟨rfl, rfl⟩
            go_wp2
            go_round
            case rel => exact ⟨n + 1, i + k, by go_num, by go_num, HB.out.1, by omega, hft, HB.out.2⟩
            case measure => simp [intOf]; omega
          · have hip2 : ¬ 0 < i := by omega
            have hip3 : decide (0 < i) = false := decide_eq_false hip2
            have hsig : signAt s i = false := by rw [HU.out]; simp [plainR, farR, markR]; omega
            have HB := Lib.hid (BAD.out hsig)
            clear hsig GO BAD HU hip2
            go_wp2_with fail
            refine hcall.mono ?_
            rintro e w' ⟨rfl, rfl⟩
            go_wp2
            go_ret
            exact ⟨by rw [HB.out]; rfl, rfl⟩
        by_cases h173 : c = 173
        · subst h173
          have hsig : signAt s i = false := by rw [HU.out]; simp [plainR, farR, markR]
          have HB := Lib.hid (BAD.out hsig)
          clear hsig GO BAD HU
          go_wp2_with fail
          refine hcall.mono ?_
          rintro e w' ⟨rfl, rfl⟩
          go_wp2
          go_ret
          exact ⟨by rw [HB.out]; rfl, rfl⟩
        by_cases h65279 : c = 65279
        · subst h65279
          have hsig : signAt s i = false := by rw [HU.out]; simp [plainR, farR, markR]
          have HB := Lib.hid (BAD.out hsig)
          clear hsig GO BAD HU
          go_wp2_with fail
          refine hcall.mono ?_
          rintro e w' ⟨rfl, rfl⟩
          go_wp2
          go_ret
          exact ⟨by rw [HB.out]; rfl, rfl⟩
        have e45 : ((c : Int) == 45) = false := by simp; omega
        have e46 : ((c : Int) == 46) = false := by simp; omega
        have e95 : ((c : Int) == 95) = false := by simp; omega
        have e173 : ((c : Int) != 173) = true := by simp; omega
        have e65279 : ((c : Int) != 65279) = true := by simp; omega
        have HE := Lib.hid (show c ≠ 45 ∧ c ≠ 46 ∧ c ≠ 95 ∧ c ≠ 173 ∧ c ≠ 65279 from ⟨h45, h46, h95, h173, h65279⟩)
        clear h45 h46 h95 h173 h65279
        by_cases r0 : c < 48
        · have q0 : ¬ (97 : Int) ≤ c := by omega
          have d0 : decide ((97 : Int) ≤ c) = false := decide_eq_false q0
          have q1 : ¬ (48 : Int) ≤ c := by omega
          have d1 : decide ((48 : Int) ≤ c) = false := decide_eq_false q1
          have q2 : ¬ (161 : Int) ≤ c := by omega
          have d2 : decide ((161 : Int) ≤ c) = false := decide_eq_false q2
          have hsig : signAt s i = false := by rw [HU.out]; simp [plainR, farR, markR]; have := HE.out; omega
          have HB := Lib.hid (BAD.out hsig)
          clear hsig GO BAD HU HE r0
          go_wp2_with fail
          refine hcall.mono ?_
          rintro e w' ⟨rfl, rfl⟩
          go_wp2
          go_ret
          exact ⟨by rw [HB.out]; rfl, rfl⟩
        by_cases r1 : c ≤ 57
        · have q0 : ¬ (97 : Int) ≤ c := by omega
          have d0 : decide ((97 : Int) ≤ c) = false := decide_eq_false q0
          have q1 : (48 : Int) ≤ c := by omega
          have d1 : decide ((48 : Int) ≤ c) = true := decide_eq_true q1
          have q2 : (c : Int) ≤ 57 := by omega
          have d2 : decide ((c : Int) ≤ 57) = true := decide_eq_true q2
          have q3 : ¬ (161 : Int) ≤ c := by omega
          have d3 : decide ((161 : Int) ≤ c) = false := decide_eq_false q3
          have hsig : signAt s i = true := by rw [HU.out]; simp [plainR, farR, markR]; have := HE.out; omega
          have HB := Lib.hid (GO.out hsig)
          clear hsig GO BAD HU HE r0 r1
          go_wp2_with fail
          refine hcall.mono ?_
          rintro e w' ⟨rfl, rfl⟩
          go_wp2
          go_round
          case rel => exact ⟨n + 1, i + k, by go_num, by go_num, HB.out.1, by omega, hft, HB.out.2⟩
          case measure => simp [intOf]; omega
        by_cases r2 : c < 97
        · have q0 : ¬ (97 : Int) ≤ c := by omega
          have d0 : decide ((97 : Int) ≤ c) = false := decide_eq_false q0
          have q1 : (48 : Int) ≤ c := by omega
          have d1 : decide ((48 : Int) ≤ c) = true := decide_eq_true q1
          have q2 : ¬ (c : Int) ≤ 57 := by omega
          have d2 : decide ((c : Int) ≤ 57) = false := decide_eq_false q2
          have q3 : ¬ (161 : Int) ≤ c := by omega
          have d3 : decide ((161 : Int) ≤ c) = false := decide_eq_false q3
          have hsig : signAt s i = false := by rw [HU.out]; simp [plainR, farR, markR]; have := HE.out; omega
          have HB := Lib.hid (BAD.out hsig)
          clear hsig GO BAD HU HE r0 r1 r2
          go_wp2_with fail
          refine hcall.mono ?_
          rintro e w' ⟨rfl, rfl⟩
          go_wp2
          go_ret
          exact ⟨by rw [HB.out]; rfl, rfl⟩
        by_cases r3 : c ≤ 122
        · have q0 : (97 : Int) ≤ c := by omega
          have d0 : decide ((97 : Int) ≤ c) = true := decide_eq_true q0
          have q1 : (c : Int) ≤ 122 := by omega
          have d1 : decide ((c : Int) ≤ 122) = true := decide_eq_true q1
          have q2 : (48 : Int) ≤ c := by omega
          have d2 : decide ((48 : Int) ≤ c) = true := decide_eq_true q2
          have q3 : ¬ (c : Int) ≤ 57 := by omega
          have d3 : decide ((c : Int) ≤ 57) = false := decide_eq_false q3
          have q4 : ¬ (161 : Int) ≤ c := by omega
          have d4 : decide ((161 : Int) ≤ c) = false := decide_eq_false q4
          have hsig : signAt s i = true := by rw [HU.out]; simp [plainR, farR, markR]; have := HE.out; omega
          have HB := Lib.hid (GO.out hsig)
          clear hsig GO BAD HU HE r0 r1 r2 r3
          go_wp2_with fail
          refine hcall.mono ?_
          rintro e w' ⟨rfl, rfl⟩
          go_wp2
          go_round
          case rel => exact ⟨n + 1, i + k, by go_num, by go_num, HB.out.1, by omega, hft, HB.out.2⟩
          case measure => simp [intOf]; omega
        by_cases r4 : c < 161
        · have q0 : (97 : Int) ≤ c := by omega
          have d0 : decide ((97 : Int) ≤ c) = true := decide_eq_true q0
          have q1 : ¬ (c : Int) ≤ 122 := by omega
          have d1 : decide ((c : Int) ≤ 122) = false := decide_eq_false q1
          have q2 : (48 : Int) ≤ c := by omega
          have d2 : decide ((48 : Int) ≤ c) = true := decide_eq_true q2
          have q3 : ¬ (c : Int) ≤ 57 := by omega
          have d3 : decide ((c : Int) ≤ 57) = false := decide_eq_false q3
          have q4 : ¬ (161 : Int) ≤ c := by omega
          have d4 : decide ((161 : Int) ≤ c) = false := decide_eq_false q4
          have hsig : signAt s i = false := by rw [HU.out]; simp [plainR, farR, markR]; have := HE.out; omega
          have HB := Lib.hid (BAD.out hsig)
          clear hsig GO BAD HU HE r0 r1 r2 r3 r4
          go_wp2_with fail
          refine hcall.mono ?_
          rintro e w' ⟨rfl, rfl⟩
          go_wp2
          go_ret
          exact ⟨by rw [HB.out]; rfl, rfl⟩
        by_cases r5 : c ≤ 65535
        · have q0 : (97 : Int) ≤ c := by omega
          have d0 : decide ((97 : Int) ≤ c) = true := decide_eq_true q0
          have q1 : ¬ (c : Int) ≤ 122 := by omega
          have d1 : decide ((c : Int) ≤ 122) = false := decide_eq_false q1
          have q2 : (48 : Int) ≤ c := by omega
          have d2 : decide ((48 : Int) ≤ c) = true := decide_eq_true q2
          have q3 : ¬ (c : Int) ≤ 57 := by omega
          have d3 : decide ((c : Int) ≤ 57) = false := decide_eq_false q3
          have q4 : (161 : Int) ≤ c := by omega
          have d4 : decide ((161 : Int) ≤ c) = true := decide_eq_true q4
          have q5 : (c : Int) ≤ 65535 := by omega
          have d5 : decide ((c : Int) ≤ 65535) = true := decide_eq_true q5
          have hsig : signAt s i = true := by rw [HU.out]; simp [plainR, farR, markR]; have := HE.out; omega
          have HB := Lib.hid (GO.out hsig)
          clear hsig GO BAD HU HE r0 r1 r2 r3 r4 r5
          go_wp2_with fail
          refine hcall.mono ?_
          rintro e w' ⟨rfl, rfl⟩
          go_wp2
          go_round
          case rel => exact ⟨n + 1, i + k, by go_num, by go_num, HB.out.1, by omega, hft, HB.out.2⟩
          case measure => simp [intOf]; omega
        have q0 : (97 : Int) ≤ c := by omega
        have d0 : decide ((97 : Int) ≤ c) = true := decide_eq_true q0
        have q1 : ¬ (c : Int) ≤ 122 := by omega
        have d1 : decide ((c : Int) ≤ 122) = false := decide_eq_false q1
        have q2 : (48 : Int) ≤ c := by omega
        have d2 : decide ((48 : Int) ≤ c) = true := decide_eq_true q2
        have q3 : ¬ (c : Int) ≤ 57 := by omega
        have d3 : decide ((c : Int) ≤ 57) = false := decide_eq_false q3
        have q4 : (161 : Int) ≤ c := by omega
        have d4 : decide ((161 : Int) ≤ c) = true := decide_eq_true q4
        have q5 : ¬ (c : Int) ≤ 65535 := by omega
        have d5 : decide ((c : Int) ≤ 65535) = false := decide_eq_false q5
        have hsig : signAt s i = false := by rw [HU.out]; simp [plainR, farR, markR]; have := HE.out; omega
        have HB := Lib.hid (BAD.out hsig)
        clear hsig GO BAD HU HE r0 r1 r2 r3 r4 r5
        go_wp2_with fail
        refine hcall.mono ?_
        rintro e w' ⟨rfl, rfl⟩
        go_wp2
        go_ret
        exact ⟨by rw [HB.out]; rfl, rfl⟩
    · have hltz : ¬ (i : Int) < (s.size : Int) := by omega
      have hd := Lib.hid (good_done s i n hlt HG.out HC.out)
      clear HC HG HS
      by_cases h1 : (0 : Int) < n
      · by_cases h40 : (n : Int) ≤ 40
        · have HF := Lib.hid (show validS s = true by rw [hd.out]; simp; omega)
          clear hd
          go_wp2
          go_ret
          exact ⟨by rw [HF.out]; rfl, rfl⟩
        · have HF := Lib.hid (show validS s = false by rw [hd.out]; simp; omega)
          clear hd
          go_wp2
          go_ret
          exact ⟨by rw [HF.out]; rfl, rfl⟩
      · have HF := Lib.hid (show validS s = false by rw [hd.out]; simp; omega)
        clear hd
        go_wp2
        go_ret
        exact ⟨by rw [HF.out]; rfl, rfl⟩
end Go.Proofs.YtmghlfhdjdlkbaaDoor
