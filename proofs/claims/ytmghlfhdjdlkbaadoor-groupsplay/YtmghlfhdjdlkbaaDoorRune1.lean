/- A contract of the document's own rune1: which rune begins a text, how many bytes it has, whether it is right. -/
import Derived.Test.YtmghlfhdjdlkbaaDoorRows
import Derived.Test.YtmghlfhdjdlkbaaDoorRuneNum
import Derived.WalkKit
import Derived.Lib.Hide
import Derived.Below
import Derived.Laws.RangeAny
import Derived.Laws.BitsLemmas
import Derived.LoopTactic
namespace Go.Proofs.YtmghlfhdjdlkbaaDoor
open Go.RowKit

/-- What the bytes behind the first come to, up to byte i. -/
def accR (s : ByteArray) (c0 : Nat) : Nat → Nat
  | 0 => c0
  | k + 1 => accR s c0 k * 64 + (s.get! (k + 1)).toNat % 64
def accI (s : ByteArray) (c0 i : Nat) : Nat := accR s c0 (i - 1)
theorem acc_step (s : ByteArray) (c0 i : Nat) (h : 1 ≤ i) : accI s c0 (i + 1) = accI s c0 i * 64 + (s.get! i).toNat % 64 := by
  obtain ⟨k, rfl⟩ : ∃ k, i = k + 1 := ⟨i - 1, by omega⟩
  rfl
theorem acc_lt (s : ByteArray) (c0 i : Nat) (hc : c0 < 32) (hi : i ≤ 4) : accI s c0 i < 8388608 := by
  have e0 : accR s c0 0 = c0 := rfl
  have h1 : accR s c0 1 = accR s c0 0 * 64 + (s.get! 1).toNat % 64 := rfl
  have h2 : accR s c0 2 = accR s c0 1 * 64 + (s.get! 2).toNat % 64 := rfl
  have h3 : accR s c0 3 = accR s c0 2 * 64 + (s.get! 3).toNat % 64 := rfl
  unfold accI
  obtain hk | hk | hk | hk : i - 1 = 0 ∨ i - 1 = 1 ∨ i - 1 = 2 ∨ i - 1 = 3 := by omega
  all_goals rw [hk]
  all_goals omega
theorem i64_mask (i : Nat) (hi : i ≤ 62) (y : Nat) (h : y < 256) : bits .and .i64 (y : Int) (2 ^ i - 1) = (y : Int) % 2 ^ i :=
  bits_mask .i64 62 (by decide) (fun n h h' => by
    have h2 : n < 4611686018427387904 := by simpa using h'
    simp only [IntKind.wrap, IntKind.signed, IntKind.bits]
    simp
    omega) i hi y (by omega) (by rw [show (2 : Int) ^ 62 = 4611686018427387904 from by decide]; omega)
theorem wrap_byte (y : Nat) (h : y < 256) : wrap64 (y : Int) = (y : Int) := by
  unfold wrap64
  omega
theorem at_get (s : ByteArray) (i : Nat) (h : i < s.size) : (s[i]'h).toNat = (s.get! i).toNat := by
  rw [← get_at s i h, Nat.add_zero]

/-- What rune1 answers: the world stays. -/
def RuneTells (s : ByteArray) (w : World) (e : Ending) (w' : World) : Prop := e = .returned (.tuple #[.int .i64 ((runeAt s 0).1 : Nat), .int .i64 ((runeAt s 0).2.1 : Nat), .bool (runeAt s 0).2.2]) ∧ w = w'

theorem rune_one (s : ByteArray) (w : World) (h0 : 0 < s.size) (hb : (s.get! 0).toNat < 128) : Calls Tryd.prog 24 #[.string s] w (RuneTells s w) := by
  have hr := runeAt_eq s 0
  rw [one_head _ _ _ _ _ (by simpa using hb)] at hr
  have hx := at_get s 0 h0
  obtain ⟨x, hxe⟩ : ∃ x, (s.get! 0).toNat = x := ⟨_, rfl⟩
  rw [hxe] at hr hx hb
  have HR := Lib.hid hr
  clear hr hxe
  have hw := wrap_byte x (by omega)
  have h1 : (x : Int) < 128 := by omega
  go_enter Tryd.func24, Tryd.ntmps24
  go_wp2
  go_ret3
  unfold RuneTells
  rw [HR.out]
  exact ⟨rfl, rfl⟩
theorem rune_bad (s : ByteArray) (w : World) (h0 : 0 < s.size) (hb : (128 ≤ (s.get! 0).toNat ∧ (s.get! 0).toNat < 194) ∨ 245 ≤ (s.get! 0).toNat) : Calls Tryd.prog 24 #[.string s] w (RuneTells s w) := by
  have hr := runeAt_eq s 0
  have hlt := byte_lt s 0
  rw [bad_head _ _ _ _ _ (by simpa using hb) (byte_lt _ _) (byte_lt _ _) (byte_lt _ _) (byte_lt _ _)] at hr
  have hx := at_get s 0 h0
  obtain ⟨x, hxe⟩ : ∃ x, (s.get! 0).toNat = x := ⟨_, rfl⟩
  rw [hxe] at hx hb hlt
  have HR := Lib.hid hr
  clear hr hxe
  have hw := wrap_byte x (by omega)
  have h1 : ¬ (x : Int) < 128 := by omega
  rcases hb with ⟨hb1, hb2⟩ | hb1
  · have h2 : ¬ (194 : Int) ≤ x := by omega
    have h3 : ¬ (224 : Int) ≤ x := by omega
    have h4 : ¬ (240 : Int) ≤ x := by omega
    go_enter Tryd.func24, Tryd.ntmps24
    go_wp2
    go_ret3
    unfold RuneTells
    rw [HR.out]
    exact ⟨rfl, rfl⟩
  · have h2 : (194 : Int) ≤ x := by omega
    have h2' : ¬ (x : Int) < 224 := by omega
    have h3 : (224 : Int) ≤ x := by omega
    have h3' : ¬ (x : Int) < 240 := by omega
    have h4 : (240 : Int) ≤ x := by omega
    have h4' : ¬ (x : Int) < 245 := by omega
    go_enter Tryd.func24, Tryd.ntmps24
    go_wp2
    go_ret3
    unfold RuneTells
    rw [HR.out]
    exact ⟨rfl, rfl⟩

set_option maxHeartbeats 1600000 in
theorem rune_two (s : ByteArray) (w : World) (h0 : 0 < s.size) (hs : s.size ≤ maxLen) (hb : 194 ≤ (s.get! 0).toNat ∧ (s.get! 0).toNat < 224) : Calls Tryd.prog 24 #[.string s] w (RuneTells s w) := by
  unfold maxLen at hs
  have hr := runeAt_eq s 0
  rw [two_head _ _ _ _ _ (by simpa using hb)] at hr
  simp only [Nat.zero_add, Nat.sub_zero] at hr
  have hx := at_get s 0 h0
  have hlt := byte_lt s 0
  obtain ⟨x, hxe⟩ : ∃ x, (s.get! 0).toNat = x := ⟨_, rfl⟩
  rw [hxe] at hr hx hb hlt
  clear hxe
  obtain ⟨hb1, hb2⟩ := hb
  have hw := wrap_byte x (by omega)
  have hm := i64_mask 5 (by decide) x (by omega)
  have hme : (x : Int) % 2 ^ 5 = ((x % 32 : Nat) : Int) := by simp
  rw [hme, show (2 : Int) ^ 5 - 1 = 31 from by decide] at hm
  clear hme
  have hc0 : x % 32 < 32 := by omega
  have hcm : 2 ≤ x % 32 := by omega
  have hacc : accI s (x % 32) 2 = x % 32 * 64 + (s.get! 1).toNat % 64 := by
    rfl
  obtain ⟨c0, hc0e⟩ : ∃ c0, x % 32 = c0 := ⟨_, rfl⟩
  rw [hc0e] at hm hc0 hcm hacc hr
  clear hc0e
  have h1 : ¬ (x : Int) < 128 := by omega
  have h2 : (194 : Int) ≤ x := by omega
  have h2' : (x : Int) < 224 := by omega
  have HR := Lib.hid hr
  have HA := Lib.hid hacc
  have HL := Lib.hid hcm
  have HU := Lib.hid hc0
  clear hr hacc hcm
  by_cases hn : (s.size : Int) < 2
  · have hbad : runeAt s 0 = (0, 1, false) := by
      rw [HR.out, if_neg (by omega)]
    have HB := Lib.hid hbad
    clear hbad
    go_enter Tryd.func24, Tryd.ntmps24
    go_wp2
    go_ret3
    unfold RuneTells
    rw [HB.out]
    exact ⟨rfl, rfl⟩
  go_enter Tryd.func24, Tryd.ntmps24
  go_wp2_with fail
  go_loop [8, 9] (fun cv iv => ∃ (i c : Nat), cv = .int .i64 (c : Int) ∧ iv = .int .i64 (i : Int) ∧ 1 ≤ i ∧ i ≤ 2 ∧ c = accI s c0 i ∧ ∀ j, 1 ≤ j → j < i → 128 ≤ (s.get! j).toNat ∧ (s.get! j).toNat ≤ 191)
    (fun _ iv => 2 - (intOf iv).toNat)
  case atStart => exact ⟨1, c0, rfl, rfl, by omega, by omega, rfl, fun j h1 h2 => by omega⟩
  case round =>
    obtain ⟨i, c, rfl, rfl, hi1, hi2, hc, hall⟩ := hrel
    have hcl := acc_lt s c0 i (by omega) (by omega)
    have hstep := acc_step s c0 i hi1
    rw [← hc] at hcl hstep
    have HC := Lib.hid hc
    have HALL := Lib.hid hall
    have HS := Lib.hid hstep
    clear hc hall hstep hx hlt hb1 hb2 hw hm hc0 h1 h2 h2'
    by_cases hin : (i : Int) < 2
    · have his : i < s.size := by omega
      have hisz : (i : Int) < (s.size : Int) := by omega
      have hy := at_get s i his
      have hyl := byte_lt s i
      obtain ⟨y, hye⟩ : ∃ y, (s.get! i).toNat = y := ⟨_, rfl⟩
      rw [hye] at hy hyl
      have HY := Lib.hid hye
      clear hye
      have hwy := wrap_byte y hyl
      by_cases hy1 : (y : Int) < 128
      · have hbad : runeAt s 0 = (0, 1, false) := by
          have hyo := HY.out
          rw [HR.out, if_neg]
          intro hh
          obtain rfl : i = 1 := by omega
          omega
        have HB := Lib.hid hbad
        clear hbad HC HALL HS HR HA hcl
        go_wp2
        go_ret3
        unfold RuneTells
        rw [HB.out]
        exact ⟨rfl, rfl⟩
      · by_cases hy2 : (191 : Int) < (y : Int)
        · have hbad : runeAt s 0 = (0, 1, false) := by
            have hyo := HY.out
            rw [HR.out, if_neg]
            intro hh
            obtain rfl : i = 1 := by omega
            omega
          have HB := Lib.hid hbad
          clear hbad HC HALL HS HR HA hcl
          go_wp2
          go_ret3
          unfold RuneTells
          rw [HB.out]
          exact ⟨rfl, rfl⟩
        · have hmy := i64_mask 6 (by decide) y (by omega)
          have hme : (y : Int) % 2 ^ 6 = ((y % 64 : Nat) : Int) := by simp
          rw [hme, show (2 : Int) ^ 6 - 1 = 63 from by decide] at hmy
          clear hme
          have hml : y % 64 < 64 := by omega
          obtain ⟨m, hme⟩ : ∃ m, y % 64 = m := ⟨_, rfl⟩
          rw [hme] at hmy hml
          have HM := Lib.hid hme
          clear hme HR HA
          go_wp2
          go_round
          case rel =>
            refine ⟨i + 1, c * 64 + m, by go_num, by go_num, by omega, by omega, ?_, ?_⟩
            · rw [HS.out, HY.out, HM.out]
            · intro j hj1 hj2
              by_cases hji : j = i
              · rw [hji, HY.out]; omega
              · exact HALL.out j hj1 (by omega)
          case measure => simp [intOf]; omega
    · have hie : i = 2 := by omega
      have hval : c = c0 * 64 + (s.get! 1).toNat % 64 := by rw [HC.out, hie, HA.out]
      have hrest := HALL.out
      rw [hie] at hrest
      have hk1 := hrest 1 (by omega) (by omega)
      have HV := Lib.hid hval
      clear hval hrest
      by_cases hg1 : (c : Int) < 128
      · have hbad : runeAt s 0 = (0, 1, false) := by
          have hvo := HV.out
          rw [HR.out, if_neg]
          exfalso; have := HL.out; have := HU.out; omega
        have HB := Lib.hid hbad
        clear hbad HC HALL HS HR HA HV hcl hk1
        go_wp2
        go_ret3
        unfold RuneTells
        rw [HB.out]
        exact ⟨rfl, rfl⟩
      · by_cases hg2 : (1114111 : Int) < (c : Int)
        · have hbad : runeAt s 0 = (0, 1, false) := by
            have hvo := HV.out
            rw [HR.out, if_neg]
            exfalso; have := HL.out; have := HU.out; omega
          have HB := Lib.hid hbad
          clear hbad HC HALL HS HR HA HV hcl hk1
          go_wp2
          go_ret3
          unfold RuneTells
          rw [HB.out]
          exact ⟨rfl, rfl⟩
        · by_cases hg3 : (55296 : Int) ≤ (c : Int)
          · by_cases hg4 : (c : Int) ≤ 57343
            · have hbad : runeAt s 0 = (0, 1, false) := by
                have hvo := HV.out
                rw [HR.out, if_neg]
                exfalso; have := HL.out; have := HU.out; omega
              have HB := Lib.hid hbad
              clear hbad HC HALL HS HR HA HV hcl hk1
              go_wp2
              go_ret3
              unfold RuneTells
              rw [HB.out]
              exact ⟨rfl, rfl⟩
            · have hgood : runeAt s 0 = (c, 2, true) := by
                have hvo := HV.out
                rw [HR.out, if_pos, ← hvo]
                omega
              have HB := Lib.hid hgood
              clear hgood HC HALL HS HR HA HV hcl hk1
              go_wp2
              go_ret3
              unfold RuneTells
              rw [HB.out]
              exact ⟨rfl, rfl⟩
          · have hgood : runeAt s 0 = (c, 2, true) := by
              have hvo := HV.out
              rw [HR.out, if_pos, ← hvo]
              omega
            have HB := Lib.hid hgood
            clear hgood HC HALL HS HR HA HV hcl hk1
            go_wp2
            go_ret3
            unfold RuneTells
            rw [HB.out]
            exact ⟨rfl, rfl⟩

set_option maxHeartbeats 1600000 in
theorem rune_three (s : ByteArray) (w : World) (h0 : 0 < s.size) (hs : s.size ≤ maxLen) (hb : 224 ≤ (s.get! 0).toNat ∧ (s.get! 0).toNat < 240) : Calls Tryd.prog 24 #[.string s] w (RuneTells s w) := by
  unfold maxLen at hs
  have hr := runeAt_eq s 0
  rw [three_head _ _ _ _ _ (by simpa using hb)] at hr
  simp only [Nat.zero_add, Nat.sub_zero] at hr
  have hx := at_get s 0 h0
  have hlt := byte_lt s 0
  obtain ⟨x, hxe⟩ : ∃ x, (s.get! 0).toNat = x := ⟨_, rfl⟩
  rw [hxe] at hr hx hb hlt
  clear hxe
  obtain ⟨hb1, hb2⟩ := hb
  have hw := wrap_byte x (by omega)
  have hm := i64_mask 4 (by decide) x (by omega)
  have hme : (x : Int) % 2 ^ 4 = ((x % 16 : Nat) : Int) := by simp
  rw [hme, show (2 : Int) ^ 4 - 1 = 15 from by decide] at hm
  clear hme
  have hc0 : x % 16 < 16 := by omega
  have hcm : 0 ≤ x % 16 := by omega
  have hacc : accI s (x % 16) 3 = x % 16 * 4096 + (s.get! 1).toNat % 64 * 64 + (s.get! 2).toNat % 64 := by
    show (x % 16 * 64 + (s.get! 1).toNat % 64) * 64 + (s.get! 2).toNat % 64 = _; omega
  obtain ⟨c0, hc0e⟩ : ∃ c0, x % 16 = c0 := ⟨_, rfl⟩
  rw [hc0e] at hm hc0 hcm hacc hr
  clear hc0e
  have h1 : ¬ (x : Int) < 128 := by omega
  have h2 : (194 : Int) ≤ x := by omega
  have h2' : ¬ (x : Int) < 224 := by omega
  have h3 : (224 : Int) ≤ x := by omega
  have h3' : (x : Int) < 240 := by omega
  have HR := Lib.hid hr
  have HA := Lib.hid hacc
  have HL := Lib.hid hcm
  have HU := Lib.hid hc0
  clear hr hacc hcm
  by_cases hn : (s.size : Int) < 3
  · have hbad : runeAt s 0 = (0, 1, false) := by
      rw [HR.out, if_neg (by omega)]
    have HB := Lib.hid hbad
    clear hbad
    go_enter Tryd.func24, Tryd.ntmps24
    go_wp2
    go_ret3
    unfold RuneTells
    rw [HB.out]
    exact ⟨rfl, rfl⟩
  go_enter Tryd.func24, Tryd.ntmps24
  go_wp2_with fail
  go_loop [8, 9] (fun cv iv => ∃ (i c : Nat), cv = .int .i64 (c : Int) ∧ iv = .int .i64 (i : Int) ∧ 1 ≤ i ∧ i ≤ 3 ∧ c = accI s c0 i ∧ ∀ j, 1 ≤ j → j < i → 128 ≤ (s.get! j).toNat ∧ (s.get! j).toNat ≤ 191)
    (fun _ iv => 3 - (intOf iv).toNat)
  case atStart => exact ⟨1, c0, rfl, rfl, by omega, by omega, rfl, fun j h1 h2 => by omega⟩
  case round =>
    obtain ⟨i, c, rfl, rfl, hi1, hi2, hc, hall⟩ := hrel
    have hcl := acc_lt s c0 i (by omega) (by omega)
    have hstep := acc_step s c0 i hi1
    rw [← hc] at hcl hstep
    have HC := Lib.hid hc
    have HALL := Lib.hid hall
    have HS := Lib.hid hstep
    clear hc hall hstep hx hlt hb1 hb2 hw hm hc0 h1 h2 h2' h3 h3'
    by_cases hin : (i : Int) < 3
    · have his : i < s.size := by omega
      have hisz : (i : Int) < (s.size : Int) := by omega
      have hy := at_get s i his
      have hyl := byte_lt s i
      obtain ⟨y, hye⟩ : ∃ y, (s.get! i).toNat = y := ⟨_, rfl⟩
      rw [hye] at hy hyl
      have HY := Lib.hid hye
      clear hye
      have hwy := wrap_byte y hyl
      by_cases hy1 : (y : Int) < 128
      · have hbad : runeAt s 0 = (0, 1, false) := by
          have hyo := HY.out
          rw [HR.out, if_neg]
          intro hh
          obtain hi3 | hi3 : i = 1 ∨ i = 2 := by omega
          all_goals
            rw [hi3] at hyo
            omega
        have HB := Lib.hid hbad
        clear hbad HC HALL HS HR HA hcl
        go_wp2
        go_ret3
        unfold RuneTells
        rw [HB.out]
        exact ⟨rfl, rfl⟩
      · by_cases hy2 : (191 : Int) < (y : Int)
        · have hbad : runeAt s 0 = (0, 1, false) := by
            have hyo := HY.out
            rw [HR.out, if_neg]
            intro hh
            obtain hi3 | hi3 : i = 1 ∨ i = 2 := by omega
            all_goals
              rw [hi3] at hyo
              omega
          have HB := Lib.hid hbad
          clear hbad HC HALL HS HR HA hcl
          go_wp2
          go_ret3
          unfold RuneTells
          rw [HB.out]
          exact ⟨rfl, rfl⟩
        · have hmy := i64_mask 6 (by decide) y (by omega)
          have hme : (y : Int) % 2 ^ 6 = ((y % 64 : Nat) : Int) := by simp
          rw [hme, show (2 : Int) ^ 6 - 1 = 63 from by decide] at hmy
          clear hme
          have hml : y % 64 < 64 := by omega
          obtain ⟨m, hme⟩ : ∃ m, y % 64 = m := ⟨_, rfl⟩
          rw [hme] at hmy hml
          have HM := Lib.hid hme
          clear hme HR HA
          go_wp2
          go_round
          case rel =>
            refine ⟨i + 1, c * 64 + m, by go_num, by go_num, by omega, by omega, ?_, ?_⟩
            · rw [HS.out, HY.out, HM.out]
            · intro j hj1 hj2
              by_cases hji : j = i
              · rw [hji, HY.out]; omega
              · exact HALL.out j hj1 (by omega)
          case measure => simp [intOf]; omega
    · have hie : i = 3 := by omega
      have hval : c = c0 * 4096 + (s.get! 1).toNat % 64 * 64 + (s.get! 2).toNat % 64 := by rw [HC.out, hie, HA.out]
      have hrest := HALL.out
      rw [hie] at hrest
      have hk1 := hrest 1 (by omega) (by omega)
      have hk2 := hrest 2 (by omega) (by omega)
      have HV := Lib.hid hval
      clear hval hrest
      by_cases hg1 : (c : Int) < 2048
      · have hbad : runeAt s 0 = (0, 1, false) := by
          have hvo := HV.out
          rw [HR.out, if_neg]
          intro hh; have := HU.out; omega
        have HB := Lib.hid hbad
        clear hbad HC HALL HS HR HA HV hcl hk1 hk2
        go_wp2
        go_ret3
        unfold RuneTells
        rw [HB.out]
        exact ⟨rfl, rfl⟩
      · by_cases hg2 : (1114111 : Int) < (c : Int)
        · have hbad : runeAt s 0 = (0, 1, false) := by
            have hvo := HV.out
            rw [HR.out, if_neg]
            intro hh; have := HU.out; omega
          have HB := Lib.hid hbad
          clear hbad HC HALL HS HR HA HV hcl hk1 hk2
          go_wp2
          go_ret3
          unfold RuneTells
          rw [HB.out]
          exact ⟨rfl, rfl⟩
        · by_cases hg3 : (55296 : Int) ≤ (c : Int)
          · by_cases hg4 : (c : Int) ≤ 57343
            · have hbad : runeAt s 0 = (0, 1, false) := by
                have hvo := HV.out
                rw [HR.out, if_neg]
                intro hh; have := HU.out; omega
              have HB := Lib.hid hbad
              clear hbad HC HALL HS HR HA HV hcl hk1 hk2
              go_wp2
              go_ret3
              unfold RuneTells
              rw [HB.out]
              exact ⟨rfl, rfl⟩
            · have hgood : runeAt s 0 = (c, 3, true) := by
                have hvo := HV.out
                rw [HR.out, if_pos, ← hvo]
                omega
              have HB := Lib.hid hgood
              clear hgood HC HALL HS HR HA HV hcl hk1 hk2
              go_wp2
              go_ret3
              unfold RuneTells
              rw [HB.out]
              exact ⟨rfl, rfl⟩
          · have hgood : runeAt s 0 = (c, 3, true) := by
              have hvo := HV.out
              rw [HR.out, if_pos, ← hvo]
              omega
            have HB := Lib.hid hgood
            clear hgood HC HALL HS HR HA HV hcl hk1 hk2
            go_wp2
            go_ret3
            unfold RuneTells
            rw [HB.out]
            exact ⟨rfl, rfl⟩

set_option maxHeartbeats 1600000 in
theorem rune_four (s : ByteArray) (w : World) (h0 : 0 < s.size) (hs : s.size ≤ maxLen) (hb : 240 ≤ (s.get! 0).toNat ∧ (s.get! 0).toNat < 245) : Calls Tryd.prog 24 #[.string s] w (RuneTells s w) := by
  unfold maxLen at hs
  have hr := runeAt_eq s 0
  rw [four_head _ _ _ _ _ (by simpa using hb)] at hr
  simp only [Nat.zero_add, Nat.sub_zero] at hr
  have hx := at_get s 0 h0
  have hlt := byte_lt s 0
  obtain ⟨x, hxe⟩ : ∃ x, (s.get! 0).toNat = x := ⟨_, rfl⟩
  rw [hxe] at hr hx hb hlt
  clear hxe
  obtain ⟨hb1, hb2⟩ := hb
  have hw := wrap_byte x (by omega)
  have hm := i64_mask 3 (by decide) x (by omega)
  have hme : (x : Int) % 2 ^ 3 = ((x % 8 : Nat) : Int) := by simp
  rw [hme, show (2 : Int) ^ 3 - 1 = 7 from by decide] at hm
  clear hme
  have hc0 : x % 8 < 8 := by omega
  have hcm : 0 ≤ x % 8 := by omega
  have hacc : accI s (x % 8) 4 = x % 8 * 262144 + (s.get! 1).toNat % 64 * 4096 + (s.get! 2).toNat % 64 * 64 + (s.get! 3).toNat % 64 := by
    show ((x % 8 * 64 + (s.get! 1).toNat % 64) * 64 + (s.get! 2).toNat % 64) * 64 + (s.get! 3).toNat % 64 = _; omega
  obtain ⟨c0, hc0e⟩ : ∃ c0, x % 8 = c0 := ⟨_, rfl⟩
  rw [hc0e] at hm hc0 hcm hacc hr
  clear hc0e
  have h1 : ¬ (x : Int) < 128 := by omega
  have h2 : (194 : Int) ≤ x := by omega
  have h2' : ¬ (x : Int) < 224 := by omega
  have h3 : (224 : Int) ≤ x := by omega
  have h3' : ¬ (x : Int) < 240 := by omega
  have h4 : (240 : Int) ≤ x := by omega
  have h4' : (x : Int) < 245 := by omega
  have HR := Lib.hid hr
  have HA := Lib.hid hacc
  have HL := Lib.hid hcm
  have HU := Lib.hid hc0
  clear hr hacc hcm
  by_cases hn : (s.size : Int) < 4
  · have hbad : runeAt s 0 = (0, 1, false) := by
      rw [HR.out, if_neg (by omega)]
    have HB := Lib.hid hbad
    clear hbad
    go_enter Tryd.func24, Tryd.ntmps24
    go_wp2
    go_ret3
    unfold RuneTells
    rw [HB.out]
    exact ⟨rfl, rfl⟩
  go_enter Tryd.func24, Tryd.ntmps24
  go_wp2_with fail
  go_loop [8, 9] (fun cv iv => ∃ (i c : Nat), cv = .int .i64 (c : Int) ∧ iv = .int .i64 (i : Int) ∧ 1 ≤ i ∧ i ≤ 4 ∧ c = accI s c0 i ∧ ∀ j, 1 ≤ j → j < i → 128 ≤ (s.get! j).toNat ∧ (s.get! j).toNat ≤ 191)
    (fun _ iv => 4 - (intOf iv).toNat)
  case atStart => exact ⟨1, c0, rfl, rfl, by omega, by omega, rfl, fun j h1 h2 => by omega⟩
  case round =>
    obtain ⟨i, c, rfl, rfl, hi1, hi2, hc, hall⟩ := hrel
    have hcl := acc_lt s c0 i (by omega) (by omega)
    have hstep := acc_step s c0 i hi1
    rw [← hc] at hcl hstep
    have HC := Lib.hid hc
    have HALL := Lib.hid hall
    have HS := Lib.hid hstep
    clear hc hall hstep hx hlt hb1 hb2 hw hm hc0 h1 h2 h2' h3 h3' h4 h4'
    by_cases hin : (i : Int) < 4
    · have his : i < s.size := by omega
      have hisz : (i : Int) < (s.size : Int) := by omega
      have hy := at_get s i his
      have hyl := byte_lt s i
      obtain ⟨y, hye⟩ : ∃ y, (s.get! i).toNat = y := ⟨_, rfl⟩
      rw [hye] at hy hyl
      have HY := Lib.hid hye
      clear hye
      have hwy := wrap_byte y hyl
      by_cases hy1 : (y : Int) < 128
      · have hbad : runeAt s 0 = (0, 1, false) := by
          have hyo := HY.out
          rw [HR.out, if_neg]
          intro hh
          obtain hi3 | hi3 | hi3 : i = 1 ∨ i = 2 ∨ i = 3 := by omega
          all_goals
            rw [hi3] at hyo
            omega
        have HB := Lib.hid hbad
        clear hbad HC HALL HS HR HA hcl
        go_wp2
        go_ret3
        unfold RuneTells
        rw [HB.out]
        exact ⟨rfl, rfl⟩
      · by_cases hy2 : (191 : Int) < (y : Int)
        · have hbad : runeAt s 0 = (0, 1, false) := by
            have hyo := HY.out
            rw [HR.out, if_neg]
            intro hh
            obtain hi3 | hi3 | hi3 : i = 1 ∨ i = 2 ∨ i = 3 := by omega
            all_goals
              rw [hi3] at hyo
              omega
          have HB := Lib.hid hbad
          clear hbad HC HALL HS HR HA hcl
          go_wp2
          go_ret3
          unfold RuneTells
          rw [HB.out]
          exact ⟨rfl, rfl⟩
        · have hmy := i64_mask 6 (by decide) y (by omega)
          have hme : (y : Int) % 2 ^ 6 = ((y % 64 : Nat) : Int) := by simp
          rw [hme, show (2 : Int) ^ 6 - 1 = 63 from by decide] at hmy
          clear hme
          have hml : y % 64 < 64 := by omega
          obtain ⟨m, hme⟩ : ∃ m, y % 64 = m := ⟨_, rfl⟩
          rw [hme] at hmy hml
          have HM := Lib.hid hme
          clear hme HR HA
          go_wp2
          go_round
          case rel =>
            refine ⟨i + 1, c * 64 + m, by go_num, by go_num, by omega, by omega, ?_, ?_⟩
            · rw [HS.out, HY.out, HM.out]
            · intro j hj1 hj2
              by_cases hji : j = i
              · rw [hji, HY.out]; omega
              · exact HALL.out j hj1 (by omega)
          case measure => simp [intOf]; omega
    · have hie : i = 4 := by omega
      have hval : c = c0 * 262144 + (s.get! 1).toNat % 64 * 4096 + (s.get! 2).toNat % 64 * 64 + (s.get! 3).toNat % 64 := by rw [HC.out, hie, HA.out]
      have hrest := HALL.out
      rw [hie] at hrest
      have hk1 := hrest 1 (by omega) (by omega)
      have hk2 := hrest 2 (by omega) (by omega)
      have hk3 := hrest 3 (by omega) (by omega)
      have HV := Lib.hid hval
      clear hval hrest
      by_cases hg1 : (c : Int) < 65536
      · have hbad : runeAt s 0 = (0, 1, false) := by
          have hvo := HV.out
          rw [HR.out, if_neg]
          intro hh; have := HU.out; omega
        have HB := Lib.hid hbad
        clear hbad HC HALL HS HR HA HV hcl hk1 hk2 hk3
        go_wp2
        go_ret3
        unfold RuneTells
        rw [HB.out]
        exact ⟨rfl, rfl⟩
      · by_cases hg2 : (1114111 : Int) < (c : Int)
        · have hbad : runeAt s 0 = (0, 1, false) := by
            have hvo := HV.out
            rw [HR.out, if_neg]
            intro hh; have := HU.out; omega
          have HB := Lib.hid hbad
          clear hbad HC HALL HS HR HA HV hcl hk1 hk2 hk3
          go_wp2
          go_ret3
          unfold RuneTells
          rw [HB.out]
          exact ⟨rfl, rfl⟩
        · by_cases hg3 : (55296 : Int) ≤ (c : Int)
          · by_cases hg4 : (c : Int) ≤ 57343
            · have hbad : runeAt s 0 = (0, 1, false) := by
                have hvo := HV.out
                rw [HR.out, if_neg]
                intro hh; have := HU.out; omega
              have HB := Lib.hid hbad
              clear hbad HC HALL HS HR HA HV hcl hk1 hk2 hk3
              go_wp2
              go_ret3
              unfold RuneTells
              rw [HB.out]
              exact ⟨rfl, rfl⟩
            · have hgood : runeAt s 0 = (c, 4, true) := by
                have hvo := HV.out
                rw [HR.out, if_pos, ← hvo]
                omega
              have HB := Lib.hid hgood
              clear hgood HC HALL HS HR HA HV hcl hk1 hk2 hk3
              go_wp2
              go_ret3
              unfold RuneTells
              rw [HB.out]
              exact ⟨rfl, rfl⟩
          · have hgood : runeAt s 0 = (c, 4, true) := by
              have hvo := HV.out
              rw [HR.out, if_pos, ← hvo]
              omega
            have HB := Lib.hid hgood
            clear hgood HC HALL HS HR HA HV hcl hk1 hk2 hk3
            go_wp2
            go_ret3
            unfold RuneTells
            rw [HB.out]
            exact ⟨rfl, rfl⟩

theorem rune1_any (s : ByteArray) (w : World) (h0 : 0 < s.size) (hs : s.size ≤ maxLen) : Calls Tryd.prog 24 #[.string s] w (RuneTells s w) := by
  by_cases h1 : (s.get! 0).toNat < 128
  · exact rune_one s w h0 h1
  · by_cases h2 : (s.get! 0).toNat < 194
    · exact rune_bad s w h0 (.inl ⟨by omega, h2⟩)
    · by_cases h3 : (s.get! 0).toNat < 224
      · exact rune_two s w h0 hs ⟨by omega, h3⟩
      · by_cases h4 : (s.get! 0).toNat < 240
        · exact rune_three s w h0 hs ⟨by omega, h4⟩
        · by_cases h5 : (s.get! 0).toNat < 245
          · exact rune_four s w h0 hs ⟨by omega, h5⟩
          · exact rune_bad s w h0 (.inr (by omega))
end Go.Proofs.YtmghlfhdjdlkbaaDoor
