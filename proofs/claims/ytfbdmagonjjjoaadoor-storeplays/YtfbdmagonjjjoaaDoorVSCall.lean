/- Contracts of the program's own call: what a number of Fail makes of the work. -/
import Derived.Test.YtfbdmagonjjjoaaDoorVSRemove
namespace Go.Proofs.YtfbdmagonjjjoaaDoor
open Go.RowKit Go.Maps

section
variable {base : Nat} {S : Nat → Prop} {w : World} {p : Nat} {room u : Int} {fs : List FileP} {bad : List Int}
set_option maxHeartbeats 800000 in
/-- A number at which nothing is done. -/
theorem vcall_no (hV : VStoreU base S w p room u fs bad) (f : Value) (h0 : bad.headD 0 ≠ 0) (h2 : bad.headD 0 ≠ 2) :
    Calls Tryd.prog 16 #[.pointer (some ⟨p, 0, none⟩), f] w fun e w' => e = .returned (.iface 29 (.int .i64 9)) ∧ Left base S w w' p room u fs bad.tail := by
  have HT := Lib.hid (vturn_any hV)
  obtain ⟨k, hk⟩ : ∃ k, bad.headD 0 = k := ⟨_, rfl⟩
  rw [hk] at HT h0 h2
  have b0 : (k != 0) = true := by simpa using h0
  have b2 : (k != 2) = true := by simpa using h2
  clear hV hk h0 h2
  go_enter Tryd.func16, Tryd.ntmps16
  go_wp2_with fail
  refine HT.out.mono ?_
  rintro e w1 ⟨rfl, hL⟩
  go_wp2
  go_ret
  exact ⟨rfl, hL⟩
set_option maxHeartbeats 800000 in
/-- The work is done, and its answer told. -/
theorem vcall_0 (hV : VStoreU base S w p room u fs bad) (k : Nat) (xs ys : Array Value) (Q : World → Ending → World → Prop) (hQ : ∀ w1 e w', Q w1 e w' → ∃ v, e = .returned v) (h0 : bad.headD 0 = 0)
    (hcf : ∀ w, (callFunc k (xs ++ ys)).run Tryd.prog w = .ok (.enter k (xs ++ ys)) w) (hw : ∀ w1, Left base S w w1 p room u fs bad.tail → Calls Tryd.prog k (xs ++ ys) w1 (Q w1)) :
    Calls Tryd.prog 16 #[.pointer (some ⟨p, 0, none⟩), .func (.func k) xs ys] w fun e w' => ∃ w1, Left base S w w1 p room u fs bad.tail ∧ Q w1 e w' := by
  have HT := Lib.hid (vturn_any hV)
  rw [h0] at HT
  have HW := Lib.hid hw
  clear hV h0 hw
  go_enter Tryd.func16, Tryd.ntmps16
  go_wp2_with fail
  refine HT.out.mono ?_
  rintro e w1 ⟨rfl, hL⟩
  go_wp2_with fail
  refine (HW.out w1 hL).mono ?_
  intro e w2 hq
  obtain ⟨v, rfl⟩ := hQ _ _ _ hq
  go_wp2
  go_ret
  exact ⟨w1, hL, hq⟩
set_option maxHeartbeats 800000 in
/-- The work is done, and told as one that was not. -/
theorem vcall_2 (hV : VStoreU base S w p room u fs bad) (k : Nat) (xs ys : Array Value) (Q : World → Value → World → Prop) (h2 : bad.headD 0 = 2)
    (hcf : ∀ w, (callFunc k (xs ++ ys)).run Tryd.prog w = .ok (.enter k (xs ++ ys)) w)
    (hw : ∀ w1, Left base S w w1 p room u fs bad.tail → Calls Tryd.prog k (xs ++ ys) w1 fun e w' => ∃ v b x, e = .returned v ∧ (∀ w, (Instr.typeAssert v 20 29 true).run Tryd.prog w = .ok (.tuple #[.int .i64 x, .bool b]) w) ∧ (b = false → x = 0) ∧ Q w1 (.int .i64 (if x = 0 then 9 else x)) w') :
    Calls Tryd.prog 16 #[.pointer (some ⟨p, 0, none⟩), .func (.func k) xs ys] w fun e w' => ∃ w1 v, e = .returned (.iface 29 v) ∧ Left base S w w1 p room u fs bad.tail ∧ Q w1 v w' := by
  have HT := Lib.hid (vturn_any hV)
  rw [h2] at HT
  have HW := Lib.hid hw
  clear hV h2 hw
  go_enter Tryd.func16, Tryd.ntmps16
  go_wp2_with fail
  refine HT.out.mono ?_
  rintro e w1 ⟨rfl, hL⟩
  go_wp2_with fail
  refine (HW.out w1 hL).mono ?_
  rintro e w2 ⟨v, b, x, rfl, hta, hb, hq⟩
  have hte := hta w2
  cases b with
  | false =>
    obtain rfl := hb rfl
    go_wp2
    go_ret
    exact ⟨w1, _, rfl, hL, hq⟩
  | true =>
    by_cases hx : x = 0
    · subst hx
      go_wp2
      go_ret
      exact ⟨w1, _, rfl, hL, hq⟩
    · have hne : (x != 0) = true := by simpa using hx
      rw [if_neg hx] at hq
      go_wp2
      go_ret
      exact ⟨w1, _, rfl, hL, hq⟩
end
end Go.Proofs.YtfbdmagonjjjoaaDoor
