/- The example of the document holds: a contract of the statements' own 'alive'; one object over calls. -/
import Derived.Test.YtfbdmagonjjjoaaDoorSLaw
namespace Go.Proofs.YtfbdmagonjjjoaaDoor
open Go.RowKit Go.Maps

section
variable {n : ByteArray} {b : List Int} {room : Int}
theorem find_self (f : FileM) (t : List FileM) : findK (f :: t) f.name = 0 := by rw [findK_cons, ltS_self]; simp
theorem has_self (f : FileM) (t : List FileM) : hasF (f :: t) f.name = true := by rw [hasF_cons, ltS_self]; simp
theorem lay_self (f g : FileM) (t : List FileM) (h : g.name = f.name) : layF (f :: t) g = g :: t := by
  unfold layF tailK
  rw [h, find_self, has_self]
  simp
theorem get_self (f : FileM) (t : List FileM) (h : validS f.name = true) : getM (f :: t) f.name = (f, 0) := by
  unfold getM
  rw [if_neg (by rw [h]; simp), if_pos (has_self f t), find_self]
  rfl
theorem of_self (f : FileM) (t : List FileM) : ofName (f :: t) f.name = f := by
  unfold ofName
  rw [if_pos (has_self f t), find_self]
  rfl
theorem put_none (hv : validS n = true) (hr : (b.length : Int) ≤ room) : putM room [] n b = ([⟨n, b, 0⟩], 0) := by
  unfold putM
  rw [if_neg (by rw [hv]; simp), if_neg (by simp [usedM, ofName, hasF]; omega)]
  simp [layF, findK, tailK, hasF]
theorem put_self (hv : validS n = true) {ys : List Int} (hr : (ys.length : Int) ≤ room) : putM room [⟨n, b, 0⟩] n ys = ([⟨n, ys, 0⟩], 0) := by
  have e1 := of_self ⟨n, b, 0⟩ []
  dsimp only at e1
  unfold putM
  rw [if_neg (by rw [hv]; simp), e1, if_neg (by simp [usedM]; omega)]
  exact congrArg (·, (0 : Int)) (lay_self ⟨n, b, 0⟩ ⟨n, ys, 0⟩ [] rfl)
theorem rem_self (hv : validS n = true) : removeM [⟨n, b, 0⟩] n = ([], 0) := by
  have h1 := get_self ⟨n, b, 0⟩ [] hv
  have h2 := find_self ⟨n, b, 0⟩ []
  dsimp only at h1 h2
  unfold removeM
  rw [h1, if_neg (by simp), h2]
  rfl
end
theorem name_a : validS ⟨#[97]⟩ = true := by decide +kernel
theorem name_o : validS ⟨#[111]⟩ = true := by decide +kernel
theorem text_y : textOf [121] = ⟨#[121]⟩ := by decide +kernel
set_option maxHeartbeats 1600000 in
set_option maxRecDepth 4000 in
theorem alive_any (w : World) (hT : Tabs w) : Calls Tryd.prog 6 #[] w (Yes w) := by
  have kc := fun (w : World) (C : Array Value) (n c : Nat) => Lib.run_convert_bytes_const (P := Tryd.prog) w 32 5 C n c Tryd.underlying32 Tryd.underlying5
  have HN := Lib.hid (sx_new w w (Below.refl _ _) hT 10 (by omega) (by omega))
  have e1 : faulty (([1] : List Int).headD 0) [] (putM 10 [] ⟨#[97]⟩ [120]) = ([], 9) := faulty_no (by decide) (by decide) _ _
  have e2 : faulty (([] : List Int).headD 0) [] (putM 10 [] ⟨#[97]⟩ [121]) = ([⟨⟨#[97]⟩, [121], 0⟩], 0) := put_none (b := [121]) (room := 10) name_a (by decide)
  have e3 : faultyG (([] : List Int).headD 0) (getM [⟨⟨#[97]⟩, [121], 0⟩] ⟨#[97]⟩) = (⟨⟨#[97]⟩, [121], 0⟩, 0) := get_self ⟨⟨#[97]⟩, [121], 0⟩ [] name_a
  have E1 := Lib.hid e1
  have E2 := Lib.hid e2
  have E3 := Lib.hid e3
  clear hT e1 e2 e3
  go_enter Tryd.func6, Tryd.ntmps6
  go_wp2_with fail
  refine HN.out.mono ?_
  rintro e w1 ⟨rfl, d1⟩
  obtain ⟨p, hp⟩ : ∃ p, w.heap.size = p := ⟨_, rfl⟩
  rw [hp] at d1 ⊢
  have HP := Lib.hid hp
  have D1 := Lib.hid d1
  clear hp d1 HN
  go_wp2_with fail
  refine (sx_fail1 D1.out 1 (by simp)).mono ?_
  rintro e w2 ⟨rfl, d2⟩
  have D2 : Hid (SX w w2 p 10 [] [1] none []) := Lib.hid d2
  clear d2 D1
  go_wp2_with fail
  refine (sx_put_new D2.out ⟨#[97]⟩ [120] 1 1 rfl _ _ rfl (Nat.le_refl _) (by decide) (by intro c hc; simp at hc; omega) (by simp) (by rw [E1.out]; simp) (by rw [E1.out]; simp [usedM])).mono ?_
  rintro e w3 ⟨rfl, d3⟩
  rw [E1.out] at d3 ⊢
  have D3 : Hid (SX w w3 p 10 [] [] none []) := Lib.hid d3
  clear d3 D2
  go_wp2_with fail
  clear kc
  refine (sx_put_new D3.out ⟨#[97]⟩ [121] 1 1 rfl _ _ rfl (Nat.le_refl _) (by decide) (by intro c hc; simp at hc; omega) (by simp) (by rw [E2.out]; simp) (by rw [E2.out]; simp [usedM])).mono ?_
  rintro e w4 ⟨rfl, d4⟩
  rw [E2.out] at d4 ⊢
  have D4 : Hid (SX w w4 p 10 [⟨⟨#[97]⟩, [121], 0⟩] [] none []) := Lib.hid d4
  clear d4 D3
  go_wp2_with fail
  refine (sx_get D4.out ⟨#[97]⟩ (by decide)).mono ?_
  rintro e w5 ⟨B, c, rfl, _, _, _, d5⟩
  rw [E3.out] at d5 ⊢
  have hcv : (convert 32 9 (.slice B 1 c)).run Tryd.prog w5 = .ok (.string ⟨#[121]⟩) w5 := by
    have := conv_bytes (P := Tryd.prog) (xs := [121]) 32 9 5 Tryd.underlying32 Tryd.underlying5 Tryd.underlying9 d5.lies c
    rw [text_y] at this
    exact this
  have HB := Lib.hid d5.since
  clear d5 D4
  have HN9 := Lib.hid (num_any 9)
  have HN0 := Lib.hid (num_any 0)
  go_wp2_with (first | (go_at_call 15; refine (HN9.out _).mono ?_; rintro e w' ⟨rfl, rfl⟩) | (go_at_call 15; refine (HN0.out _).mono ?_; rintro e w' ⟨rfl, rfl⟩))
  go_ret
  exact ⟨rfl, HB.out⟩
end Go.Proofs.YtfbdmagonjjjoaaDoor
