/- The example of the document holds: a contract of the statements' own 'alive'; and their 'num'. -/
import Derived.Test.YtdhahjkldmbneaaRecProg
namespace Go.Proofs.Ytdhahjkldmbneaa
open Go.RowKit

theorem num_any (n : Int) (w : World) : Calls Try.prog 15 #[.int .i64 n] w fun e w' => e = .returned (.int .i64 n) ∧ w = w' := by
  go_enter Try.func15, Try.ntmps15
  go_wp2
  go_ret
  exact ⟨rfl, rfl⟩

theorem a_put : putR ⟨0, 0, ⟨#[97]⟩, ⟨#[]⟩, false⟩ = [0, 0, 0, 1, 97, 0] := by decide +kernel

theorem six_lie (w : World) : Lies .u8 (w.alloc (.cells #[.int .u8 0, .int .u8 0, .int .u8 0, .int .u8 1, .int .u8 97, .int .u8 0] 5)) (w.heap.size + 1) (some ⟨w.heap.size, 0, none⟩) [0, 0, 0, 1, 97, 0] := by
  intro _
  refine ⟨w.heap.size, 0, rfl, by omega, fun j hj => ?_⟩
  have : j = 0 ∨ j = 1 ∨ j = 2 ∨ j = 3 ∨ j = 4 ∨ j = 5 := by simp at hj; omega
  rcases this with rfl | rfl | rfl | rfl | rfl | rfl <;> simp

set_option maxHeartbeats 1600000 in
theorem alive_any (w : World) : Calls Try.prog 8 #[] w (Yes w) := by
  have hp := fun W => rput_any none [] 0 ⟨0, 0, ⟨#[97]⟩, ⟨#[]⟩, false⟩ W (by unfold Rec.wf maxLen; decide) Lies.nil (Nat.le_refl _) (by unfold maxLen; omega) (fun _ => rfl) (by simp)
  rw [a_put, List.nil_append] at hp
  unfold recV at hp
  simp only at hp
  have HP := Lib.hid hp
  clear hp
  obtain ⟨T, hT⟩ : ∃ T, textOf [0, 0, 0, 1, 97, 0] = T := ⟨_, rfl⟩
  have cvz : ∀ (W : World) (B : Nat) (X : Option Addr) (d : Nat), Lies .u8 W B X [0, 0, 0, 1, 97, 0] → (convert 22 9 (.slice X 6 d)).run Try.prog W = .ok (.string T) W := fun W B X d h => by
    rw [← hT]
    exact conv_bytes 22 9 5 Try.underlying22 Try.underlying5 Try.underlying9 h d
  have CV := Lib.hid cvz
  clear cvz hT
  have hTT : (T.toList == T.toList) = true := by simp
  go_enter Try.func8, Try.ntmps8
  go_wp2_with fail
  refine wp_region_held_drew (S := fun _ => True) (by kernel_rfl) trivial (fun hHeld => ?_)
  refine held_take 0 1 (v := ?v1) rfl rfl (by kernel_rfl) (by kernel_rfl) (by kernel_rfl) (fun _ _ _ h => h) hHeld (Or.inl ⟨by rfl, ?y1⟩) ?r1
  case y1 => intro w hSw; go_simp; (try with_reducible rfl)
  simp only [List.setIfInBounds_toArray, List.set_cons_zero, List.set_cons_succ]
  refine wpAnyH_ready (rs := [1, 3]) (by kernel_rfl) (by simp) ?_
  refine AllReadyH.cons rfl (fun K hK => ?_) (AllReadyH.cons rfl (fun K hK => ?_) AllReadyH.nil)
  · go_simp
    refine (HP.out _).mono ?_
    rintro e w1 ⟨A, c, rfl, hc, hm, hn, hl, hb⟩
    have hb1 : Below w.heap.size w w1 := below_undrew hb
    refine hK.out _ _ trivial (fun _ => ?_)
    clear hK K
    refine wpAnyH_switch (fun W => (convert 22 9 (.slice A 6 c)).run Try.prog W = .ok (.string T) W) (fun _ _ => trivial) _ _ _ _ ?_
    have hHeld := CV.out w1 _ A c hl
    refine held_take 2 3 (v := ?v2) rfl rfl (by kernel_rfl) (by kernel_rfl) (by kernel_rfl) (fun _ _ _ h => h) hHeld (Or.inl ⟨by rfl, ?y2⟩) ?r2
    case y2 => intro w hSw; (try dsimp only at hSw); go_simp; (try with_reducible rfl)
    simp only [List.setIfInBounds_toArray, List.set_cons_zero, List.set_cons_succ]
    refine wpAnyH_ready (rs := [3]) (by kernel_rfl) (by simp) ?_
    refine AllReadyH.cons rfl (fun K hK => ?_) AllReadyH.nil
    go_simp
    have hl2 := hl.alloc (Nat.le_refl _) (.cells #[.int .u8 0, .int .u8 0, .int .u8 0, .int .u8 1, .int .u8 97, .int .u8 0] 5)
    refine hK.out _ _ (CV.out _ _ A c hl2) (fun _ => ?_)
    clear hK K hHeld
    refine wpAnyH_switch (fun W => (convert 22 9 (.slice (some ⟨w1.heap.size, 0, none⟩) 6 6)).run Try.prog W = .ok (.string T) W ∧ (convert 22 9 (.slice A 6 c)).run Try.prog W = .ok (.string T) W) (fun _ h => h.2) _ _ _ _ ?_
    have hHeld := And.intro (CV.out _ _ _ 6 (six_lie w1)) (CV.out _ _ A c hl2)
    refine held_take 4 5 (v := ?v11) rfl rfl (by kernel_rfl) (by kernel_rfl) (by kernel_rfl) (fun _ _ _ h => h) hHeld (Or.inl ⟨by rfl, ?y11⟩) ?r11
    case y11 => intro w hSw; (try dsimp only at hSw); go_simp; (try with_reducible rfl)
    simp only [List.setIfInBounds_toArray, List.set_cons_zero, List.set_cons_succ]
    refine held_take 5 6 (v := ?v12) rfl rfl (by kernel_rfl) (by kernel_rfl) (by kernel_rfl) (fun _ _ _ h => h) hHeld (Or.inl ⟨by rfl, ?y12⟩) ?r12
    case y12 => intro w hSw; (try dsimp only at hSw); go_simp; (try with_reducible rfl)
    simp only [List.setIfInBounds_toArray, List.set_cons_zero, List.set_cons_succ]
    refine held_take 6 0 (v := ?v13) rfl rfl (by kernel_rfl) (by kernel_rfl) (by kernel_rfl) (fun _ _ _ h => h) hHeld (Or.inl ⟨by rfl, ?y13⟩) ?r13
    case y13 => intro w hSw; (try dsimp only at hSw); go_simp; (try with_reducible rfl)
    simp only [List.setIfInBounds_toArray, List.set_cons_zero]
    refine wpAnyH_done (by kernel_rfl) ?_ _
    clear hHeld
    go_wp2
    go_ret
    exact ⟨rfl, hb1.alloc hb1.size _⟩
  · go_simp
    refine hK.out _ _ trivial (fun _ => ?_)
    clear hK K
    refine wpAnyH_switch (fun W => (convert 22 9 (.slice (some ⟨w.heap.size, 0, none⟩) 6 6)).run Try.prog W = .ok (.string T) W) (fun _ _ => trivial) _ _ _ _ ?_
    have hHeld := CV.out _ _ _ 6 ((six_lie w).drewN 1)
    refine held_take 4 5 (v := ?v14) rfl rfl (by kernel_rfl) (by kernel_rfl) (by kernel_rfl) (fun _ _ _ h => h) hHeld (Or.inl ⟨by rfl, ?y14⟩) ?r14
    case y14 => intro w hSw; (try dsimp only at hSw); go_simp; (try with_reducible rfl)
    simp only [List.setIfInBounds_toArray, List.set_cons_zero, List.set_cons_succ]
    refine wpAnyH_ready (rs := [1]) (by kernel_rfl) (by simp) ?_
    refine AllReadyH.cons rfl (fun K hK => ?_) AllReadyH.nil
    go_simp
    refine (HP.out _).mono ?_
    rintro e w1 ⟨A, c, rfl, hc, hm, hn, hl, hb⟩
    have hb1 : Below w.heap.size w w1 := ((Below.refl _ _).alloc (Nat.le_refl _) _).trans ((below_undrew hb).mono (by simp))
    have hl0 := ((six_lie w).below ((below_undrew hb).mono (by simp)))
    refine hK.out _ _ (CV.out _ _ _ 6 hl0) (fun _ => ?_)
    clear hK K hHeld
    refine wpAnyH_switch (fun W => (convert 22 9 (.slice A 6 c)).run Try.prog W = .ok (.string T) W ∧ (convert 22 9 (.slice (some ⟨w.heap.size, 0, none⟩) 6 6)).run Try.prog W = .ok (.string T) W) (fun _ h => h.2) _ _ _ _ ?_
    have hHeld := And.intro (CV.out _ _ A c hl) (CV.out _ _ _ 6 hl0)
    refine held_take 2 3 (v := ?v15) rfl rfl (by kernel_rfl) (by kernel_rfl) (by kernel_rfl) (fun _ _ _ h => h) hHeld (Or.inl ⟨by rfl, ?y15⟩) ?r15
    case y15 => intro w hSw; (try dsimp only at hSw); go_simp; (try with_reducible rfl)
    simp only [List.setIfInBounds_toArray, List.set_cons_zero, List.set_cons_succ]
    refine held_take 5 6 (v := ?v16) rfl rfl (by kernel_rfl) (by kernel_rfl) (by kernel_rfl) (fun _ _ _ h => h) hHeld (Or.inl ⟨by rfl, ?y16⟩) ?r16
    case y16 => intro w hSw; (try dsimp only at hSw); go_simp; (try with_reducible rfl)
    simp only [List.setIfInBounds_toArray, List.set_cons_zero, List.set_cons_succ]
    refine held_take 6 0 (v := ?v17) rfl rfl (by kernel_rfl) (by kernel_rfl) (by kernel_rfl) (fun _ _ _ h => h) hHeld (Or.inl ⟨by rfl, ?y17⟩) ?r17
    case y17 => intro w hSw; (try dsimp only at hSw); go_simp; (try with_reducible rfl)
    simp only [List.setIfInBounds_toArray, List.set_cons_zero]
    refine wpAnyH_done (by kernel_rfl) ?_ _
    clear hHeld
    go_wp2
    go_ret
    exact ⟨rfl, hb1⟩
end Go.Proofs.Ytdhahjkldmbneaa
