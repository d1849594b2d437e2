/- The example of the document holds: a contract of the statements' own 'alive'; and their 'num', and 'samePieces' of lists that are alike. -/
import Derived.Test.YtfkkfnanhknlbaaDoorVFrPut
import Derived.Test.YtfkkfnanhknlbaaDoorPieces
import Derived.Deep.QuietTactic
import Derived.BigQuiet
namespace Go.Proofs.YtfkkfnanhknlbaaDoor
open Go.RowKit

theorem num_any (n : Int) (w : World) : Calls Tryd.prog 11 #[.int .i64 n] w fun e w' => e = .returned (.int .i64 n) ∧ w = w' := by
  go_enter Tryd.func11, Tryd.ntmps11
  go_wp2
  go_ret
  exact ⟨rfl, rfl⟩

theorem no_frame : frameL [] = [0, 0, 0, 0, 0] := by decide +kernel

theorem five_lie (w : World) : Lies .u8 (w.alloc (.cells #[.int .u8 0, .int .u8 0, .int .u8 0, .int .u8 0, .int .u8 0] 5)) (w.heap.size + 1) (some ⟨w.heap.size, 0, none⟩) [0, 0, 0, 0, 0] := by
  intro _
  refine ⟨w.heap.size, 0, rfl, by omega, fun j hj => ?_⟩
  have : j = 0 ∨ j = 1 ∨ j = 2 ∨ j = 3 ∨ j = 4 := by simp at hj; omega
  rcases this with rfl | rfl | rfl | rfl | rfl <;> simp

set_option maxHeartbeats 1600000 in
theorem alive_any (w : World) (hh : Half w) : Calls Tryd.prog 7 #[] w (Yes w) := by
  have h0 := hh.pos
  have hp := fun W (hW : Half W) => fput_any none [] 0 none [] 0 W hW Lies.nil (Nat.le_refl _) Lies.nil (Nat.le_refl _) (fun _ => rfl) (by simp) (by simp) (by intro c hc; simp at hc)
  rw [no_frame, List.nil_append] at hp
  simp only [List.length_nil] at hp
  have HP := Lib.hid hp
  clear hp
  obtain ⟨T, hT⟩ : ∃ T, textOf [0, 0, 0, 0, 0] = T := ⟨_, rfl⟩
  have cvz : ∀ (W : World) (B : Nat) (X : Option Addr) (d : Nat), Lies .u8 W B X [0, 0, 0, 0, 0] → (convert 22 9 (.slice X 5 d)).run Tryd.prog W = .ok (.string T) W := fun W B X d h => by
    rw [← hT]
    exact conv_bytes 22 9 5 Tryd.underlying22 Tryd.underlying5 Tryd.underlying9 h d
  have CV := Lib.hid cvz
  clear cvz hT
  have hTT : (T.toList == T.toList) = true := by simp
  go_enter Tryd.func7, Tryd.ntmps7
  go_wp2_with fail
  refine wp_region_held_drew (S := fun _ => True) (by kernel_rfl) trivial (fun hHeld => ?_)
  refine wpAnyH_ready (rs := [0, 2]) (by kernel_rfl) (by simp) ?_
  refine AllReadyH.cons rfl (fun K hK => ?_) (AllReadyH.cons rfl (fun K hK => ?_) AllReadyH.nil)
  · go_simp
    refine (HP.out w.drew hh).mono ?_
    rintro e w1 ⟨v, rfl, hown, hb⟩
    obtain ⟨A, c, rfl, hc, hm, hl⟩ := hown.parts
    have hb1 : Below w.heap.size w w1 := below_undrew hb
    refine hK.out _ _ trivial (fun _ => ?_)
    clear hK K hHeld hown
    refine wpAnyH_switch (fun W => (convert 22 9 (.slice A 5 c)).run Tryd.prog W = .ok (.string T) W) (fun _ _ => trivial) _ _ _ _ ?_
    have hHeld := CV.out w1 _ A c hl
    refine held_take 1 2 (v := ?v1) rfl rfl (by kernel_rfl) (by kernel_rfl) (by kernel_rfl) (fun _ _ _ h => h) hHeld (Or.inl ⟨by rfl, ?y1⟩) ?r1
    case y1 => intro w hSw; (try dsimp only at hSw); go_simp; (try with_reducible rfl)
    simp only [List.setIfInBounds_toArray, List.set_cons_zero, List.set_cons_succ]
    refine wpAnyH_ready (rs := [2]) (by kernel_rfl) (by simp) ?_
    refine AllReadyH.cons rfl (fun K hK => ?_) AllReadyH.nil
    go_simp
    have hl2 := hl.alloc (Nat.le_refl _) (.cells #[.int .u8 0, .int .u8 0, .int .u8 0, .int .u8 0, .int .u8 0] 5)
    refine hK.out _ _ (CV.out _ _ A c hl2) (fun _ => ?_)
    clear hK K hHeld
    refine wpAnyH_switch (fun W => (convert 22 9 (.slice (some ⟨w1.heap.size, 0, none⟩) 5 5)).run Tryd.prog W = .ok (.string T) W ∧ (convert 22 9 (.slice A 5 c)).run Tryd.prog W = .ok (.string T) W) (fun _ h => h.2) _ _ _ _ ?_
    have hHeld := And.intro (CV.out _ _ _ 5 (five_lie w1)) (CV.out _ _ A c hl2)
    refine held_take 3 4 (v := ?v2) rfl rfl (by kernel_rfl) (by kernel_rfl) (by kernel_rfl) (fun _ _ _ h => h) hHeld (Or.inl ⟨by rfl, ?y2⟩) ?r2
    case y2 => intro w hSw; (try dsimp only at hSw); go_simp; (try with_reducible rfl)
    simp only [List.setIfInBounds_toArray, List.set_cons_zero, List.set_cons_succ]
    refine held_take 4 5 (v := ?v3) rfl rfl (by kernel_rfl) (by kernel_rfl) (by kernel_rfl) (fun _ _ _ h => h) hHeld (Or.inl ⟨by rfl, ?y3⟩) ?r3
    case y3 => intro w hSw; (try dsimp only at hSw); go_simp; (try with_reducible rfl)
    simp only [List.setIfInBounds_toArray, List.set_cons_zero, List.set_cons_succ]
    refine held_take 5 0 (v := ?v4) rfl rfl (by kernel_rfl) (by kernel_rfl) (by kernel_rfl) (fun _ _ _ h => h) hHeld (Or.inl ⟨by rfl, ?y4⟩) ?r4
    case y4 => intro w hSw; (try dsimp only at hSw); go_simp; (try with_reducible rfl)
    simp only [List.setIfInBounds_toArray, List.set_cons_zero]
    refine wpAnyH_done (by kernel_rfl) ?_ _
    clear hHeld
    go_wp2
    go_ret
    exact ⟨rfl, hb1.alloc hb1.size _⟩
  · go_simp
    refine hK.out _ _ trivial (fun _ => ?_)
    clear hK K hHeld
    refine wpAnyH_switch (fun W => (convert 22 9 (.slice (some ⟨w.heap.size, 0, none⟩) 5 5)).run Tryd.prog W = .ok (.string T) W) (fun _ _ => trivial) _ _ _ _ ?_
    have hHeld := CV.out _ _ _ 5 ((five_lie w).drewN 1)
    refine held_take 3 4 (v := ?v5) rfl rfl (by kernel_rfl) (by kernel_rfl) (by kernel_rfl) (fun _ _ _ h => h) hHeld (Or.inl ⟨by rfl, ?y5⟩) ?r5
    case y5 => intro w hSw; (try dsimp only at hSw); go_simp; (try with_reducible rfl)
    simp only [List.setIfInBounds_toArray, List.set_cons_zero, List.set_cons_succ]
    refine wpAnyH_ready (rs := [0]) (by kernel_rfl) (by simp) ?_
    refine AllReadyH.cons rfl (fun K hK => ?_) AllReadyH.nil
    go_simp
    have hh2 : Half (w.alloc (.cells #[.int .u8 0, .int .u8 0, .int .u8 0, .int .u8 0, .int .u8 0] 5)) := hh.below ((Below.refl _ _).alloc (Nat.le_refl _) _) h0
    refine (HP.out (w.alloc (.cells #[.int .u8 0, .int .u8 0, .int .u8 0, .int .u8 0, .int .u8 0] 5)).drew hh2).mono ?_
    rintro e w1 ⟨v, rfl, hown, hb⟩
    obtain ⟨A, c, rfl, hc, hm, hl⟩ := hown.parts
    have hb1 : Below w.heap.size w w1 := ((Below.refl _ _).alloc (Nat.le_refl _) _).trans ((below_undrew hb).mono (by simp))
    have hl0 := ((five_lie w).below ((below_undrew hb).mono (by simp)))
    refine hK.out _ _ (CV.out _ _ _ 5 hl0) (fun _ => ?_)
    clear hK K hHeld hown
    refine wpAnyH_switch (fun W => (convert 22 9 (.slice A 5 c)).run Tryd.prog W = .ok (.string T) W ∧ (convert 22 9 (.slice (some ⟨w.heap.size, 0, none⟩) 5 5)).run Tryd.prog W = .ok (.string T) W) (fun _ h => h.2) _ _ _ _ ?_
    have hHeld := And.intro (CV.out _ _ A c hl) (CV.out _ _ _ 5 hl0)
    refine held_take 1 2 (v := ?v6) rfl rfl (by kernel_rfl) (by kernel_rfl) (by kernel_rfl) (fun _ _ _ h => h) hHeld (Or.inl ⟨by rfl, ?y6⟩) ?r6
    case y6 => intro w hSw; (try dsimp only at hSw); go_simp; (try with_reducible rfl)
    simp only [List.setIfInBounds_toArray, List.set_cons_zero, List.set_cons_succ]
    refine held_take 4 5 (v := ?v7) rfl rfl (by kernel_rfl) (by kernel_rfl) (by kernel_rfl) (fun _ _ _ h => h) hHeld (Or.inl ⟨by rfl, ?y7⟩) ?r7
    case y7 => intro w hSw; (try dsimp only at hSw); go_simp; (try with_reducible rfl)
    simp only [List.setIfInBounds_toArray, List.set_cons_zero, List.set_cons_succ]
    refine held_take 5 0 (v := ?v8) rfl rfl (by kernel_rfl) (by kernel_rfl) (by kernel_rfl) (fun _ _ _ h => h) hHeld (Or.inl ⟨by rfl, ?y8⟩) ?r8
    case y8 => intro w hSw; (try dsimp only at hSw); go_simp; (try with_reducible rfl)
    simp only [List.setIfInBounds_toArray, List.set_cons_zero]
    refine wpAnyH_done (by kernel_rfl) ?_ _
    clear hHeld
    go_wp2
    go_ret
    exact ⟨rfl, hb1⟩

set_option maxHeartbeats 800000 in
/-- Lists that are alike. -/
theorem same_any (A D : Option Addr) (c d : Nat) (ps : List (List Int)) (w : World) (hl : PiecesLie w A ps) (hl' : PiecesLie w D ps) (hb : ps.length ≤ maxLen) :
    Calls Tryd.prog 15 #[.slice A ps.length c, .slice D ps.length d] w fun e w' => e = .returned (.bool true) ∧ ∃ m, w' = w.drewN m := by
  unfold maxLen at hb
  have cvz : ∀ (m B : Nat) (X : Option Addr) (ys : List Int) (d : Nat), Lies .u8 w B X ys → (convert 22 9 (.slice X ys.length d)).run Tryd.prog (w.drewN m) = .ok (.string (textOf ys)) (w.drewN m) := fun m B X ys d h => conv_bytes (w := w.drewN m) 22 9 5 Tryd.underlying22 Tryd.underlying5 Tryd.underlying9 h d
  have CV := Lib.hid cvz
  clear cvz
  go_enter Tryd.func15, Tryd.ntmps15
  go_wp2_with fail
  go_loopw [5] (fun iv wr => ∃ (k m : Nat), iv = .int .i64 k ∧ k ≤ ps.length ∧ wr = w.drewN m)
    (fun iv _ => ps.length - (intOf iv).toNat)
  case atStart => exact ⟨0, 0, rfl, Nat.zero_le _, rfl⟩
  case round =>
    obtain ⟨k, m, rfl, hk, rfl⟩ := hrel
    by_cases hlt : k < ps.length
    · obtain ⟨b, off, rfl, hbl, hc1⟩ := hl (by rintro rfl; simp at hlt)
      obtain ⟨b', off', rfl, hbl', hc2⟩ := hl' (by rintro rfl; simp at hlt)
      obtain ⟨A1, k1, e1, l1, _⟩ := hc1 k hlt
      obtain ⟨A2, k2, e2, l2, _⟩ := hc2 k hlt
      have v1 := fun q => CV.out q _ A1 _ k1 l1
      have v2 := fun q => CV.out q _ A2 _ k2 l2
      generalize ps[k] = p at e1 e2 v1 v2
      have hT : ((textOf p).toList != (textOf p).toList) = false := by simp
      generalize textOf p = T at v1 v2 hT
      clear hc1 hc2 l1 l2 CV
      go_wp2_with fail
      go_quiet (fail)
      go_wp2
      go_roundw
      case rel => exact ⟨k + 1, m + nq, rfl, by omega, by simp [World.drewN]⟩
      case measure => simp [intOf]; omega
    · go_wp2
      go_ret
      exact ⟨rfl, m, rfl⟩
end Go.Proofs.YtfkkfnanhknlbaaDoor
