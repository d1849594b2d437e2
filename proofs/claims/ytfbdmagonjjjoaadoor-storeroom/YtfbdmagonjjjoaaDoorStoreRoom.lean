/- Proved: for every room and every list l of numbers, StoreRoom(room, l) returns true. -/
import Derived.Test.YtfbdmagonjjjoaaDoorRows
import Derived.WalkKit
import Derived.ProofKit
import Derived.OpenShut
import Derived.ShutString
import Derived.ChangeOld
import Derived.Below
import Derived.LaidMore
import Derived.Stop.Joined
import Derived.SevenTiedAt
import Derived.Lay
import Derived.Deep.QuietTactic
import Derived.BigQuiet
import Derived.Test.YtfbdmagonjjjoaaDoorCards
import Derived.Test.YtfbdmagonjjjoaaDoorTie
import Derived.Test.YtfbdmagonjjjoaaDoorCame
import Derived.Test.YtfbdmagonjjjoaaDoorSRoom
namespace Go.Proofs.YtfbdmagonjjjoaaDoor.storeRoom
open Go.ChangeShapes Go.WideShapes Go.ChangeAt Go.RowKit
open Go.ChangeMaps (open_string shut_string)
set_option linter.unusedVariables false

theorem own : ownKnob Tryd.prog.godebug = none := by kernel_rfl
theorem laidOut : laidOutB Tryd.prog = true := by kernel_rfl

/-- WHAT THE WALK IS TOLD OF A SLICE OF INTEGERS THAT CAME IN: it is nil; or it leads to a row of 'cap' cells, the numbers 'zs' (the first 'len' are its elements, the rest its spare room), each fitting its kind. -/
def IsRow (k : IntKind) (w : World) (a : Option Addr) (len cap : Nat) (zs : List Int) : Prop :=
  (a = none ∧ len = 0 ∧ cap = 0 ∧ zs = []) ∨
  ∃ x, a = some x ∧ len ≤ cap ∧ cap ≤ maxLen ∧ zs.length = cap ∧ (∀ i, i < zs.length → w.cell? (x.add i) = some (.int k (zs.getD i 0))) ∧ ∀ n ∈ zs, (Lit.int k n).wf = true

set_option maxHeartbeats 3200000 in
set_option maxRecDepth 4000 in
theorem walk (a0 : Int) (a1 : Option Addr) (len1 cap1 : Nat) (z1 : List Int) (w : World) (hh : Tabs w) (w0 : (Lit.int .i64 a0).wf = true) (w1 : IsRow .i64 w a1 len1 cap1 z1) :
    Calls Tryd.prog 5 #[.int .i64 a0, .slice a1 len1 cap1] w fun e w' => e = .returned (.bool true) ∧ Below w.heap.size w w' := by
  obtain ⟨hr0, hr1⟩ := bounds_i64 w0
  obtain ⟨zs, rfl, hc, hm, hl, hwf, hn⟩ := row_came w1
  clear w0 w1
  by_cases hneg : a0 < 0
  · go_enter Tryd.func5, Tryd.ntmps5
    go_wp2_with fail
    refine (alive_any w hh).mono ?_
    rintro e w1 ⟨rfl, hbel⟩
    go_wp2
    go_ret
    exact ⟨rfl, hbel⟩
  · have hneg' : decide (a0 < 0) = false := decide_eq_false hneg
    by_cases hbig : 500 < a0
    · go_enter Tryd.func5, Tryd.ntmps5
      go_wp2_with fail
      refine (alive_any w hh).mono ?_
      rintro e w1 ⟨rfl, hbel⟩
      go_wp2
      go_ret
      exact ⟨rfl, hbel⟩
    · have hbig' : decide (500 < a0) = false := decide_eq_false hbig
      by_cases hmany : 30 < zs.length
      · have h1 : (30 : Int) < (zs.length : Int) := by omega
        go_enter Tryd.func5, Tryd.ntmps5
        go_wp2_with fail
        refine (alive_any w hh).mono ?_
        rintro e w1 ⟨rfl, hbel⟩
        go_wp2
        go_ret
        exact ⟨rfl, hbel⟩
      · have h1 : ¬ (30 : Int) < (zs.length : Int) := by omega
        have HL := Lib.hid hl
        have HBIG : Hid (a0 ≤ 500) := Lib.hid (by omega)
        have HMN := Lib.hid (show zs.length ≤ 30 by omega)
        clear hl hm hc hn hwf
        go_enter Tryd.func5, Tryd.ntmps5
        go_wp2_with fail
        refine (alive_any w hh).mono ?_
        rintro e w1 ⟨rfl, hbel⟩
        have HN1 := Lib.hid (sx_new w w1 hbel hh a0 (by omega) (by omega))
        clear hbel
        go_wp2_with fail
        clear h1 hneg' hbig'
        refine HN1.out.mono ?_
        rintro e w2 ⟨rfl, d2⟩
        obtain ⟨p, hp⟩ : ∃ p, w1.heap.size = p := ⟨_, rfl⟩
        rw [hp] at d2 ⊢
        have D2 := Lib.hid (sr_start d2 43)
        obtain ⟨q, hq⟩ : ∃ q, w2.heap.size = q := ⟨_, rfl⟩
        rw [hq] at D2
        clear hp d2 HN1
        go_wp2_with fail
        clear hq
        go_loopw [8] (fun iv wr => ∃ (i : Nat) (s : Nat × Nat × Nat) (l : List FileM), iv = .int .i64 (i : Int) ∧ i ≤ zs.length ∧ SR w wr p q a0 l s 43 ∧ Three a0 l s i)
          (fun iv _ => zs.length - (intOf iv).toNat)
        case atStart => exact ⟨0, (0, 0, 0), [], rfl, Nat.zero_le _, D2.out, ⟨rfl, rfl, rfl, rfl, Nat.le_refl _, by simp [usedM]; omega⟩⟩
        case round =>
          obtain ⟨i, ⟨s0, s1, s2⟩, l, rfl, hi, hD, hT⟩ := hrel
          have HD := Lib.hid hD
          have HT := Lib.hid hT
          have hmn := HMN.out
          clear hD hT D2
          by_cases hlt : i < zs.length
          · obtain ⟨b, off, hA, hbl, hcell⟩ := HL.out.at_ hlt
            have hce := (HD.out.since.cell (p := ⟨b, off + i, none⟩) hbl).trans hcell
            obtain ⟨y, hy⟩ : ∃ y, zs[i] = y := ⟨_, rfl⟩
            rw [hy] at hce
            subst hA
            clear hcell hy
            have ha1 := and1023 y
            have ha2 := and127 (y / 1024)
            obtain ⟨j, hj, hj3⟩ : ∃ j : Nat, (y % 1024).tmod 3 = (j : Int) ∧ j < 3 := ⟨(y % 1024 % 3).toNat, by rw [Int.tmod_eq_emod_of_nonneg (by omega)]; omega, by omega⟩
            obtain ⟨k, hk, hk127⟩ : ∃ k : Nat, y / 1024 % 128 = (k : Int) ∧ k ≤ 127 := ⟨(y / 1024 % 128).toNat, by omega, by omega⟩
            have HK1 := Lib.hid hk127
            have HJ3 := Lib.hid hj3
            have HI1 : Hid (i + 1 ≤ 30) := Lib.hid (by omega)
            clear hk127 hj3 hmn
            go_wp2_with fail
            clear hce ha1 ha2 hj hk
            have hk127 := HK1.out
            have hj : j = 0 ∨ j = 1 ∨ j = 2 := by have := HJ3.out; omega
            clear HJ3 HK1
            rcases hj with hj | hj | hj
            · subst hj
              have hmk := make_nils k (Nat.le_trans hk127 (by decide))
              have hwj : IntKind.i64.wrap 1 = 1 := by decide
              have hnm := abc_0
              have hus := three_sum HT.out HBIG.out
              obtain ⟨hw1, hw2, hw3, hw4⟩ := sum_wraps s0 s1 s2 s0 k hus (Nat.le_trans (Nat.le_trans (Nat.le_add_right s0 s1) (Nat.le_add_right _ s2)) hus) hk127
              have HW1 := Lib.hid hw1
              have HW2 := Lib.hid hw2
              have HW3 := Lib.hid hw3
              have HW4 := Lib.hid hw4
              have HW5 := Lib.hid hw4
              clear hw1 hw2 hw3 hw4 hus
              have HNUM := Lib.hid num_any
              by_cases hfit : (s0 : Int) + (s1 : Int) + (s2 : Int) - (s0 : Int) + (k : Int) ≤ a0
              · have HFD := Lib.hid (show decide ((s0 : Int) + (s1 : Int) + (s2 : Int) - (s0 : Int) + (k : Int) ≤ a0) = true from decide_eq_true hfit)
                obtain ⟨hput, ht2⟩ := three_A HT.out HD.out.rising k hfit
                obtain ⟨l2, hl2⟩ : ∃ l2, layF l ⟨nA, List.replicate k 0, 0⟩ = l2 := ⟨_, rfl⟩
                rw [hl2] at hput ht2
                have HPUT := Lib.hid hput
                have HT2 := Lib.hid ht2
                clear hput ht2 hl2 hfit
                refine wp_region_held_drew (S := fun _ => True) (by kernel_rfl) trivial (fun hHeld => ?_)
                refine held_take 0 52 (v := ?v1) rfl rfl (by kernel_rfl) (by kernel_rfl) (by kernel_rfl) (fun _ _ _ h => h) hHeld (Or.inl ⟨by rfl, ?y1⟩) ?r1
                case y1 => intro w hSw; (try dsimp only at hSw); go_simp; (try with_reducible rfl)
                simp only [List.setIfInBounds_toArray, List.set_cons_zero, List.set_cons_succ]
                refine held_take 1 53 (v := ?v2) rfl rfl (by kernel_rfl) (by kernel_rfl) (by kernel_rfl) (fun _ _ _ h => h) hHeld (Or.inl ⟨by rfl, ?y2⟩) ?r2
                case y2 => intro w hSw; (try dsimp only at hSw); go_simp; (try with_reducible rfl)
                simp only [List.setIfInBounds_toArray, List.set_cons_zero, List.set_cons_succ]
                refine held_take 2 54 (v := ?v3) rfl rfl (by kernel_rfl) (by kernel_rfl) (by kernel_rfl) (fun _ _ _ h => h) hHeld (Or.inl ⟨by rfl, ?y3⟩) ?r3
                case y3 => intro w hSw; (try dsimp only at hSw); go_simp; (try with_reducible rfl)
                simp only [List.setIfInBounds_toArray, List.set_cons_zero, List.set_cons_succ]
                refine held_take 3 55 (v := ?v4) rfl rfl (by kernel_rfl) (by kernel_rfl) (by kernel_rfl) (fun _ _ _ h => h) hHeld (Or.inl ⟨by rfl, ?y4⟩) ?r4
                case y4 => intro w hSw; (try dsimp only at hSw); go_simp; (try with_reducible rfl)
                simp only [List.setIfInBounds_toArray, List.set_cons_zero, List.set_cons_succ]
                refine held_take 4 56 (v := ?v5) rfl rfl (by kernel_rfl) (by kernel_rfl) (by kernel_rfl) (fun _ _ _ h => h) hHeld (Or.inl ⟨by rfl, ?y5⟩) ?r5
                case y5 => intro w hSw; (try dsimp only at hSw); go_simp; (try with_reducible rfl)
                simp only [List.setIfInBounds_toArray, List.set_cons_zero, List.set_cons_succ]
                refine held_take 5 57 (v := ?v6) rfl rfl (by kernel_rfl) (by kernel_rfl) (by kernel_rfl) (fun _ _ _ h => h) hHeld (Or.inl ⟨by rfl, ?y6⟩) ?r6
                case y6 => intro w hSw; (try dsimp only at hSw); go_simp; (try with_reducible rfl)
                simp only [List.setIfInBounds_toArray, List.set_cons_zero, List.set_cons_succ]
                refine wpAnyH_ready (rs := [6]) (by kernel_rfl) (by simp) ?_
                refine AllReadyH.cons rfl (fun K hK => ?_) AllReadyH.nil
                go_simp
                refine hK.out _ _ trivial (fun _ => ?_)
                clear hK K
                (try simp only [Act.put, List.setIfInBounds_toArray, List.set_cons_zero, List.set_cons_succ])
                refine wpAnyH_ready (rs := [7]) (by kernel_rfl) (by simp) ?_
                refine AllReadyH.cons rfl (fun K hK => ?_) AllReadyH.nil
                go_simp
                (try rw [hnm])
                refine (sr_put (HD.out.below (w' := wr.drew) ⟨rfl, rfl, rfl, Nat.le_refl _, fun _ _ => rfl⟩) nA k _ rfl (by decide) hk127 (by rw [HPUT.out]; exact three_few HT2.out HI1.out) (by rw [HPUT.out]; exact three_used HT2.out HBIG.out)).mono ?_
                rintro e w3 ⟨rfl, d3⟩
                refine hK.out _ _ trivial (fun _ => ?_)
                clear hK K
                (try simp only [Act.put, List.setIfInBounds_toArray, List.set_cons_zero, List.set_cons_succ])
                refine wpAnyH_ready (rs := [8]) (by kernel_rfl) (by simp) ?_
                refine AllReadyH.cons rfl (fun K hK => ?_) AllReadyH.nil
                go_simp
                refine hK.out _ _ trivial (fun _ => ?_)
                clear hK K hHeld
                (try simp only [Act.put, List.setIfInBounds_toArray, List.set_cons_zero, List.set_cons_succ])
                refine wpAnyH_done (by kernel_rfl) ?_ _
                have hw1 := HW1.out
                have hw2 := HW2.out
                have hw3 := HW3.out
                have hw4 := HW4.out
                have hw5 := HW5.out
                have hfd := HFD.out
                clear HW1 HW2 HW3 HW4 HW5 HFD
                rw [HPUT.out] at d3 ⊢
                dsimp only at d3 ⊢
                obtain ⟨f0, f1, f2, fz⟩ := d3.cells
                dsimp only at f0 f1 f2
                have fz0 := fz 0
                have D3 := Lib.hid d3
                clear d3 fz
                go_wp2_with fail
                go_quiet (fail)
                have hdq : ∀ m, SR w (w3.drewN m) p q a0 l2 (s0, s1, s2) 43 := fun m => D3.out.below (below_drewN (Below.refl _ _) m)
                generalize hW4 : w3.drewN _ = w4
                have d4 : SR w w4 p q a0 l2 (s0, s1, s2) 43 := by rw [← hW4]; exact hdq _
                obtain ⟨f0', f1', f2', fz'⟩ := d4.cells
                dsimp only at f0' f1' f2'
                have fz0' := fz' 0
                have DG := Lib.hid (sr_set d4 0 k (k, s1, s2) rfl)
                clear d4 hdq hW4 fz' f0 f1 f2 fz0 D3
                go_wp2_with (first | (go_at_call 15; refine (HNUM.out _ _).mono ?_; rintro e w' ⟨rfl, rfl⟩))
                (try rw [hnm])
                refine (sr_get DG.out nA (by decide)).mono ?_
                rintro e w5 ⟨B, c, rfl, d5⟩
                have D5 := Lib.hid d5
                obtain ⟨g0, g1, g2, _⟩ := d5.cells
                dsimp only at g0 g1 g2
                clear d5 DG
                rcases getM_of (l := l2) v_A with ⟨he, hle⟩ | ⟨he, hle⟩
                · rw [he, hle, HT2.out.a]
                  dsimp only
                  have hq1 : (((k : Nat) : Int) != ((k : Nat) : Int)) = false := by simp
                  go_wp2_with (first | (go_at_call 15; refine (HNUM.out _ _).mono ?_; rintro e w' ⟨rfl, rfl⟩))
                  go_roundw
                  case rel => exact ⟨i + 1, (k, s1, s2), _, by go_num, hlt, D5.out, HT2.out⟩
                  case measure => simp [intOf]; omega
                · rw [he]
                  rw [HT2.out.a] at hle
                  dsimp only at hle
                  have hz := cast_0 hle
                  go_wp2_with (first | (go_at_call 15; refine (HNUM.out _ _).mono ?_; rintro e w' ⟨rfl, rfl⟩))
                  go_roundw
                  case rel => exact ⟨i + 1, (k, s1, s2), _, by go_num, hlt, D5.out, HT2.out⟩
                  case measure => simp [intOf]; omega
              · have HFD := Lib.hid (show decide ((s0 : Int) + (s1 : Int) + (s2 : Int) - (s0 : Int) + (k : Int) ≤ a0) = false from decide_eq_false hfit)
                have HPUT := Lib.hid (full_A HT.out k hfit)
                have HT2 := Lib.hid (three_more HT.out)
                refine wp_region_held_drew (S := fun _ => True) (by kernel_rfl) trivial (fun hHeld => ?_)
                refine held_take 0 52 (v := ?v21) rfl rfl (by kernel_rfl) (by kernel_rfl) (by kernel_rfl) (fun _ _ _ h => h) hHeld (Or.inl ⟨by rfl, ?y21⟩) ?r21
                case y21 => intro w hSw; (try dsimp only at hSw); go_simp; (try with_reducible rfl)
                simp only [List.setIfInBounds_toArray, List.set_cons_zero, List.set_cons_succ]
                refine held_take 1 53 (v := ?v22) rfl rfl (by kernel_rfl) (by kernel_rfl) (by kernel_rfl) (fun _ _ _ h => h) hHeld (Or.inl ⟨by rfl, ?y22⟩) ?r22
                case y22 => intro w hSw; (try dsimp only at hSw); go_simp; (try with_reducible rfl)
                simp only [List.setIfInBounds_toArray, List.set_cons_zero, List.set_cons_succ]
                refine held_take 2 54 (v := ?v23) rfl rfl (by kernel_rfl) (by kernel_rfl) (by kernel_rfl) (fun _ _ _ h => h) hHeld (Or.inl ⟨by rfl, ?y23⟩) ?r23
                case y23 => intro w hSw; (try dsimp only at hSw); go_simp; (try with_reducible rfl)
                simp only [List.setIfInBounds_toArray, List.set_cons_zero, List.set_cons_succ]
                refine held_take 3 55 (v := ?v24) rfl rfl (by kernel_rfl) (by kernel_rfl) (by kernel_rfl) (fun _ _ _ h => h) hHeld (Or.inl ⟨by rfl, ?y24⟩) ?r24
                case y24 => intro w hSw; (try dsimp only at hSw); go_simp; (try with_reducible rfl)
                simp only [List.setIfInBounds_toArray, List.set_cons_zero, List.set_cons_succ]
                refine held_take 4 56 (v := ?v25) rfl rfl (by kernel_rfl) (by kernel_rfl) (by kernel_rfl) (fun _ _ _ h => h) hHeld (Or.inl ⟨by rfl, ?y25⟩) ?r25
                case y25 => intro w hSw; (try dsimp only at hSw); go_simp; (try with_reducible rfl)
                simp only [List.setIfInBounds_toArray, List.set_cons_zero, List.set_cons_succ]
                refine held_take 5 57 (v := ?v26) rfl rfl (by kernel_rfl) (by kernel_rfl) (by kernel_rfl) (fun _ _ _ h => h) hHeld (Or.inl ⟨by rfl, ?y26⟩) ?r26
                case y26 => intro w hSw; (try dsimp only at hSw); go_simp; (try with_reducible rfl)
                simp only [List.setIfInBounds_toArray, List.set_cons_zero, List.set_cons_succ]
                refine wpAnyH_ready (rs := [6]) (by kernel_rfl) (by simp) ?_
                refine AllReadyH.cons rfl (fun K hK => ?_) AllReadyH.nil
                go_simp
                refine hK.out _ _ trivial (fun _ => ?_)
                clear hK K
                (try simp only [Act.put, List.setIfInBounds_toArray, List.set_cons_zero, List.set_cons_succ])
                refine wpAnyH_ready (rs := [7]) (by kernel_rfl) (by simp) ?_
                refine AllReadyH.cons rfl (fun K hK => ?_) AllReadyH.nil
                go_simp
                (try rw [hnm])
                refine (sr_put (HD.out.below (w' := wr.drew) ⟨rfl, rfl, rfl, Nat.le_refl _, fun _ _ => rfl⟩) nA k _ rfl (by decide) hk127 (by rw [HPUT.out]; exact three_few HT2.out HI1.out) (by rw [HPUT.out]; exact three_used HT2.out HBIG.out)).mono ?_
                rintro e w3 ⟨rfl, d3⟩
                refine hK.out _ _ trivial (fun _ => ?_)
                clear hK K
                (try simp only [Act.put, List.setIfInBounds_toArray, List.set_cons_zero, List.set_cons_succ])
                refine wpAnyH_ready (rs := [8]) (by kernel_rfl) (by simp) ?_
                refine AllReadyH.cons rfl (fun K hK => ?_) AllReadyH.nil
                go_simp
                refine hK.out _ _ trivial (fun _ => ?_)
                clear hK K hHeld
                (try simp only [Act.put, List.setIfInBounds_toArray, List.set_cons_zero, List.set_cons_succ])
                refine wpAnyH_done (by kernel_rfl) ?_ _
                have hw1 := HW1.out
                have hw2 := HW2.out
                have hw3 := HW3.out
                have hw4 := HW4.out
                have hw5 := HW5.out
                have hfd := HFD.out
                clear HW1 HW2 HW3 HW4 HW5 HFD
                rw [HPUT.out] at d3 ⊢
                dsimp only at d3 ⊢
                obtain ⟨f0, f1, f2, fz⟩ := d3.cells
                dsimp only at f0 f1 f2
                have D3 := Lib.hid d3
                clear d3 fz
                go_wp2_with fail
                go_quiet (fail)
                have hdq : ∀ m, SR w (w3.drewN m) p q a0 l (s0, s1, s2) 43 := fun m => D3.out.below (below_drewN (Below.refl _ _) m)
                generalize hW4 : w3.drewN _ = w4
                have d4 : SR w w4 p q a0 l (s0, s1, s2) 43 := by rw [← hW4]; exact hdq _
                have DG := Lib.hid d4
                clear d4 hdq hW4 f0 f1 f2 D3
                go_wp2_with (first | (go_at_call 15; refine (HNUM.out _ _).mono ?_; rintro e w' ⟨rfl, rfl⟩))
                (try rw [hnm])
                refine (sr_get DG.out nA (by decide)).mono ?_
                rintro e w5 ⟨B, c, rfl, d5⟩
                have D5 := Lib.hid d5
                obtain ⟨g0, g1, g2, _⟩ := d5.cells
                dsimp only at g0 g1 g2
                clear d5 DG
                rcases getM_of (l := l) v_A with ⟨he, hle⟩ | ⟨he, hle⟩
                · rw [he, hle, HT2.out.a]
                  dsimp only
                  have hq1 : (((s0 : Nat) : Int) != ((s0 : Nat) : Int)) = false := by simp
                  go_wp2_with (first | (go_at_call 15; refine (HNUM.out _ _).mono ?_; rintro e w' ⟨rfl, rfl⟩))
                  go_roundw
                  case rel => exact ⟨i + 1, (s0, s1, s2), _, by go_num, hlt, D5.out, HT2.out⟩
                  case measure => simp [intOf]; omega
                · rw [he]
                  rw [HT2.out.a] at hle
                  dsimp only at hle
                  have hz := cast_0 hle
                  go_wp2_with (first | (go_at_call 15; refine (HNUM.out _ _).mono ?_; rintro e w' ⟨rfl, rfl⟩))
                  go_roundw
                  case rel => exact ⟨i + 1, (s0, s1, s2), _, by go_num, hlt, D5.out, HT2.out⟩
                  case measure => simp [intOf]; omega
            · subst hj
              have hmk := make_nils k (Nat.le_trans hk127 (by decide))
              have hwj : IntKind.i64.wrap 2 = 2 := by decide
              have hnm := abc_1
              have hus := three_sum HT.out HBIG.out
              obtain ⟨hw1, hw2, hw3, hw4⟩ := sum_wraps s0 s1 s2 s1 k hus (Nat.le_trans (Nat.le_trans (Nat.le_add_left s1 s0) (Nat.le_add_right _ s2)) hus) hk127
              have HW1 := Lib.hid hw1
              have HW2 := Lib.hid hw2
              have HW3 := Lib.hid hw3
              have HW4 := Lib.hid hw4
              have HW5 := Lib.hid hw4
              clear hw1 hw2 hw3 hw4 hus
              have HNUM := Lib.hid num_any
              by_cases hfit : (s0 : Int) + (s1 : Int) + (s2 : Int) - (s1 : Int) + (k : Int) ≤ a0
              · have HFD := Lib.hid (show decide ((s0 : Int) + (s1 : Int) + (s2 : Int) - (s1 : Int) + (k : Int) ≤ a0) = true from decide_eq_true hfit)
                obtain ⟨hput, ht2⟩ := three_B HT.out HD.out.rising k hfit
                obtain ⟨l2, hl2⟩ : ∃ l2, layF l ⟨nB, List.replicate k 0, 0⟩ = l2 := ⟨_, rfl⟩
                rw [hl2] at hput ht2
                have HPUT := Lib.hid hput
                have HT2 := Lib.hid ht2
                clear hput ht2 hl2 hfit
                refine wp_region_held_drew (S := fun _ => True) (by kernel_rfl) trivial (fun hHeld => ?_)
                refine held_take 0 52 (v := ?v41) rfl rfl (by kernel_rfl) (by kernel_rfl) (by kernel_rfl) (fun _ _ _ h => h) hHeld (Or.inl ⟨by rfl, ?y41⟩) ?r41
                case y41 => intro w hSw; (try dsimp only at hSw); go_simp; (try with_reducible rfl)
                simp only [List.setIfInBounds_toArray, List.set_cons_zero, List.set_cons_succ]
                refine held_take 1 53 (v := ?v42) rfl rfl (by kernel_rfl) (by kernel_rfl) (by kernel_rfl) (fun _ _ _ h => h) hHeld (Or.inl ⟨by rfl, ?y42⟩) ?r42
                case y42 => intro w hSw; (try dsimp only at hSw); go_simp; (try with_reducible rfl)
                simp only [List.setIfInBounds_toArray, List.set_cons_zero, List.set_cons_succ]
                refine held_take 2 54 (v := ?v43) rfl rfl (by kernel_rfl) (by kernel_rfl) (by kernel_rfl) (fun _ _ _ h => h) hHeld (Or.inl ⟨by rfl, ?y43⟩) ?r43
                case y43 => intro w hSw; (try dsimp only at hSw); go_simp; (try with_reducible rfl)
                simp only [List.setIfInBounds_toArray, List.set_cons_zero, List.set_cons_succ]
                refine held_take 3 55 (v := ?v44) rfl rfl (by kernel_rfl) (by kernel_rfl) (by kernel_rfl) (fun _ _ _ h => h) hHeld (Or.inl ⟨by rfl, ?y44⟩) ?r44
                case y44 => intro w hSw; (try dsimp only at hSw); go_simp; (try with_reducible rfl)
                simp only [List.setIfInBounds_toArray, List.set_cons_zero, List.set_cons_succ]
                refine held_take 4 56 (v := ?v45) rfl rfl (by kernel_rfl) (by kernel_rfl) (by kernel_rfl) (fun _ _ _ h => h) hHeld (Or.inl ⟨by rfl, ?y45⟩) ?r45
                case y45 => intro w hSw; (try dsimp only at hSw); go_simp; (try with_reducible rfl)
                simp only [List.setIfInBounds_toArray, List.set_cons_zero, List.set_cons_succ]
                refine held_take 5 57 (v := ?v46) rfl rfl (by kernel_rfl) (by kernel_rfl) (by kernel_rfl) (fun _ _ _ h => h) hHeld (Or.inl ⟨by rfl, ?y46⟩) ?r46
                case y46 => intro w hSw; (try dsimp only at hSw); go_simp; (try with_reducible rfl)
                simp only [List.setIfInBounds_toArray, List.set_cons_zero, List.set_cons_succ]
                refine wpAnyH_ready (rs := [6]) (by kernel_rfl) (by simp) ?_
                refine AllReadyH.cons rfl (fun K hK => ?_) AllReadyH.nil
                go_simp
                refine hK.out _ _ trivial (fun _ => ?_)
                clear hK K
                (try simp only [Act.put, List.setIfInBounds_toArray, List.set_cons_zero, List.set_cons_succ])
                refine wpAnyH_ready (rs := [7]) (by kernel_rfl) (by simp) ?_
                refine AllReadyH.cons rfl (fun K hK => ?_) AllReadyH.nil
                go_simp
                (try rw [hnm])
                refine (sr_put (HD.out.below (w' := wr.drew) ⟨rfl, rfl, rfl, Nat.le_refl _, fun _ _ => rfl⟩) nB k _ rfl (by decide) hk127 (by rw [HPUT.out]; exact three_few HT2.out HI1.out) (by rw [HPUT.out]; exact three_used HT2.out HBIG.out)).mono ?_
                rintro e w3 ⟨rfl, d3⟩
                refine hK.out _ _ trivial (fun _ => ?_)
                clear hK K
                (try simp only [Act.put, List.setIfInBounds_toArray, List.set_cons_zero, List.set_cons_succ])
                refine wpAnyH_ready (rs := [8]) (by kernel_rfl) (by simp) ?_
                refine AllReadyH.cons rfl (fun K hK => ?_) AllReadyH.nil
                go_simp
                refine hK.out _ _ trivial (fun _ => ?_)
                clear hK K hHeld
                (try simp only [Act.put, List.setIfInBounds_toArray, List.set_cons_zero, List.set_cons_succ])
                refine wpAnyH_done (by kernel_rfl) ?_ _
                have hw1 := HW1.out
                have hw2 := HW2.out
                have hw3 := HW3.out
                have hw4 := HW4.out
                have hw5 := HW5.out
                have hfd := HFD.out
                clear HW1 HW2 HW3 HW4 HW5 HFD
                rw [HPUT.out] at d3 ⊢
                dsimp only at d3 ⊢
                obtain ⟨f0, f1, f2, fz⟩ := d3.cells
                dsimp only at f0 f1 f2
                have fz1 := fz 1
                have D3 := Lib.hid d3
                clear d3 fz
                go_wp2_with fail
                go_quiet (fail)
                have hdq : ∀ m, SR w (w3.drewN m) p q a0 l2 (s0, s1, s2) 43 := fun m => D3.out.below (below_drewN (Below.refl _ _) m)
                generalize hW4 : w3.drewN _ = w4
                have d4 : SR w w4 p q a0 l2 (s0, s1, s2) 43 := by rw [← hW4]; exact hdq _
                obtain ⟨f0', f1', f2', fz'⟩ := d4.cells
                dsimp only at f0' f1' f2'
                have fz1' := fz' 1
                have DG := Lib.hid (sr_set d4 1 k (s0, k, s2) rfl)
                clear d4 hdq hW4 fz' f0 f1 f2 fz1 D3
                go_wp2_with (first | (go_at_call 15; refine (HNUM.out _ _).mono ?_; rintro e w' ⟨rfl, rfl⟩))
                (try rw [hnm])
                refine (sr_get DG.out nB (by decide)).mono ?_
                rintro e w5 ⟨B, c, rfl, d5⟩
                have D5 := Lib.hid d5
                obtain ⟨g0, g1, g2, _⟩ := d5.cells
                dsimp only at g0 g1 g2
                clear d5 DG
                rcases getM_of (l := l2) v_B with ⟨he, hle⟩ | ⟨he, hle⟩
                · rw [he, hle, HT2.out.b]
                  dsimp only
                  have hq1 : (((k : Nat) : Int) != ((k : Nat) : Int)) = false := by simp
                  go_wp2_with (first | (go_at_call 15; refine (HNUM.out _ _).mono ?_; rintro e w' ⟨rfl, rfl⟩))
                  go_roundw
                  case rel => exact ⟨i + 1, (s0, k, s2), _, by go_num, hlt, D5.out, HT2.out⟩
                  case measure => simp [intOf]; omega
                · rw [he]
                  rw [HT2.out.b] at hle
                  dsimp only at hle
                  have hz := cast_0 hle
                  go_wp2_with (first | (go_at_call 15; refine (HNUM.out _ _).mono ?_; rintro e w' ⟨rfl, rfl⟩))
                  go_roundw
                  case rel => exact ⟨i + 1, (s0, k, s2), _, by go_num, hlt, D5.out, HT2.out⟩
                  case measure => simp [intOf]; omega
              · have HFD := Lib.hid (show decide ((s0 : Int) + (s1 : Int) + (s2 : Int) - (s1 : Int) + (k : Int) ≤ a0) = false from decide_eq_false hfit)
                have HPUT := Lib.hid (full_B HT.out k hfit)
                have HT2 := Lib.hid (three_more HT.out)
                refine wp_region_held_drew (S := fun _ => True) (by kernel_rfl) trivial (fun hHeld => ?_)
                refine held_take 0 52 (v := ?v61) rfl rfl (by kernel_rfl) (by kernel_rfl) (by kernel_rfl) (fun _ _ _ h => h) hHeld (Or.inl ⟨by rfl, ?y61⟩) ?r61
                case y61 => intro w hSw; (try dsimp only at hSw); go_simp; (try with_reducible rfl)
                simp only [List.setIfInBounds_toArray, List.set_cons_zero, List.set_cons_succ]
                refine held_take 1 53 (v := ?v62) rfl rfl (by kernel_rfl) (by kernel_rfl) (by kernel_rfl) (fun _ _ _ h => h) hHeld (Or.inl ⟨by rfl, ?y62⟩) ?r62
                case y62 => intro w hSw; (try dsimp only at hSw); go_simp; (try with_reducible rfl)
                simp only [List.setIfInBounds_toArray, List.set_cons_zero, List.set_cons_succ]
                refine held_take 2 54 (v := ?v63) rfl rfl (by kernel_rfl) (by kernel_rfl) (by kernel_rfl) (fun _ _ _ h => h) hHeld (Or.inl ⟨by rfl, ?y63⟩) ?r63
                case y63 => intro w hSw; (try dsimp only at hSw); go_simp; (try with_reducible rfl)
                simp only [List.setIfInBounds_toArray, List.set_cons_zero, List.set_cons_succ]
                refine held_take 3 55 (v := ?v64) rfl rfl (by kernel_rfl) (by kernel_rfl) (by kernel_rfl) (fun _ _ _ h => h) hHeld (Or.inl ⟨by rfl, ?y64⟩) ?r64
                case y64 => intro w hSw; (try dsimp only at hSw); go_simp; (try with_reducible rfl)
                simp only [List.setIfInBounds_toArray, List.set_cons_zero, List.set_cons_succ]
                refine held_take 4 56 (v := ?v65) rfl rfl (by kernel_rfl) (by kernel_rfl) (by kernel_rfl) (fun _ _ _ h => h) hHeld (Or.inl ⟨by rfl, ?y65⟩) ?r65
                case y65 => intro w hSw; (try dsimp only at hSw); go_simp; (try with_reducible rfl)
                simp only [List.setIfInBounds_toArray, List.set_cons_zero, List.set_cons_succ]
                refine held_take 5 57 (v := ?v66) rfl rfl (by kernel_rfl) (by kernel_rfl) (by kernel_rfl) (fun _ _ _ h => h) hHeld (Or.inl ⟨by rfl, ?y66⟩) ?r66
                case y66 => intro w hSw; (try dsimp only at hSw); go_simp; (try with_reducible rfl)
                simp only [List.setIfInBounds_toArray, List.set_cons_zero, List.set_cons_succ]
                refine wpAnyH_ready (rs := [6]) (by kernel_rfl) (by simp) ?_
                refine AllReadyH.cons rfl (fun K hK => ?_) AllReadyH.nil
                go_simp
                refine hK.out _ _ trivial (fun _ => ?_)
                clear hK K
                (try simp only [Act.put, List.setIfInBounds_toArray, List.set_cons_zero, List.set_cons_succ])
                refine wpAnyH_ready (rs := [7]) (by kernel_rfl) (by simp) ?_
                refine AllReadyH.cons rfl (fun K hK => ?_) AllReadyH.nil
                go_simp
                (try rw [hnm])
                refine (sr_put (HD.out.below (w' := wr.drew) ⟨rfl, rfl, rfl, Nat.le_refl _, fun _ _ => rfl⟩) nB k _ rfl (by decide) hk127 (by rw [HPUT.out]; exact three_few HT2.out HI1.out) (by rw [HPUT.out]; exact three_used HT2.out HBIG.out)).mono ?_
                rintro e w3 ⟨rfl, d3⟩
                refine hK.out _ _ trivial (fun _ => ?_)
                clear hK K
                (try simp only [Act.put, List.setIfInBounds_toArray, List.set_cons_zero, List.set_cons_succ])
                refine wpAnyH_ready (rs := [8]) (by kernel_rfl) (by simp) ?_
                refine AllReadyH.cons rfl (fun K hK => ?_) AllReadyH.nil
                go_simp
                refine hK.out _ _ trivial (fun _ => ?_)
                clear hK K hHeld
                (try simp only [Act.put, List.setIfInBounds_toArray, List.set_cons_zero, List.set_cons_succ])
                refine wpAnyH_done (by kernel_rfl) ?_ _
                have hw1 := HW1.out
                have hw2 := HW2.out
                have hw3 := HW3.out
                have hw4 := HW4.out
                have hw5 := HW5.out
                have hfd := HFD.out
                clear HW1 HW2 HW3 HW4 HW5 HFD
                rw [HPUT.out] at d3 ⊢
                dsimp only at d3 ⊢
                obtain ⟨f0, f1, f2, fz⟩ := d3.cells
                dsimp only at f0 f1 f2
                have D3 := Lib.hid d3
                clear d3 fz
                go_wp2_with fail
                go_quiet (fail)
                have hdq : ∀ m, SR w (w3.drewN m) p q a0 l (s0, s1, s2) 43 := fun m => D3.out.below (below_drewN (Below.refl _ _) m)
                generalize hW4 : w3.drewN _ = w4
                have d4 : SR w w4 p q a0 l (s0, s1, s2) 43 := by rw [← hW4]; exact hdq _
                have DG := Lib.hid d4
                clear d4 hdq hW4 f0 f1 f2 D3
                go_wp2_with (first | (go_at_call 15; refine (HNUM.out _ _).mono ?_; rintro e w' ⟨rfl, rfl⟩))
                (try rw [hnm])
                refine (sr_get DG.out nB (by decide)).mono ?_
                rintro e w5 ⟨B, c, rfl, d5⟩
                have D5 := Lib.hid d5
                obtain ⟨g0, g1, g2, _⟩ := d5.cells
                dsimp only at g0 g1 g2
                clear d5 DG
                rcases getM_of (l := l) v_B with ⟨he, hle⟩ | ⟨he, hle⟩
                · rw [he, hle, HT2.out.b]
                  dsimp only
                  have hq1 : (((s1 : Nat) : Int) != ((s1 : Nat) : Int)) = false := by simp
                  go_wp2_with (first | (go_at_call 15; refine (HNUM.out _ _).mono ?_; rintro e w' ⟨rfl, rfl⟩))
                  go_roundw
                  case rel => exact ⟨i + 1, (s0, s1, s2), _, by go_num, hlt, D5.out, HT2.out⟩
                  case measure => simp [intOf]; omega
                · rw [he]
                  rw [HT2.out.b] at hle
                  dsimp only at hle
                  have hz := cast_0 hle
                  go_wp2_with (first | (go_at_call 15; refine (HNUM.out _ _).mono ?_; rintro e w' ⟨rfl, rfl⟩))
                  go_roundw
                  case rel => exact ⟨i + 1, (s0, s1, s2), _, by go_num, hlt, D5.out, HT2.out⟩
                  case measure => simp [intOf]; omega
            · subst hj
              have hmk := make_nils k (Nat.le_trans hk127 (by decide))
              have hwj : IntKind.i64.wrap 3 = 3 := by decide
              have hnm := abc_2
              have hus := three_sum HT.out HBIG.out
              obtain ⟨hw1, hw2, hw3, hw4⟩ := sum_wraps s0 s1 s2 s2 k hus (Nat.le_trans (Nat.le_add_left s2 _) hus) hk127
              have HW1 := Lib.hid hw1
              have HW2 := Lib.hid hw2
              have HW3 := Lib.hid hw3
              have HW4 := Lib.hid hw4
              have HW5 := Lib.hid (sum_wrap_c s0 s1 s2 k hus hk127)
              clear hw1 hw2 hw3 hw4 hus
              have HNUM := Lib.hid num_any
              by_cases hfit : (s0 : Int) + (s1 : Int) + (s2 : Int) - (s2 : Int) + (k : Int) ≤ a0
              · have HFD := Lib.hid (show decide ((s0 : Int) + (s1 : Int) + (s2 : Int) - (s2 : Int) + (k : Int) ≤ a0) = true from decide_eq_true hfit)
                obtain ⟨hput, ht2⟩ := three_C HT.out HD.out.rising k hfit
                obtain ⟨l2, hl2⟩ : ∃ l2, layF l ⟨nC, List.replicate k 0, 0⟩ = l2 := ⟨_, rfl⟩
                rw [hl2] at hput ht2
                have HPUT := Lib.hid hput
                have HT2 := Lib.hid ht2
                clear hput ht2 hl2 hfit
                refine wp_region_held_drew (S := fun _ => True) (by kernel_rfl) trivial (fun hHeld => ?_)
                refine held_take 0 52 (v := ?v81) rfl rfl (by kernel_rfl) (by kernel_rfl) (by kernel_rfl) (fun _ _ _ h => h) hHeld (Or.inl ⟨by rfl, ?y81⟩) ?r81
                case y81 => intro w hSw; (try dsimp only at hSw); go_simp; (try with_reducible rfl)
                simp only [List.setIfInBounds_toArray, List.set_cons_zero, List.set_cons_succ]
                refine held_take 1 53 (v := ?v82) rfl rfl (by kernel_rfl) (by kernel_rfl) (by kernel_rfl) (fun _ _ _ h => h) hHeld (Or.inl ⟨by rfl, ?y82⟩) ?r82
                case y82 => intro w hSw; (try dsimp only at hSw); go_simp; (try with_reducible rfl)
                simp only [List.setIfInBounds_toArray, List.set_cons_zero, List.set_cons_succ]
                refine held_take 2 54 (v := ?v83) rfl rfl (by kernel_rfl) (by kernel_rfl) (by kernel_rfl) (fun _ _ _ h => h) hHeld (Or.inl ⟨by rfl, ?y83⟩) ?r83
                case y83 => intro w hSw; (try dsimp only at hSw); go_simp; (try with_reducible rfl)
                simp only [List.setIfInBounds_toArray, List.set_cons_zero, List.set_cons_succ]
                refine held_take 3 55 (v := ?v84) rfl rfl (by kernel_rfl) (by kernel_rfl) (by kernel_rfl) (fun _ _ _ h => h) hHeld (Or.inl ⟨by rfl, ?y84⟩) ?r84
                case y84 => intro w hSw; (try dsimp only at hSw); go_simp; (try with_reducible rfl)
                simp only [List.setIfInBounds_toArray, List.set_cons_zero, List.set_cons_succ]
                refine held_take 4 56 (v := ?v85) rfl rfl (by kernel_rfl) (by kernel_rfl) (by kernel_rfl) (fun _ _ _ h => h) hHeld (Or.inl ⟨by rfl, ?y85⟩) ?r85
                case y85 => intro w hSw; (try dsimp only at hSw); go_simp; (try with_reducible rfl)
                simp only [List.setIfInBounds_toArray, List.set_cons_zero, List.set_cons_succ]
                refine held_take 5 57 (v := ?v86) rfl rfl (by kernel_rfl) (by kernel_rfl) (by kernel_rfl) (fun _ _ _ h => h) hHeld (Or.inl ⟨by rfl, ?y86⟩) ?r86
                case y86 => intro w hSw; (try dsimp only at hSw); go_simp; (try with_reducible rfl)
                simp only [List.setIfInBounds_toArray, List.set_cons_zero, List.set_cons_succ]
                refine wpAnyH_ready (rs := [6]) (by kernel_rfl) (by simp) ?_
                refine AllReadyH.cons rfl (fun K hK => ?_) AllReadyH.nil
                go_simp
                refine hK.out _ _ trivial (fun _ => ?_)
                clear hK K
                (try simp only [Act.put, List.setIfInBounds_toArray, List.set_cons_zero, List.set_cons_succ])
                refine wpAnyH_ready (rs := [7]) (by kernel_rfl) (by simp) ?_
                refine AllReadyH.cons rfl (fun K hK => ?_) AllReadyH.nil
                go_simp
                (try rw [hnm])
                refine (sr_put (HD.out.below (w' := wr.drew) ⟨rfl, rfl, rfl, Nat.le_refl _, fun _ _ => rfl⟩) nC k _ rfl (by decide) hk127 (by rw [HPUT.out]; exact three_few HT2.out HI1.out) (by rw [HPUT.out]; exact three_used HT2.out HBIG.out)).mono ?_
                rintro e w3 ⟨rfl, d3⟩
                refine hK.out _ _ trivial (fun _ => ?_)
                clear hK K
                (try simp only [Act.put, List.setIfInBounds_toArray, List.set_cons_zero, List.set_cons_succ])
                refine wpAnyH_ready (rs := [8]) (by kernel_rfl) (by simp) ?_
                refine AllReadyH.cons rfl (fun K hK => ?_) AllReadyH.nil
                go_simp
                refine hK.out _ _ trivial (fun _ => ?_)
                clear hK K hHeld
                (try simp only [Act.put, List.setIfInBounds_toArray, List.set_cons_zero, List.set_cons_succ])
                refine wpAnyH_done (by kernel_rfl) ?_ _
                have hw1 := HW1.out
                have hw2 := HW2.out
                have hw3 := HW3.out
                have hw4 := HW4.out
                have hw5 := HW5.out
                have hfd := HFD.out
                rw [fit_c] at hfd
                clear HW1 HW2 HW3 HW4 HW5 HFD
                rw [HPUT.out] at d3 ⊢
                dsimp only at d3 ⊢
                obtain ⟨f0, f1, f2, fz⟩ := d3.cells
                dsimp only at f0 f1 f2
                have fz2 := fz 2
                have D3 := Lib.hid d3
                clear d3 fz
                go_wp2_with fail
                go_quiet (fail)
                have hdq : ∀ m, SR w (w3.drewN m) p q a0 l2 (s0, s1, s2) 43 := fun m => D3.out.below (below_drewN (Below.refl _ _) m)
                generalize hW4 : w3.drewN _ = w4
                have d4 : SR w w4 p q a0 l2 (s0, s1, s2) 43 := by rw [← hW4]; exact hdq _
                obtain ⟨f0', f1', f2', fz'⟩ := d4.cells
                dsimp only at f0' f1' f2'
                have fz2' := fz' 2
                have DG := Lib.hid (sr_set d4 2 k (s0, s1, k) rfl)
                clear d4 hdq hW4 fz' f0 f1 f2 fz2 D3
                go_wp2_with (first | (go_at_call 15; refine (HNUM.out _ _).mono ?_; rintro e w' ⟨rfl, rfl⟩))
                (try rw [hnm])
                refine (sr_get DG.out nC (by decide)).mono ?_
                rintro e w5 ⟨B, c, rfl, d5⟩
                have D5 := Lib.hid d5
                obtain ⟨g0, g1, g2, _⟩ := d5.cells
                dsimp only at g0 g1 g2
                clear d5 DG
                rcases getM_of (l := l2) v_C with ⟨he, hle⟩ | ⟨he, hle⟩
                · rw [he, hle, HT2.out.c]
                  dsimp only
                  have hq1 : (((k : Nat) : Int) != ((k : Nat) : Int)) = false := by simp
                  go_wp2_with (first | (go_at_call 15; refine (HNUM.out _ _).mono ?_; rintro e w' ⟨rfl, rfl⟩))
                  go_roundw
                  case rel => exact ⟨i + 1, (s0, s1, k), _, by go_num, hlt, D5.out, HT2.out⟩
                  case measure => simp [intOf]; omega
                · rw [he]
                  rw [HT2.out.c] at hle
                  dsimp only at hle
                  have hz := cast_0 hle
                  go_wp2_with (first | (go_at_call 15; refine (HNUM.out _ _).mono ?_; rintro e w' ⟨rfl, rfl⟩))
                  go_roundw
                  case rel => exact ⟨i + 1, (s0, s1, k), _, by go_num, hlt, D5.out, HT2.out⟩
                  case measure => simp [intOf]; omega
              · have HFD := Lib.hid (show decide ((s0 : Int) + (s1 : Int) + (s2 : Int) - (s2 : Int) + (k : Int) ≤ a0) = false from decide_eq_false hfit)
                have HPUT := Lib.hid (full_C HT.out k hfit)
                have HT2 := Lib.hid (three_more HT.out)
                refine wp_region_held_drew (S := fun _ => True) (by kernel_rfl) trivial (fun hHeld => ?_)
                refine held_take 0 52 (v := ?v101) rfl rfl (by kernel_rfl) (by kernel_rfl) (by kernel_rfl) (fun _ _ _ h => h) hHeld (Or.inl ⟨by rfl, ?y101⟩) ?r101
                case y101 => intro w hSw; (try dsimp only at hSw); go_simp; (try with_reducible rfl)
                simp only [List.setIfInBounds_toArray, List.set_cons_zero, List.set_cons_succ]
                refine held_take 1 53 (v := ?v102) rfl rfl (by kernel_rfl) (by kernel_rfl) (by kernel_rfl) (fun _ _ _ h => h) hHeld (Or.inl ⟨by rfl, ?y102⟩) ?r102
                case y102 => intro w hSw; (try dsimp only at hSw); go_simp; (try with_reducible rfl)
                simp only [List.setIfInBounds_toArray, List.set_cons_zero, List.set_cons_succ]
                refine held_take 2 54 (v := ?v103) rfl rfl (by kernel_rfl) (by kernel_rfl) (by kernel_rfl) (fun _ _ _ h => h) hHeld (Or.inl ⟨by rfl, ?y103⟩) ?r103
                case y103 => intro w hSw; (try dsimp only at hSw); go_simp; (try with_reducible rfl)
                simp only [List.setIfInBounds_toArray, List.set_cons_zero, List.set_cons_succ]
                refine held_take 3 55 (v := ?v104) rfl rfl (by kernel_rfl) (by kernel_rfl) (by kernel_rfl) (fun _ _ _ h => h) hHeld (Or.inl ⟨by rfl, ?y104⟩) ?r104
                case y104 => intro w hSw; (try dsimp only at hSw); go_simp; (try with_reducible rfl)
                simp only [List.setIfInBounds_toArray, List.set_cons_zero, List.set_cons_succ]
                refine held_take 4 56 (v := ?v105) rfl rfl (by kernel_rfl) (by kernel_rfl) (by kernel_rfl) (fun _ _ _ h => h) hHeld (Or.inl ⟨by rfl, ?y105⟩) ?r105
                case y105 => intro w hSw; (try dsimp only at hSw); go_simp; (try with_reducible rfl)
                simp only [List.setIfInBounds_toArray, List.set_cons_zero, List.set_cons_succ]
                refine held_take 5 57 (v := ?v106) rfl rfl (by kernel_rfl) (by kernel_rfl) (by kernel_rfl) (fun _ _ _ h => h) hHeld (Or.inl ⟨by rfl, ?y106⟩) ?r106
                case y106 => intro w hSw; (try dsimp only at hSw); go_simp; (try with_reducible rfl)
                simp only [List.setIfInBounds_toArray, List.set_cons_zero, List.set_cons_succ]
                refine wpAnyH_ready (rs := [6]) (by kernel_rfl) (by simp) ?_
                refine AllReadyH.cons rfl (fun K hK => ?_) AllReadyH.nil
                go_simp
                refine hK.out _ _ trivial (fun _ => ?_)
                clear hK K
                (try simp only [Act.put, List.setIfInBounds_toArray, List.set_cons_zero, List.set_cons_succ])
                refine wpAnyH_ready (rs := [7]) (by kernel_rfl) (by simp) ?_
                refine AllReadyH.cons rfl (fun K hK => ?_) AllReadyH.nil
                go_simp
                (try rw [hnm])
                refine (sr_put (HD.out.below (w' := wr.drew) ⟨rfl, rfl, rfl, Nat.le_refl _, fun _ _ => rfl⟩) nC k _ rfl (by decide) hk127 (by rw [HPUT.out]; exact three_few HT2.out HI1.out) (by rw [HPUT.out]; exact three_used HT2.out HBIG.out)).mono ?_
                rintro e w3 ⟨rfl, d3⟩
                refine hK.out _ _ trivial (fun _ => ?_)
                clear hK K
                (try simp only [Act.put, List.setIfInBounds_toArray, List.set_cons_zero, List.set_cons_succ])
                refine wpAnyH_ready (rs := [8]) (by kernel_rfl) (by simp) ?_
                refine AllReadyH.cons rfl (fun K hK => ?_) AllReadyH.nil
                go_simp
                refine hK.out _ _ trivial (fun _ => ?_)
                clear hK K hHeld
                (try simp only [Act.put, List.setIfInBounds_toArray, List.set_cons_zero, List.set_cons_succ])
                refine wpAnyH_done (by kernel_rfl) ?_ _
                have hw1 := HW1.out
                have hw2 := HW2.out
                have hw3 := HW3.out
                have hw4 := HW4.out
                have hw5 := HW5.out
                have hfd := HFD.out
                rw [fit_c] at hfd
                clear HW1 HW2 HW3 HW4 HW5 HFD
                rw [HPUT.out] at d3 ⊢
                dsimp only at d3 ⊢
                obtain ⟨f0, f1, f2, fz⟩ := d3.cells
                dsimp only at f0 f1 f2
                have D3 := Lib.hid d3
                clear d3 fz
                go_wp2_with fail
                go_quiet (fail)
                have hdq : ∀ m, SR w (w3.drewN m) p q a0 l (s0, s1, s2) 43 := fun m => D3.out.below (below_drewN (Below.refl _ _) m)
                generalize hW4 : w3.drewN _ = w4
                have d4 : SR w w4 p q a0 l (s0, s1, s2) 43 := by rw [← hW4]; exact hdq _
                have DG := Lib.hid d4
                clear d4 hdq hW4 f0 f1 f2 D3
                go_wp2_with (first | (go_at_call 15; refine (HNUM.out _ _).mono ?_; rintro e w' ⟨rfl, rfl⟩))
                (try rw [hnm])
                refine (sr_get DG.out nC (by decide)).mono ?_
                rintro e w5 ⟨B, c, rfl, d5⟩
                have D5 := Lib.hid d5
                obtain ⟨g0, g1, g2, _⟩ := d5.cells
                dsimp only at g0 g1 g2
                clear d5 DG
                rcases getM_of (l := l) v_C with ⟨he, hle⟩ | ⟨he, hle⟩
                · rw [he, hle, HT2.out.c]
                  dsimp only
                  have hq1 : (((s2 : Nat) : Int) != ((s2 : Nat) : Int)) = false := by simp
                  go_wp2_with (first | (go_at_call 15; refine (HNUM.out _ _).mono ?_; rintro e w' ⟨rfl, rfl⟩))
                  go_roundw
                  case rel => exact ⟨i + 1, (s0, s1, s2), _, by go_num, hlt, D5.out, HT2.out⟩
                  case measure => simp [intOf]; omega
                · rw [he]
                  rw [HT2.out.c] at hle
                  dsimp only at hle
                  have hz := cast_0 hle
                  go_wp2_with (first | (go_at_call 15; refine (HNUM.out _ _).mono ?_; rintro e w' ⟨rfl, rfl⟩))
                  go_roundw
                  case rel => exact ⟨i + 1, (s0, s1, s2), _, by go_num, hlt, D5.out, HT2.out⟩
                  case measure => simp [intOf]; omega
          · obtain rfl : i = zs.length := by omega
            go_wp2
            go_ret
            exact ⟨rfl, HD.out.since⟩

set_option maxRecDepth 100000 in
theorem lifted (os : Os) (started : os.Started) (H : Type) (enc : TypeId × Value → H) :
    ReturnsInHanded {} Tryd.checked os 5 .any (fun w args => (Rows.storeRoomSpec.pre enc Tryd.prog Tryd.f5 [] false w args ∧ laidMetH Tryd.prog laid1 w) ∧ sizedMet enc Tryd.prog Tryd.f5 (OpenSpec.ofChange Rows.storeRoomSpec) false w args) (Rows.storeRoomSpec.post enc Tryd.prog Tryd.f5 false true false false) := by
  refine returnsInHanded_of_change_and (C := Tryd.checked) (X := fun w _ => laidMetH Tryd.prog laid1 w) (fun _ _ _ hh h => h.of_heap hh) own started (by kernel_rfl) Tryd.func5
    (ChangeSpec.witness_shaped (enc := enc) (C := Tryd.checked) (os := os) (X := fun w _ => laidMetH Tryd.prog laid1 w) false (World.laidAll Tryd.prog os laid1) #[.int .i64 0, .slice none 0 0] 8 (World.laidAll_os _ _ _) (World.shaped_of_ZipB (by kernel_rfl) (by kernel_rfl)) (by kernel_rfl) (by kernel_rfl) (by kernel_rfl) (door_met os _)) ?_
  intro W base args ds gs before hval0 hW _ _ hL _
  have hval : ∀ (j : Nat) t v, Tryd.f5.params[j]? = some t → args[j]? = some v → Value.okWide Tryd.prog W .any base t v := hval0
  have hW' := hW
  obtain ⟨p, q, hA0, hV, rfl, hfz, hnd⟩ := hW
  have hA : DataW.TrodAll enc Tryd.prog W 0 (fun _ => true) true Tryd.f5.params.toList args.toList ds p := hA0
  rw [Tryd.params5] at hA hval
  obtain ⟨v0, vs0, d0, ds0, p0, q0, hargs, rfl, rfl, h0, r0⟩ := trodAll_cons hA
  obtain ⟨v1, vs1, d1, ds1, p1, q1, rfl, rfl, rfl, h1, r1⟩ := trodAll_cons r0
  obtain ⟨rfl, rfl, rfl⟩ := trodAll_nil r1
  obtain rfl : args = #[v0, v1] := by cases args; simp_all
  obtain ⟨rfl, rfl⟩ := trodVars_none hV
  obtain ⟨a0, rfl, rfl, rfl, w0⟩ := open_int Tryd.underlying3 (hval 0 3 v0 rfl rfl) h0
  obtain ⟨a1, len1, cap1, rfl⟩ := okWide_slice Tryd.underlying33 (hval 1 33 v1 rfl rfl)
  have k1 := h1
  have lt1 : ∀ x ∈ p1, x.block < W.heap.size := by obtain ⟨m, hm⟩ := k1; exact DataW.trod_lt m _ _ _ hm
  obtain ⟨z1, w1⟩ : ∃ zs, IsRow .i64 W a1 len1 cap1 zs := by
    obtain ⟨fuel, hf⟩ := h1
    rcases open_ints Tryd.underlying33 Tryd.underlying3 (by kernel_rfl) hf with ⟨hcs, _⟩ | ⟨x, l, c, zs, hcs, _, hl, hm, hz, _, hcell, hwz⟩
    · simp [Value.cells] at hcs
      obtain ⟨rfl, rfl, rfl⟩ := hcs
      exact ⟨[], .inl ⟨rfl, rfl, rfl, rfl⟩⟩
    · simp [Value.cells] at hcs
      obtain ⟨rfl, rfl, rfl⟩ := hcs
      exact ⟨zs, .inr ⟨_, rfl, hl, hm, by simpa using hz, hcell, hwz⟩⟩
  clear hA0 hval0
  refine (walk a0 a1 len1 cap1 z1 W (of_laid hL) w0 w1).mono fun e W' ⟨he, bel⟩ => ?_
  subst he
  exact ⟨_, rfl, _, _, _, [], _, [], hW', trodAll_mk1 (shut_bool Tryd.underlying4 _), (trodAll_cons_mk (shut_int Tryd.underlying3 w0) (trodAll_cons_mk (Below.trod laidOut (by kernel_rfl) (of_decide_eq_true (by kernel_rfl)) k1 bel lt1) trodAll_mk0)), rfl, bel.frame _, fun h => by cases h⟩

theorem over : Rows.storeRoomRow.holds Tryd.pinned (OpenSpec.ofChange Rows.storeRoomSpec) :=
  OpenClaim.holds_of_wide 5 Tryd.f5 rfl rfl rfl rfl rfl rfl rfl ⟨rfl, rfl, rfl, rfl, rfl⟩ rfl rfl rfl rfl rfl (by kernel_rfl) Tryd.func5 (by kernel_rfl)
    (of_decide_eq_true (by kernel_rfl)) (by unfold Func.isWrapper; first | (rw [if_pos (by decide +kernel)]; kernel_rfl) | (rw [if_neg (by decide +kernel)]; exact ⟨rfl, rfl⟩))
    (fun os started H enc _ => lifted os started H enc)

theorem proved : Rows.StoreRoomCardSaid :=
  Claim7.holds_tied_plain_at .later [] [.data, .pinned] true (true, "3e3a31de3dccd35ec0ceaf0a4afc31059781e758d50b02b1e4f35fcf7cef0ead") true
    over (fun _ h => by cases h) (by kernel_rfl) (fun _ h => by cases h) storeRoom_row_tie rfl ⟨rfl, rfl⟩ (by kernel_rfl) rfl
    (fun f fn hf hfn => by
      obtain rfl : f = 5 := Option.some.inj ((show Tryd.prog.funcNamed "cooperage/cooperagelaw7.StoreRoom" = some 5 by kernel_rfl).symm.trans hf) |>.symm
      obtain rfl : fn = Tryd.f5 := (Option.some.inj (Tryd.func5.symm.trans hfn)).symm
      exact ⟨by kernel_rfl, fun j t ht => by
        rw [Tryd.params5] at ht
        have hm : t ∈ [3, 33] := by simpa using Array.mem_of_getElem? ht
        have hall : ([3, 33].all fun u => !Tryd.prog.wantsStandIn u) = true := by kernel_rfl
        exact (show Tryd.prog.wantsStandIn t = false by simpa using List.all_eq_true.1 hall t hm)⟩)
    (by kernel_rfl)
#print axioms proved
end Go.Proofs.YtfbdmagonjjjoaaDoor.storeRoom
