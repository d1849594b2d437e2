/- Proved: for every two lists of bytes a and b and every number keep, DiskSynced(a, b, keep) returns true: what was appended and synced is there behind every crash, and of what was appended behind it and not synced just the first bytes are, as many as keep says (none below 0, all above their number); a second crash takes nothing (of lists of at most 300 bytes each; of longer ones it returns what the example says). Conditions: none on the input; the two tables unicode/utf8.first and unicode/utf8.acceptRanges start as the program lays them (the card ties them; the first is pinned). -/
import Derived.Test.YtkohjkjjkkkpoaaDoorRows
import Derived.WalkKit
import Derived.ProofKit
import Derived.OpenShut
import Derived.ShutString
import Derived.ChangeOld
import Derived.Below
import Derived.LaidMore
import Derived.Stop.Joined
import Derived.SevenTiedAt
import Derived.Lay
import Derived.Deep.QuietTactic
import Derived.BigQuiet
import Derived.Test.YtkohjkjjkkkpoaaDoorCards
import Derived.Test.YtkohjkjjkkkpoaaDoorTie
import Derived.Test.YtkohjkjjkkkpoaaDoorCame
import Derived.Test.YtkohjkjjkkkpoaaDoorDAlive
namespace Go.Proofs.YtkohjkjjkkkpoaaDoor.diskSynced
open Go.ChangeShapes Go.WideShapes Go.ChangeAt Go.RowKit
open Go.ChangeMaps (open_string shut_string)
set_option linter.unusedVariables false

theorem own : ownKnob Tryd.prog.godebug = none := by kernel_rfl
theorem laidOut : laidOutB Tryd.prog = true := by kernel_rfl

/-- WHAT THE WALK IS TOLD OF A SLICE OF INTEGERS THAT CAME IN: it is nil; or it leads to a row of 'cap' cells, the numbers 'zs' (the first 'len' are its elements, the rest its spare room), each fitting its kind. -/
def IsRow (k : IntKind) (w : World) (a : Option Addr) (len cap : Nat) (zs : List Int) : Prop :=
  (a = none ∧ len = 0 ∧ cap = 0 ∧ zs = []) ∨
  ∃ x, a = some x ∧ len ≤ cap ∧ cap ≤ maxLen ∧ zs.length = cap ∧ (∀ i, i < zs.length → w.cell? (x.add i) = some (.int k (zs.getD i 0))) ∧ ∀ n ∈ zs, (Lit.int k n).wf = true

set_option maxHeartbeats 3200000 in
set_option maxRecDepth 4000 in
theorem walk (a0 : Option Addr) (len0 cap0 : Nat) (z0 : List Int) (a1 : Option Addr) (len1 cap1 : Nat) (z1 : List Int) (a2 : Int) (w : World) (hh : Tabs w) (w0 : IsRow .u8 w a0 len0 cap0 z0) (w1 : IsRow .u8 w a1 len1 cap1 z1) (w2 : (Lit.int .i64 a2).wf = true) :
    Calls Tryd.prog 4 #[.slice a0 len0 cap0, .slice a1 len1 cap1, .int .i64 a2] w fun e w' => e = .returned (.bool true) ∧ Below w.heap.size w w' := by
  obtain ⟨xs, rfl, hc, hm, hl, hwf, hn⟩ := row_came w0
  obtain ⟨ys, rfl, hc', hm', hl', hwf', hn'⟩ := row_came w1
  have hby : IsBytes xs := fun n hn => bounds_u8 (hwf n hn)
  have hby' : IsBytes ys := fun n hn => bounds_u8 (hwf' n hn)
  obtain ⟨hk0, hk1⟩ := bounds_i64 w2
  clear w1 hwf hwf' w0 w2
  by_cases h300 : 300 < xs.length
  · have h1 : (300 : Int) < (xs.length : Int) := by omega
    go_enter Tryd.func4, Tryd.ntmps4
    go_wp2_with fail
    refine (alive_any w hh).mono ?_
    rintro e w1 ⟨rfl, hbel⟩
    go_wp2
    go_ret
    exact ⟨rfl, hbel⟩
  · have h1 : ¬ (300 : Int) < (xs.length : Int) := by omega
    by_cases h300' : 300 < ys.length
    · have h1' : (300 : Int) < (ys.length : Int) := by omega
      go_enter Tryd.func4, Tryd.ntmps4
      go_wp2_with fail
      refine (alive_any w hh).mono ?_
      rintro e w1 ⟨rfl, hbel⟩
      go_wp2
      go_ret
      exact ⟨rfl, hbel⟩
    · have h1' : ¬ (300 : Int) < (ys.length : Int) := by omega
      obtain ⟨m, hm1, hml⟩ : ∃ m : Nat, (min (max a2 0) (ys.length : Int)).toNat = m ∧ m ≤ ys.length := ⟨_, rfl, by omega⟩
      have e1 : appendM 1000 [] ⟨#[102]⟩ xs = ([⟨⟨#[102]⟩, xs, xs.length⟩], 0) := append_none f_valid (by omega)
      have e2 : syncM [⟨⟨#[102]⟩, xs, xs.length⟩] ⟨#[102]⟩ = ([⟨⟨#[102]⟩, xs, 0⟩], 0) := sync_self f_valid
      have e3 : appendM 1000 [⟨⟨#[102]⟩, xs, 0⟩] ⟨#[102]⟩ ys = ([⟨⟨#[102]⟩, xs ++ ys, 0 + ys.length⟩], 0) := append_self f_valid (by omega)
      have e4 : getM [⟨⟨#[102]⟩, xs ++ ys, 0 + ys.length⟩] ⟨#[102]⟩ = (⟨⟨#[102]⟩, xs ++ ys, 0 + ys.length⟩, 0) := get_self ⟨⟨#[102]⟩, xs ++ ys, 0 + ys.length⟩ [] f_valid
      have e5 : crashM [⟨⟨#[102]⟩, xs ++ ys, 0 + ys.length⟩] [a2] = [⟨⟨#[102]⟩, xs ++ ys.take m, 0⟩] := by
        rw [crash_one a2 (by rw [List.length_append]; omega)]
        congr 2
        rw [Nat.zero_add, hm1, List.length_append, show xs.length + ys.length - ys.length + m = xs.length + m by omega, List.take_append, List.take_of_length_le (by omega), show xs.length + m - xs.length = m by omega]
      have e6 : getM [⟨⟨#[102]⟩, xs ++ ys.take m, 0⟩] ⟨#[102]⟩ = (⟨⟨#[102]⟩, xs ++ ys.take m, 0⟩, 0) := get_self ⟨⟨#[102]⟩, xs ++ ys.take m, 0⟩ [] f_valid
      have e7 : crashM [⟨⟨#[102]⟩, xs ++ ys.take m, 0⟩] [0, 0] = [⟨⟨#[102]⟩, xs ++ ys.take m, 0⟩] := crash_synced _
      have hcat := text_append xs (ys.take m)
      have hb1 : usedM [⟨⟨#[102]⟩, xs, xs.length⟩] ≤ 549755813888 := by simp [usedM]; omega
      have hb2 : usedM [⟨⟨#[102]⟩, xs, 0⟩] ≤ 549755813888 := by simp [usedM]; omega
      have hb3 : usedM [⟨⟨#[102]⟩, xs ++ ys, 0 + ys.length⟩] ≤ 549755813888 := by simp [usedM]; omega
      have hb5 : usedM [⟨⟨#[102]⟩, xs ++ ys.take m, 0⟩] ≤ 549755813888 := by simp [usedM]; omega
      have htl : (ys.take m).length = m := by rw [List.length_take]; omega
      obtain ⟨zs, hzs⟩ : ∃ zs, xs ++ ys.take m = zs := ⟨_, rfl⟩
      rw [hzs] at e5 e6 e7 hb5 hcat
      obtain ⟨us, hus⟩ : ∃ us, xs ++ ys = us := ⟨_, rfl⟩
      rw [hus] at e3 e4 e5 hb3
      rw [Nat.zero_add] at e3 e4 e5 hb3
      have E1 := Lib.hid e1
      have E2 := Lib.hid e2
      have E3 := Lib.hid e3
      have E4 := Lib.hid e4
      have E5 := Lib.hid e5
      have E6 := Lib.hid e6
      have E7 := Lib.hid e7
      have B1 := Lib.hid hb1
      have B2 := Lib.hid hb2
      have B3 := Lib.hid hb3
      have B5 := Lib.hid hb5
      have HN := Lib.hid hn
      have HN' := Lib.hid hn'
      have HTL := Lib.hid htl
      have HCAT := Lib.hid hcat
      have HM1 := Lib.hid hm1
      have HBY := Lib.hid hby
      have HBY' := Lib.hid hby'
      have HX := Lib.hid (show xs.length ≤ 300 by omega)
      have HY := Lib.hid (show ys.length ≤ 300 by omega)
      have HL := Lib.hid hl
      have HL' := Lib.hid hl'
      have HC := Lib.hid hc
      have HC' := Lib.hid hc'
      clear e1 e2 e3 e4 e5 e6 e7 hb1 hb2 hb3 hb5 hn hn' htl hcat hm1 hby hby' hzs hus h300 h300' hl hl' hc hc'
      go_enter Tryd.func4, Tryd.ntmps4
      go_wp2_with fail
      refine (alive_any w hh).mono ?_
      rintro e w1 ⟨rfl, hbel⟩
      have HN1 := Lib.hid (dw_new w w1 hbel hh 1000 (by omega) (by omega))
      clear hbel
      go_wp2_with fail
      clear h1 h1'
      refine HN1.out.mono ?_
      rintro e w2 ⟨rfl, d2⟩
      obtain ⟨p, hp⟩ : ∃ p, w1.heap.size = p := ⟨_, rfl⟩
      rw [hp] at d2 ⊢
      have D2 := Lib.hid d2
      clear hp d2 HN1
      go_wp2_with fail
      refine (dw_append D2.out ⟨#[102]⟩ a0 xs cap0 (by decide) (HL.out.below D2.out.since) HC.out HN.out HBY.out (by have := HX.out; omega) (by rw [E1.out]; simp) (by rw [E1.out]; exact B1.out)).mono ?_
      rintro e w3 ⟨rfl, d3⟩
      rw [E1.out] at d3 ⊢
      have D3 := Lib.hid d3
      clear d3 D2 E1
      go_wp2_with fail
      refine (dw_sync D3.out ⟨#[102]⟩ (by decide) (by rw [E2.out]; simp) (by rw [E2.out]; exact B2.out)).mono ?_
      rintro e w4 ⟨rfl, d4⟩
      rw [E2.out] at d4 ⊢
      have D4 := Lib.hid d4
      clear d4 D3 E2
      go_wp2_with fail
      refine (dw_append D4.out ⟨#[102]⟩ a1 ys cap1 (by decide) (HL'.out.below D4.out.since) HC'.out HN'.out HBY'.out (by have := HY.out; omega) (by rw [E3.out]; simp) (by rw [E3.out]; exact B3.out)).mono ?_
      rintro e w5 ⟨rfl, d5⟩
      rw [E3.out] at d5 ⊢
      have D5 := Lib.hid d5
      clear d5 D4 E3
      go_wp2_with fail
      refine (dw_loose D5.out ⟨#[102]⟩ (by decide)).mono ?_
      rintro e w6 ⟨rfl, _, d6⟩
      rw [E4.out]
      have D6 := Lib.hid d6
      clear d6 D5 E4
      go_wp2_with fail
      refine (dw_crash_new D6.out [a2] 1 rfl _ rfl (by simp [maxLen]) (by rw [E5.out]; simp) (by rw [E5.out]; exact B5.out)).mono ?_
      rintro e w7 ⟨rfl, d7⟩
      rw [E5.out] at d7
      have D7 := Lib.hid d7
      clear d7 D6 E5
      go_wp2_with fail
      refine (dx_read D7.out ⟨#[102]⟩ (by decide)).mono ?_
      rintro e w8 ⟨A8, c8, rfl, _, _, d8⟩
      rw [E6.out] at d8 ⊢
      dsimp only at d8 ⊢
      have D8 := Lib.hid d8
      clear d8 D7
      by_cases hkn : a2 < 0
      · obtain rfl : m = 0 := by have := HM1.out; omega
        have hz0 : ¬ (ys.length : Int) < 0 := by omega
        have hkd : decide (a2 < 0) = true := decide_eq_true hkn
        clear hk0 hk1
        go_wp2_with fail
        refine (dx_crash_new D8.out [0, 0] 2 rfl _ rfl (by simp [maxLen]) (by rw [E7.out]; simp) (by rw [E7.out]; exact B5.out)).mono ?_
        rintro e w9 ⟨rfl, d9⟩
        rw [E7.out] at d9
        have D9 := Lib.hid d9
        clear d9 D8
        go_wp2_with fail
        refine (dw_read D9.out.dw ⟨#[102]⟩ (by decide)).mono ?_
        rintro e w10 ⟨v10, rfl, ho10, hb10, d10⟩
        rw [E6.out] at ho10 ⊢
        dsimp only at ho10 ⊢
        obtain ⟨A10, c10, rfl, _, _, hl10⟩ := ho10.parts
        have HB := Lib.hid d10.since
        have hbq := d10.since
        have kz : ∀ n, (convert 31 9 (.slice A8 zs.length c8)).run Tryd.prog (w10.drewN n) = .ok (.string (textOf zs)) (w10.drewN n) := fun n => conv_bytes (P := Tryd.prog) (xs := zs) 31 9 5 Tryd.underlying31 Tryd.underlying5 Tryd.underlying9 (((D9.out.below hb10).lies).drewN n) c8
        have kq : ∀ n, (convert 31 9 (.slice A10 zs.length c10)).run Tryd.prog (w10.drewN n) = .ok (.string (textOf zs)) (w10.drewN n) := fun n => conv_bytes (P := Tryd.prog) (xs := zs) 31 9 5 Tryd.underlying31 Tryd.underlying5 Tryd.underlying9 (hl10.drewN n) c10
        have kx : ∀ n, (convert 31 9 (.slice a0 xs.length cap0)).run Tryd.prog (w10.drewN n) = .ok (.string (textOf xs)) (w10.drewN n) := fun n => conv_bytes (P := Tryd.prog) (xs := xs) 31 9 5 Tryd.underlying31 Tryd.underlying5 Tryd.underlying9 ((HL.out.below hbq).drewN n) cap0
        have ky : ∀ n, (convert 31 9 (.slice a1 0 cap1)).run Tryd.prog (w10.drewN n) = .ok (.string (textOf (ys.take 0))) (w10.drewN n) := fun n => by
          have := conv_bytes (P := Tryd.prog) (xs := ys.take 0) 31 9 5 Tryd.underlying31 Tryd.underlying5 Tryd.underlying9 (((HL'.out.below hbq).drewN n).take 0) cap1
          rw [HTL.out] at this
          exact this
        have hcat := HCAT.out
        have hmc : 0 ≤ cap1 := Nat.le_trans hml HC'.out
        have hsx : (textOf xs).size ≤ 300 := by rw [textOf_size]; exact HX.out
        have hsy : (textOf (ys.take 0)).size ≤ 300 := by rw [textOf_size, HTL.out]; exact Nat.le_trans hml HY.out
        obtain ⟨TX, hTX⟩ : ∃ TX, textOf xs = TX := ⟨_, rfl⟩
        obtain ⟨TY, hTY⟩ : ∃ TY, textOf (ys.take 0) = TY := ⟨_, rfl⟩
        obtain ⟨TZ, hTZ⟩ : ∃ TZ, textOf zs = TZ := ⟨_, rfl⟩
        rw [hTX, hTY, hTZ] at hcat
        rw [hTX] at kx hsx
        rw [hTY] at ky hsy
        have hadd : ∀ W : World, (Op.stringOp .add TX TY).run Tryd.prog W = .ok (.string TZ) W := fun W => by rw [run_string_add_sum W TX TY (by omega), hcat]
        clear hsx hsy
        rw [hTZ] at kz kq
        have hqz : (TZ.toList == TZ.toList) = true := by simp
        have hqy : ((ys.length : Int) == (ys.length : Int)) = true := by simp
        have HNUM := Lib.hid (num_any 0)
        clear hTX hTY hTZ D9 d10 ho10 hl10 hb10 hbq HL HL' HC HC' HBY HBY' HTL HCAT HX HY HN HN'
        go_wp2_with fail
        go_quiet (first | (go_at_call 20; refine Calls.quiet_of_same (HNUM.out _)))
        go_wp2
        go_ret
        exact ⟨rfl, below_drewN HB.out _⟩
      · by_cases hkg : (ys.length : Int) < a2
        · obtain rfl : m = ys.length := by have := HM1.out; omega
          clear hk0 hk1
          go_wp2_with fail
          refine (dx_crash_new D8.out [0, 0] 2 rfl _ rfl (by simp [maxLen]) (by rw [E7.out]; simp) (by rw [E7.out]; exact B5.out)).mono ?_
          rintro e w9 ⟨rfl, d9⟩
          rw [E7.out] at d9
          have D9 := Lib.hid d9
          clear d9 D8
          go_wp2_with fail
          refine (dw_read D9.out.dw ⟨#[102]⟩ (by decide)).mono ?_
          rintro e w10 ⟨v10, rfl, ho10, hb10, d10⟩
          rw [E6.out] at ho10 ⊢
          dsimp only at ho10 ⊢
          obtain ⟨A10, c10, rfl, _, _, hl10⟩ := ho10.parts
          have HB := Lib.hid d10.since
          have hbq := d10.since
          have kz : ∀ n, (convert 31 9 (.slice A8 zs.length c8)).run Tryd.prog (w10.drewN n) = .ok (.string (textOf zs)) (w10.drewN n) := fun n => conv_bytes (P := Tryd.prog) (xs := zs) 31 9 5 Tryd.underlying31 Tryd.underlying5 Tryd.underlying9 (((D9.out.below hb10).lies).drewN n) c8
          have kq : ∀ n, (convert 31 9 (.slice A10 zs.length c10)).run Tryd.prog (w10.drewN n) = .ok (.string (textOf zs)) (w10.drewN n) := fun n => conv_bytes (P := Tryd.prog) (xs := zs) 31 9 5 Tryd.underlying31 Tryd.underlying5 Tryd.underlying9 (hl10.drewN n) c10
          have kx : ∀ n, (convert 31 9 (.slice a0 xs.length cap0)).run Tryd.prog (w10.drewN n) = .ok (.string (textOf xs)) (w10.drewN n) := fun n => conv_bytes (P := Tryd.prog) (xs := xs) 31 9 5 Tryd.underlying31 Tryd.underlying5 Tryd.underlying9 ((HL.out.below hbq).drewN n) cap0
          have ky : ∀ n, (convert 31 9 (.slice a1 ys.length cap1)).run Tryd.prog (w10.drewN n) = .ok (.string (textOf (ys.take ys.length))) (w10.drewN n) := fun n => by
            have := conv_bytes (P := Tryd.prog) (xs := ys.take ys.length) 31 9 5 Tryd.underlying31 Tryd.underlying5 Tryd.underlying9 (((HL'.out.below hbq).drewN n).take ys.length) cap1
            rw [HTL.out] at this
            exact this
          have hcat := HCAT.out
          have hmc : ys.length ≤ cap1 := Nat.le_trans hml HC'.out
          have hsx : (textOf xs).size ≤ 300 := by rw [textOf_size]; exact HX.out
          have hsy : (textOf (ys.take ys.length)).size ≤ 300 := by rw [textOf_size, HTL.out]; exact Nat.le_trans hml HY.out
          obtain ⟨TX, hTX⟩ : ∃ TX, textOf xs = TX := ⟨_, rfl⟩
          obtain ⟨TY, hTY⟩ : ∃ TY, textOf (ys.take ys.length) = TY := ⟨_, rfl⟩
          obtain ⟨TZ, hTZ⟩ : ∃ TZ, textOf zs = TZ := ⟨_, rfl⟩
          rw [hTX, hTY, hTZ] at hcat
          rw [hTX] at kx hsx
          rw [hTY] at ky hsy
          have hadd : ∀ W : World, (Op.stringOp .add TX TY).run Tryd.prog W = .ok (.string TZ) W := fun W => by rw [run_string_add_sum W TX TY (by omega), hcat]
          clear hsx hsy
          rw [hTZ] at kz kq
          have hqz : (TZ.toList == TZ.toList) = true := by simp
          have hqy : ((ys.length : Int) == (ys.length : Int)) = true := by simp
          have HNUM := Lib.hid (num_any 0)
          clear hTX hTY hTZ D9 d10 ho10 hl10 hb10 hbq HL HL' HC HC' HBY HBY' HTL HCAT HX HY HN HN'
          go_wp2_with fail
          go_quiet (first | (go_at_call 20; refine Calls.quiet_of_same (HNUM.out _)))
          go_wp2
          go_ret
          exact ⟨rfl, below_drewN HB.out _⟩
        · obtain rfl : a2 = (m : Int) := by have := HM1.out; omega
          clear hk0 hk1
          go_wp2_with fail
          refine (dx_crash_new D8.out [0, 0] 2 rfl _ rfl (by simp [maxLen]) (by rw [E7.out]; simp) (by rw [E7.out]; exact B5.out)).mono ?_
          rintro e w9 ⟨rfl, d9⟩
          rw [E7.out] at d9
          have D9 := Lib.hid d9
          clear d9 D8
          go_wp2_with fail
          refine (dw_read D9.out.dw ⟨#[102]⟩ (by decide)).mono ?_
          rintro e w10 ⟨v10, rfl, ho10, hb10, d10⟩
          rw [E6.out] at ho10 ⊢
          dsimp only at ho10 ⊢
          obtain ⟨A10, c10, rfl, _, _, hl10⟩ := ho10.parts
          have HB := Lib.hid d10.since
          have hbq := d10.since
          have kz : ∀ n, (convert 31 9 (.slice A8 zs.length c8)).run Tryd.prog (w10.drewN n) = .ok (.string (textOf zs)) (w10.drewN n) := fun n => conv_bytes (P := Tryd.prog) (xs := zs) 31 9 5 Tryd.underlying31 Tryd.underlying5 Tryd.underlying9 (((D9.out.below hb10).lies).drewN n) c8
          have kq : ∀ n, (convert 31 9 (.slice A10 zs.length c10)).run Tryd.prog (w10.drewN n) = .ok (.string (textOf zs)) (w10.drewN n) := fun n => conv_bytes (P := Tryd.prog) (xs := zs) 31 9 5 Tryd.underlying31 Tryd.underlying5 Tryd.underlying9 (hl10.drewN n) c10
          have kx : ∀ n, (convert 31 9 (.slice a0 xs.length cap0)).run Tryd.prog (w10.drewN n) = .ok (.string (textOf xs)) (w10.drewN n) := fun n => conv_bytes (P := Tryd.prog) (xs := xs) 31 9 5 Tryd.underlying31 Tryd.underlying5 Tryd.underlying9 ((HL.out.below hbq).drewN n) cap0
          have ky : ∀ n, (convert 31 9 (.slice a1 m cap1)).run Tryd.prog (w10.drewN n) = .ok (.string (textOf (ys.take m))) (w10.drewN n) := fun n => by
            have := conv_bytes (P := Tryd.prog) (xs := ys.take m) 31 9 5 Tryd.underlying31 Tryd.underlying5 Tryd.underlying9 (((HL'.out.below hbq).drewN n).take m) cap1
            rw [HTL.out] at this
            exact this
          have hcat := HCAT.out
          have hmc : m ≤ cap1 := Nat.le_trans hml HC'.out
          have hsx : (textOf xs).size ≤ 300 := by rw [textOf_size]; exact HX.out
          have hsy : (textOf (ys.take m)).size ≤ 300 := by rw [textOf_size, HTL.out]; exact Nat.le_trans hml HY.out
          obtain ⟨TX, hTX⟩ : ∃ TX, textOf xs = TX := ⟨_, rfl⟩
          obtain ⟨TY, hTY⟩ : ∃ TY, textOf (ys.take m) = TY := ⟨_, rfl⟩
          obtain ⟨TZ, hTZ⟩ : ∃ TZ, textOf zs = TZ := ⟨_, rfl⟩
          rw [hTX, hTY, hTZ] at hcat
          rw [hTX] at kx hsx
          rw [hTY] at ky hsy
          have hadd : ∀ W : World, (Op.stringOp .add TX TY).run Tryd.prog W = .ok (.string TZ) W := fun W => by rw [run_string_add_sum W TX TY (by omega), hcat]
          clear hsx hsy
          rw [hTZ] at kz kq
          have hqz : (TZ.toList == TZ.toList) = true := by simp
          have hqy : ((ys.length : Int) == (ys.length : Int)) = true := by simp
          have HNUM := Lib.hid (num_any 0)
          clear hTX hTY hTZ D9 d10 ho10 hl10 hb10 hbq HL HL' HC HC' HBY HBY' HTL HCAT HX HY HN HN'
          go_wp2_with fail
          go_quiet (first | (go_at_call 20; refine Calls.quiet_of_same (HNUM.out _)))
          go_wp2
          go_ret
          exact ⟨rfl, below_drewN HB.out _⟩

set_option maxRecDepth 100000 in
theorem lifted (os : Os) (started : os.Started) (H : Type) (enc : TypeId × Value → H) :
    ReturnsInHanded {} Tryd.checked os 4 .any (fun w args => (Rows.diskSyncedSpec.pre enc Tryd.prog Tryd.f4 [] false w args ∧ laidMetH Tryd.prog laid1 w) ∧ sizedMet enc Tryd.prog Tryd.f4 (OpenSpec.ofChange Rows.diskSyncedSpec) false w args) (Rows.diskSyncedSpec.post enc Tryd.prog Tryd.f4 false true false false) := by
  refine returnsInHanded_of_change_and (C := Tryd.checked) (X := fun w _ => laidMetH Tryd.prog laid1 w) (fun _ _ _ hh h => h.of_heap hh) own started (by kernel_rfl) Tryd.func4
    (ChangeSpec.witness_shaped (enc := enc) (C := Tryd.checked) (os := os) (X := fun w _ => laidMetH Tryd.prog laid1 w) false (World.laidAll Tryd.prog os laid1) #[.slice none 0 0, .slice none 0 0, .int .i64 0] 8 (World.laidAll_os _ _ _) (World.shaped_of_ZipB (by kernel_rfl) (by kernel_rfl)) (by kernel_rfl) (by kernel_rfl) (by kernel_rfl) (door_met os _)) ?_
  intro W base args ds gs before hval0 hW _ _ hL _
  have hval : ∀ (j : Nat) t v, Tryd.f4.params[j]? = some t → args[j]? = some v → Value.okWide Tryd.prog W .any base t v := hval0
  have hW' := hW
  obtain ⟨p, q, hA0, hV, rfl, hfz, hnd⟩ := hW
  have hA : DataW.TrodAll enc Tryd.prog W 0 (fun _ => true) true Tryd.f4.params.toList args.toList ds p := hA0
  rw [Tryd.params4] at hA hval
  obtain ⟨v0, vs0, d0, ds0, p0, q0, hargs, rfl, rfl, h0, r0⟩ := trodAll_cons hA
  obtain ⟨v1, vs1, d1, ds1, p1, q1, rfl, rfl, rfl, h1, r1⟩ := trodAll_cons r0
  obtain ⟨v2, vs2, d2, ds2, p2, q2, rfl, rfl, rfl, h2, r2⟩ := trodAll_cons r1
  obtain ⟨rfl, rfl, rfl⟩ := trodAll_nil r2
  obtain rfl : args = #[v0, v1, v2] := by cases args; simp_all
  obtain ⟨rfl, rfl⟩ := trodVars_none hV
  obtain ⟨a0, len0, cap0, rfl⟩ := okWide_slice Tryd.underlying31 (hval 0 31 v0 rfl rfl)
  have k0 := h0
  have lt0 : ∀ x ∈ p0, x.block < W.heap.size := by obtain ⟨m, hm⟩ := k0; exact DataW.trod_lt m _ _ _ hm
  obtain ⟨z0, w0⟩ : ∃ zs, IsRow .u8 W a0 len0 cap0 zs := by
    obtain ⟨fuel, hf⟩ := h0
    rcases open_ints Tryd.underlying31 Tryd.underlying5 (by kernel_rfl) hf with ⟨hcs, _⟩ | ⟨x, l, c, zs, hcs, _, hl, hm, hz, _, hcell, hwz⟩
    · simp [Value.cells] at hcs
      obtain ⟨rfl, rfl, rfl⟩ := hcs
      exact ⟨[], .inl ⟨rfl, rfl, rfl, rfl⟩⟩
    · simp [Value.cells] at hcs
      obtain ⟨rfl, rfl, rfl⟩ := hcs
      exact ⟨zs, .inr ⟨_, rfl, hl, hm, by simpa using hz, hcell, hwz⟩⟩
  obtain ⟨a1, len1, cap1, rfl⟩ := okWide_slice Tryd.underlying31 (hval 1 31 v1 rfl rfl)
  have k1 := h1
  have lt1 : ∀ x ∈ p1, x.block < W.heap.size := by obtain ⟨m, hm⟩ := k1; exact DataW.trod_lt m _ _ _ hm
  obtain ⟨z1, w1⟩ : ∃ zs, IsRow .u8 W a1 len1 cap1 zs := by
    obtain ⟨fuel, hf⟩ := h1
    rcases open_ints Tryd.underlying31 Tryd.underlying5 (by kernel_rfl) hf with ⟨hcs, _⟩ | ⟨x, l, c, zs, hcs, _, hl, hm, hz, _, hcell, hwz⟩
    · simp [Value.cells] at hcs
      obtain ⟨rfl, rfl, rfl⟩ := hcs
      exact ⟨[], .inl ⟨rfl, rfl, rfl, rfl⟩⟩
    · simp [Value.cells] at hcs
      obtain ⟨rfl, rfl, rfl⟩ := hcs
      exact ⟨zs, .inr ⟨_, rfl, hl, hm, by simpa using hz, hcell, hwz⟩⟩
  obtain ⟨a2, rfl, rfl, rfl, w2⟩ := open_int Tryd.underlying3 (hval 2 3 v2 rfl rfl) h2
  clear hA0 hval0
  refine (walk a0 len0 cap0 z0 a1 len1 cap1 z1 a2 W (of_laid hL) w0 w1 w2).mono fun e W' ⟨he, bel⟩ => ?_
  subst he
  exact ⟨_, rfl, _, _, _, [], _, [], hW', trodAll_mk1 (shut_bool Tryd.underlying4 _), (trodAll_cons_mk (Below.trod laidOut (by kernel_rfl) (of_decide_eq_true (by kernel_rfl)) k0 bel lt0) (trodAll_cons_mk (Below.trod laidOut (by kernel_rfl) (of_decide_eq_true (by kernel_rfl)) k1 bel lt1) (trodAll_cons_mk (shut_int Tryd.underlying3 w2) trodAll_mk0))), rfl, bel.frame _, fun h => by cases h⟩

theorem over : Rows.diskSyncedRow.holds Tryd.pinned (OpenSpec.ofChange Rows.diskSyncedSpec) :=
  OpenClaim.holds_of_wide 4 Tryd.f4 rfl rfl rfl rfl rfl rfl rfl ⟨rfl, rfl, rfl, rfl, rfl⟩ rfl rfl rfl rfl rfl (by kernel_rfl) Tryd.func4 (by kernel_rfl)
    (of_decide_eq_true (by kernel_rfl)) (by unfold Func.isWrapper; first | (rw [if_pos (by decide +kernel)]; kernel_rfl) | (rw [if_neg (by decide +kernel)]; exact ⟨rfl, rfl⟩))
    (fun os started H enc _ => lifted os started H enc)

theorem proved : Rows.DiskSyncedCardSaid :=
  Claim7.holds_tied_plain_at .later [] [.data, .pinned] true (true, "9f9c79e53b6b38d304d4d1d850643538cce8ad8e1741b03c0c24b6d5f3b3483f") false
    over (fun _ h => by cases h) (by kernel_rfl) (fun _ h => by cases h) diskSynced_row_tie rfl ⟨rfl, rfl⟩ (by kernel_rfl) rfl
    (fun f fn hf hfn => by
      obtain rfl : f = 4 := Option.some.inj ((show Tryd.prog.funcNamed "cooperage/cooperagelaw6.DiskSynced" = some 4 by kernel_rfl).symm.trans hf) |>.symm
      obtain rfl : fn = Tryd.f4 := (Option.some.inj (Tryd.func4.symm.trans hfn)).symm
      exact ⟨by kernel_rfl, fun j t ht => by
        rw [Tryd.params4] at ht
        have hm : t ∈ [31, 31, 3] := by simpa using Array.mem_of_getElem? ht
        have hall : ([31, 31, 3].all fun u => !Tryd.prog.wantsStandIn u) = true := by kernel_rfl
        exact (show Tryd.prog.wantsStandIn t = false by simpa using List.all_eq_true.1 hall t hm)⟩)
    (by kernel_rfl)
#print axioms proved
end Go.Proofs.YtkohjkjjkkkpoaaDoor.diskSynced
