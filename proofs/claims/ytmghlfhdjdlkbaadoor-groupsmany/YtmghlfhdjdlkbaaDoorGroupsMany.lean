/- Proved: for every two numbers n and at, GroupsMany(n, at) returns true. -/
import Derived.Test.YtmghlfhdjdlkbaaDoorRows
import Derived.WalkKit
import Derived.ProofKit
import Derived.OpenShut
import Derived.ShutString
import Derived.ChangeOld
import Derived.Below
import Derived.LaidMore
import Derived.Stop.Joined
import Derived.SevenTiedAt
import Derived.Lay
import Derived.Deep.DeepCutAuto
import Derived.Test.YtmghlfhdjdlkbaaDoorCards
import Derived.Test.YtmghlfhdjdlkbaaDoorTie
import Derived.Test.YtmghlfhdjdlkbaaDoorCame
import Derived.Test.YtmghlfhdjdlkbaaDoorGrpTrio
import Derived.Test.YtmghlfhdjdlkbaaDoorGrpNum
namespace Go.Proofs.YtmghlfhdjdlkbaaDoor.groupsMany
open Go.ChangeShapes Go.WideShapes Go.ChangeAt Go.RowKit
open Go.ChangeMaps (open_string shut_string)
set_option linter.unusedVariables false

theorem own : ownKnob Tryd.prog.godebug = none := by kernel_rfl
theorem laidOut : laidOutB Tryd.prog = true := by kernel_rfl

def IsRow (k : IntKind) (w : World) (a : Option Addr) (len cap : Nat) (zs : List Int) : Prop :=
  (a = none ∧ len = 0 ∧ cap = 0 ∧ zs = []) ∨
  ∃ x, a = some x ∧ len ≤ cap ∧ cap ≤ maxLen ∧ zs.length = cap ∧ (∀ i, i < zs.length → w.cell? (x.add i) = some (.int k (zs.getD i 0))) ∧ ∀ n ∈ zs, (Lit.int k n).wf = true

set_option maxHeartbeats 6400000 in
theorem walk (a0 : Int) (a1 : Int) (w : World) (hh : Tabs w) (w0 : (Lit.int .i64 a0).wf = true) (w1 : (Lit.int .i64 a1).wf = true) :
    Calls Tryd.prog 4 #[.int .i64 a0, .int .i64 a1] w fun e w' => e = .returned (.bool true) ∧ Below w.heap.size w w' := by
  have htz := gtab_zero
  have HAL := Lib.hid (alive12_any w hh)
  have HTT := Lib.hid hh
  have HNU := Lib.hid num12_any
  have hat := bounds_i64 w1
  have HAT := Lib.hid hat
  clear w0 w1 hh hat
  by_cases h1 : a0 < 1
  · have q1 : decide (a0 < 1) = true := decide_eq_true h1
    go_enter Tryd.func4, Tryd.ntmps4
    go_wp2_with fail
    refine HAL.out.mono ?_
    rintro e w2 ⟨rfl, hb2⟩
    go_wp2_with fail
    go_ret
    exact ⟨rfl, hb2⟩
  have q1 : decide (a0 < 1) = false := decide_eq_false h1
  by_cases h2 : 120 < a0
  · have q2 : decide ((120 : Int) < a0) = true := decide_eq_true h2
    go_enter Tryd.func4, Tryd.ntmps4
    go_wp2_with fail
    refine HAL.out.mono ?_
    rintro e w2 ⟨rfl, hb2⟩
    go_wp2_with fail
    go_ret
    exact ⟨rfl, hb2⟩
  have q2 : decide ((120 : Int) < a0) = false := decide_eq_false h2
  obtain ⟨n, rfl⟩ : ∃ n : Nat, a0 = (n : Int) := ⟨a0.toNat, by omega⟩
  have hn : n ≤ 120 := by omega
  have hn1 : 1 ≤ n := by omega
  clear h1 h2
  go_enter Tryd.func4, Tryd.ntmps4
  go_wp2_with fail
  refine HAL.out.mono ?_
  rintro e w2 ⟨rfl, hb2⟩
  have H0 := Lib.hid (SoloG.new w hb2)
  clear hb2 HAL q1 q2
  go_wp2_with fail
  generalize w2.heap.size = g at *
  generalize w2.alloc gtabO = w3 at *
  go_loopw [8] (fun iv wr => ∃ i : Nat, iv = .int .i64 i ∧ i ≤ n ∧ SoloG w wr g (rowsG i)) (fun iv _ => n - (intOf iv).toNat)
  case atStart => exact ⟨0, rfl, Nat.zero_le _, H0.out⟩
  case round =>
    obtain ⟨i, rfl, hi, hs⟩ := hrel
    have HS := Lib.hid hs
    clear hs
    by_cases hlt : i < n
    · have hi120 : i < 120 := by omega
      have j1 : decide ((i : Int) < (n : Int)) = true := decide_eq_true (by omega)
      have j2 : decide (i < n) = true := decide_eq_true hlt
      obtain ⟨r, hr⟩ : ∃ r, i % 20 = r := ⟨_, rfl⟩
      obtain ⟨d, hd⟩ : ∃ d, i / 20 = d := ⟨_, rfl⟩
      have hr20 : r < 20 := by omega
      have hd7 : d < 7 := by omega
      have r1 : (i : Int).tmod 20 = (r : Int) := by rw [Int.tmod_eq_emod_of_nonneg (by omega)]; omega
      have d1 : (i : Int).tdiv 20 = (d : Int) := by rw [Int.tdiv_eq_ediv_of_nonneg (by omega)]; omega
      have d0 : IntKind.i64.wrap (d : Int) = (d : Int) := (IntWalk.i64_left _).trans (by simp only [wrap64]; omega)
      have r2 : IntKind.i64.wrap ((r : Int) + 1) = (r : Int) + 1 := (IntWalk.i64_left _).trans (by simp only [wrap64]; omega)
      have d2 : IntKind.i64.wrap ((d : Int) + 1) = (d : Int) + 1 := (IntWalk.i64_left _).trans (by simp only [wrap64]; omega)
      have r3 : (0 : Int) ≤ (r : Int) + 1 ∧ (r : Int) + 1 ≤ 20 := by omega
      have r4 : (0 : Int) ≤ (r : Int) ∧ (r : Int) ≤ (r : Int) + 1 := by omega
      have d3 : (0 : Int) ≤ (d : Int) + 1 ∧ (d : Int) + 1 ≤ 7 := by omega
      have d4 : (0 : Int) ≤ (d : Int) ∧ (d : Int) ≤ (d : Int) + 1 := by omega
      obtain ⟨hp1, hp2, hp3, hp4⟩ := nm_parts i hi120
      have hnm : nmG i = (⟨#[103]⟩ ++ digG.extract (i % 20) (i % 20 + 1)) ++ letG.extract (i / 20) (i / 20 + 1) := rfl
      rw [hr, hd] at hnm
      rw [hr] at hp1 hp3
      rw [hd] at hp2
      obtain ⟨S1, hS1⟩ : ∃ S1, digG.extract r (r + 1) = S1 := ⟨_, rfl⟩
      obtain ⟨S2, hS2⟩ : ∃ S2, letG.extract d (d + 1) = S2 := ⟨_, rfl⟩
      rw [hS1, hS2] at hnm
      rw [hS1] at hp1 hp3
      rw [hS2] at hp2
      obtain ⟨T1, hT1⟩ : ∃ T1, (⟨#[103]⟩ : ByteArray) ++ S1 = T1 := ⟨_, rfl⟩
      rw [hT1] at hnm hp3
      have hz1 : (⟨#[103]⟩ : ByteArray).size = 1 := rfl
      have hadd1 : ∀ W : World, (Op.stringOp .add ⟨#[103]⟩ S1).run Tryd.prog W = .ok (.string T1) W := fun W => by rw [run_string_add_sum W _ S1 (by omega), hT1]
      have hadd2 : ∀ W : World, (Op.stringOp .add T1 S2).run Tryd.prog W = .ok (.string (nmG i)) W := fun W => by rw [run_string_add_sum W T1 S2 (by omega), hnm]
      have HSET := Lib.hid (fun (W : World) (h : SoloG w W g (rowsG i)) => SoloG.set HTT.out h ⟨nmG i, (i : Int)⟩ ⟨by dsimp only; omega, by dsimp only; omega, by dsimp only; omega⟩)
      dsimp only at HSET
      obtain ⟨NM, hNM⟩ : ∃ NM, nmG i = NM := ⟨_, rfl⟩
      rw [hNM] at hadd2
      unfold digG at hS1
      unfold letG at hS2
      have HNM := Lib.hid hNM
      clear hr hd hT1 hnm hNM hz1 hp1 hp2 hp3 hp4
      go_wp2_with fail
      refine wp_region_held_drew (S := fun _ => True) (by kernel_rfl) trivial (fun hHeld => ?_)
      refine held_take 0 31 (v := ?v1) rfl rfl (by kernel_rfl) (by kernel_rfl) (by kernel_rfl) (fun _ _ _ h => h) hHeld (Or.inl ⟨by rfl, ?y1⟩) ?r1
      case y1 => intro W hSw; (try dsimp only at hSw); go_simp; (try with_reducible rfl)
      simp only [List.setIfInBounds_toArray, List.set_cons_zero, List.set_cons_succ]
      refine held_take 1 32 (v := ?v2) rfl rfl (by kernel_rfl) (by kernel_rfl) (by kernel_rfl) (fun _ _ _ h => h) hHeld (Or.inl ⟨by rfl, ?y2⟩) ?r2
      case y2 => intro W hSw; (try dsimp only at hSw); go_simp; (try with_reducible rfl)
      simp only [List.setIfInBounds_toArray, List.set_cons_zero, List.set_cons_succ]
      refine held_take 2 33 (v := ?v3) rfl rfl (by kernel_rfl) (by kernel_rfl) (by kernel_rfl) (fun _ _ _ h => h) hHeld (Or.inl ⟨by rfl, ?y3⟩) ?r3
      case y3 => intro W hSw; (try dsimp only at hSw); go_simp; (try with_reducible rfl)
      simp only [List.setIfInBounds_toArray, List.set_cons_zero, List.set_cons_succ]
      refine held_take 3 34 (v := ?v4) rfl rfl (by kernel_rfl) (by kernel_rfl) (by kernel_rfl) (fun _ _ _ h => h) hHeld (Or.inl ⟨by rfl, ?y4⟩) ?r4
      case y4 => intro W hSw; (try dsimp only at hSw); go_simp; (try with_reducible rfl)
      simp only [List.setIfInBounds_toArray, List.set_cons_zero, List.set_cons_succ]
      refine held_take 4 35 (v := ?v5) rfl rfl (by kernel_rfl) (by kernel_rfl) (by kernel_rfl) (fun _ _ _ h => h) hHeld (Or.inl ⟨by rfl, ?y5⟩) ?r5
      case y5 => intro W hSw; (try dsimp only at hSw); go_simp; (try with_reducible rfl)
      simp only [List.setIfInBounds_toArray, List.set_cons_zero, List.set_cons_succ]
      refine held_take 5 36 (v := ?v6) rfl rfl (by kernel_rfl) (by kernel_rfl) (by kernel_rfl) (fun _ _ _ h => h) hHeld (Or.inl ⟨by rfl, ?y6⟩) ?r6
      case y6 => intro W hSw; (try dsimp only at hSw); go_simp; (try with_reducible rfl)
      simp only [List.setIfInBounds_toArray, List.set_cons_zero, List.set_cons_succ]
      refine held_take 6 37 (v := ?v7) rfl rfl (by kernel_rfl) (by kernel_rfl) (by kernel_rfl) (fun _ _ _ h => h) hHeld (Or.inl ⟨by rfl, ?y7⟩) ?r7
      case y7 => intro W hSw; (try dsimp only at hSw); go_simp; (try with_reducible rfl)
      simp only [List.setIfInBounds_toArray, List.set_cons_zero, List.set_cons_succ]
      refine held_take 7 38 (v := ?v8) rfl rfl (by kernel_rfl) (by kernel_rfl) (by kernel_rfl) (fun _ _ _ h => h) hHeld (Or.inl ⟨by rfl, ?y8⟩) ?r8
      case y8 => intro W hSw; (try dsimp only at hSw); go_simp; (try with_reducible rfl)
      simp only [List.setIfInBounds_toArray, List.set_cons_zero, List.set_cons_succ]
      refine held_take 8 39 (v := ?v9) rfl rfl (by kernel_rfl) (by kernel_rfl) (by kernel_rfl) (fun _ _ _ h => h) hHeld (Or.inl ⟨by rfl, ?y9⟩) ?r9
      case y9 => intro W hSw; (try dsimp only at hSw); go_simp; (try with_reducible rfl)
      simp only [List.setIfInBounds_toArray, List.set_cons_zero, List.set_cons_succ]
      refine held_take 9 40 (v := ?v10) rfl rfl (by kernel_rfl) (by kernel_rfl) (by kernel_rfl) (fun _ _ _ h => h) hHeld (Or.inl ⟨by rfl, ?y10⟩) ?r10
      case y10 => intro W hSw; (try dsimp only at hSw); go_simp; (try with_reducible rfl)
      simp only [List.setIfInBounds_toArray, List.set_cons_zero, List.set_cons_succ]
      refine held_take 10 41 (v := ?v11) rfl rfl (by kernel_rfl) (by kernel_rfl) (by kernel_rfl) (fun _ _ _ h => h) hHeld (Or.inl ⟨by rfl, ?y11⟩) ?r11
      case y11 => intro W hSw; (try dsimp only at hSw); go_simp; (try with_reducible rfl)
      simp only [List.setIfInBounds_toArray, List.set_cons_zero, List.set_cons_succ]
      refine held_take 11 42 (v := ?v12) rfl rfl (by kernel_rfl) (by kernel_rfl) (by kernel_rfl) (fun _ _ _ h => h) hHeld (Or.inl ⟨by rfl, ?y12⟩) ?r12
      case y12 => intro W hSw; (try dsimp only at hSw); go_simp; (try with_reducible rfl)
      simp only [List.setIfInBounds_toArray, List.set_cons_zero, List.set_cons_succ]
      refine held_take 12 43 (v := ?v13) rfl rfl (by kernel_rfl) (by kernel_rfl) (by kernel_rfl) (fun _ _ _ h => h) hHeld (Or.inl ⟨by rfl, ?y13⟩) ?r13
      case y13 => intro W hSw; (try dsimp only at hSw); go_simp; (try with_reducible rfl)
      simp only [List.setIfInBounds_toArray, List.set_cons_zero, List.set_cons_succ]
      refine held_take 13 44 (v := ?v14) rfl rfl (by kernel_rfl) (by kernel_rfl) (by kernel_rfl) (fun _ _ _ h => h) hHeld (Or.inl ⟨by rfl, ?y14⟩) ?r14
      case y14 => intro W hSw; (try dsimp only at hSw); go_simp; (try with_reducible rfl)
      simp only [List.setIfInBounds_toArray, List.set_cons_zero, List.set_cons_succ]
      refine held_take 14 45 (v := ?v15) rfl rfl (by kernel_rfl) (by kernel_rfl) (by kernel_rfl) (fun _ _ _ h => h) hHeld (Or.inl ⟨by rfl, ?y15⟩) ?r15
      case y15 => intro W hSw; (try dsimp only at hSw); go_simp; (try with_reducible rfl)
      simp only [List.setIfInBounds_toArray, List.set_cons_zero, List.set_cons_succ]
      refine held_take 15 46 (v := ?v16) rfl rfl (by kernel_rfl) (by kernel_rfl) (by kernel_rfl) (fun _ _ _ h => h) hHeld (Or.inl ⟨by rfl, ?y16⟩) ?r16
      case y16 => intro W hSw; (try dsimp only at hSw); go_simp; (try with_reducible rfl)
      simp only [List.setIfInBounds_toArray, List.set_cons_zero, List.set_cons_succ]
      clear r1 r2 r3 r4 d0 d1 d2 d3 d4 hadd1 hadd2 hS1 hS2
      rw [HNM.out] at HSET
      by_cases h100 : i < 100
      · have e1 : decide ((100 : Int) ≤ (i : Int)) = false := decide_eq_false (by omega)
        have e2 : decide (100 ≤ i) = false := decide_eq_false (by omega)
        have HR := rowsG_set h100
        rw [HNM.out] at HR
        rw [HR] at HSET
        clear HR h100
        refine wpAnyH_ready (rs := [16]) (by kernel_rfl) (by simp) ?_
        refine AllReadyH.cons rfl (fun K hK => ?_) AllReadyH.nil
        go_simp
        refine (HSET.out _ (HS.out.below (Below.refl _ wr).drew)).mono ?_
        rintro e w4 ⟨rfl, h4⟩
        have H4 := Lib.hid h4
        clear h4
        refine hK.out _ _ trivial (fun hHeld => ?_)
        clear hK K
        refine held_take 17 9 (v := ?v17) rfl rfl (by kernel_rfl) (by kernel_rfl) (by kernel_rfl) (fun _ _ _ h => h) hHeld (Or.inl ⟨by rfl, ?y17⟩) ?r17
        case y17 => intro W hSw; (try dsimp only at hSw); go_simp; (try with_reducible rfl)
        simp only [List.setIfInBounds_toArray, List.set_cons_zero, List.set_cons_succ]
        refine wpAnyH_done (by kernel_rfl) ?_ _
        clear hHeld
        go_wp2_with (go_at_call 7; refine (HNU.out _ _).mono ?_; rintro e w5 ⟨rfl, rfl⟩)
        go_roundw
        case rel => exact ⟨i + 1, by go_num, hlt, H4.out⟩
        case measure => simp [intOf]; omega
      · have e1 : decide ((100 : Int) ≤ (i : Int)) = true := decide_eq_true (by omega)
        have e2 : decide (100 ≤ i) = true := decide_eq_true (by omega)
        have HR := rowsG_full (Nat.le_of_not_lt h100) hi120
        rw [HNM.out] at HR
        rw [HR] at HSET
        clear HR h100
        refine wpAnyH_ready (rs := [16]) (by kernel_rfl) (by simp) ?_
        refine AllReadyH.cons rfl (fun K hK => ?_) AllReadyH.nil
        go_simp
        refine (HSET.out _ (HS.out.below (Below.refl _ wr).drew)).mono ?_
        rintro e w4 ⟨rfl, h4⟩
        have H4 := Lib.hid h4
        clear h4
        refine hK.out _ _ trivial (fun hHeld => ?_)
        clear hK K
        refine held_take 17 9 (v := ?v18) rfl rfl (by kernel_rfl) (by kernel_rfl) (by kernel_rfl) (fun _ _ _ h => h) hHeld (Or.inl ⟨by rfl, ?y18⟩) ?r18
        case y18 => intro W hSw; (try dsimp only at hSw); go_simp; (try with_reducible rfl)
        simp only [List.setIfInBounds_toArray, List.set_cons_zero, List.set_cons_succ]
        refine wpAnyH_done (by kernel_rfl) ?_ _
        clear hHeld
        go_wp2_with (go_at_call 7; refine (HNU.out _ _).mono ?_; rintro e w5 ⟨rfl, rfl⟩)
        go_roundw
        case rel => exact ⟨i + 1, by go_num, hlt, H4.out⟩
        case measure => simp [intOf]; omega
    · obtain rfl : i = n := by omega
      have H := Lib.hid (SoloG.set HTT.out HS.out ⟨⟨#[103, 48, 107]⟩, a1⟩ ⟨(show (⟨#[103, 48, 107]⟩ : ByteArray).size ≤ 9223372036854775807 by decide +kernel), HAT.out.1, HAT.out.2⟩)
      rw [rowsG_again hn1 hn] at H
      dsimp only at H
      have HK := Lib.hid (fun (W : World) (h : SoloG w W g (putN ⟨⟨#[103, 48, 107]⟩, a1⟩ (rowsG i))) => SoloG.get h ⟨#[103, 48, 107]⟩ (by decide +kernel))
      rw [rowsG_told] at HK
      dsimp only at HK
      have q1 : (a1 == a1) = true := by simp
      clear HS hlt
      go_wp2_with (first | (go_at_call 6; refine H.out.mono ?_; rintro e w4 ⟨rfl, h4⟩; have H4 := Lib.hid h4; clear h4) | (go_at_call 9; refine (HK.out _ H4.out).mono ?_; rintro e w6 ⟨rfl, h6⟩; have H6 := Lib.hid h6; clear h6) | (go_at_call 7; refine (HNU.out _ _).mono ?_; rintro e w5 ⟨rfl, rfl⟩))
      go_ret
      exact ⟨rfl, H6.out.since⟩

set_option maxRecDepth 100000 in
theorem lifted (os : Os) (started : os.Started) (H : Type) (enc : TypeId × Value → H) :
    ReturnsInHanded {} Tryd.checked os 4 .any (fun w args => (Rows.groupsManySpec.pre enc Tryd.prog Tryd.f4 [] false w args ∧ laidMetH Tryd.prog laid1 w) ∧ sizedMet enc Tryd.prog Tryd.f4 (OpenSpec.ofChange Rows.groupsManySpec) false w args) (Rows.groupsManySpec.post enc Tryd.prog Tryd.f4 false true false false) := by
  refine returnsInHanded_of_change_and (C := Tryd.checked) (X := fun w _ => laidMetH Tryd.prog laid1 w) (fun _ _ _ hh h => h.of_heap hh) own started (by kernel_rfl) Tryd.func4
    (ChangeSpec.witness_shaped (enc := enc) (C := Tryd.checked) (os := os) (X := fun w _ => laidMetH Tryd.prog laid1 w) false (World.laidAll Tryd.prog os laid1) #[.int .i64 0, .int .i64 0] 8 (World.laidAll_os _ _ _) (World.shaped_of_ZipB (by kernel_rfl) (by kernel_rfl)) (by kernel_rfl) (by kernel_rfl) (by kernel_rfl) (door_met os _)) ?_
  intro W base args ds gs before hval0 hW _ _ hL _
  have hval : ∀ (j : Nat) t v, Tryd.f4.params[j]? = some t → args[j]? = some v → Value.okWide Tryd.prog W .any base t v := hval0
  have hW' := hW
  obtain ⟨p, q, hA0, hV, rfl, hfz, hnd⟩ := hW
  have hA : DataW.TrodAll enc Tryd.prog W 0 (fun _ => true) true Tryd.f4.params.toList args.toList ds p := hA0
  rw [Tryd.params4] at hA hval
  obtain ⟨v0, vs0, d0, ds0, p0, q0, hargs, rfl, rfl, h0, r0⟩ := trodAll_cons hA
  obtain ⟨v1, vs1, d1, ds1, p1, q1, rfl, rfl, rfl, h1, r1⟩ := trodAll_cons r0
  obtain ⟨rfl, rfl, rfl⟩ := trodAll_nil r1
  obtain rfl : args = #[v0, v1] := by cases args; simp_all
  obtain ⟨rfl, rfl⟩ := trodVars_none hV
  obtain ⟨a0, rfl, rfl, rfl, w0⟩ := open_int Tryd.underlying3 (hval 0 3 v0 rfl rfl) h0
  obtain ⟨a1, rfl, rfl, rfl, w1⟩ := open_int Tryd.underlying3 (hval 1 3 v1 rfl rfl) h1
  clear hA0 hval0
  refine (walk a0 a1 W (of_laid hL) w0 w1).mono fun e W' ⟨he, bel⟩ => ?_
  subst he
  exact ⟨_, rfl, _, _, _, [], _, [], hW', trodAll_mk1 (shut_bool Tryd.underlying4 _), (trodAll_cons_mk (shut_int Tryd.underlying3 w0) (trodAll_cons_mk (shut_int Tryd.underlying3 w1) trodAll_mk0)), rfl, bel.frame _, fun h => by cases h⟩

theorem over : Rows.groupsManyRow.holds Tryd.pinned (OpenSpec.ofChange Rows.groupsManySpec) :=
  OpenClaim.holds_of_wide 4 Tryd.f4 rfl rfl rfl rfl rfl rfl rfl ⟨rfl, rfl, rfl, rfl, rfl⟩ rfl rfl rfl rfl rfl (by kernel_rfl) Tryd.func4 (by kernel_rfl)
    (of_decide_eq_true (by kernel_rfl)) (by unfold Func.isWrapper; first | (rw [if_pos (by decide +kernel)]; kernel_rfl) | (rw [if_neg (by decide +kernel)]; exact ⟨rfl, rfl⟩))
    (fun os started H enc _ => lifted os started H enc)

theorem proved : Rows.GroupsManyCardSaid :=
  Claim7.holds_tied_plain_at .later [] [.data, .pinned] true (true, "71f9d8eb906c974c628d97fe7f52072530c4f27e8705de1c19969d55f452aa95") false
    over (fun _ h => by cases h) (by kernel_rfl) (fun _ h => by cases h) groupsMany_row_tie rfl ⟨rfl, rfl⟩ (by kernel_rfl) rfl
    (fun f fn hf hfn => by
      obtain rfl : f = 4 := Option.some.inj ((show Tryd.prog.funcNamed "cooperage/cooperagelaw12.GroupsMany" = some 4 by kernel_rfl).symm.trans hf) |>.symm
      obtain rfl : fn = Tryd.f4 := (Option.some.inj (Tryd.func4.symm.trans hfn)).symm
      exact ⟨by kernel_rfl, fun j t ht => by
        rw [Tryd.params4] at ht
        have hm : t ∈ [3, 3] := by simpa using Array.mem_of_getElem? ht
        have hall : ([3, 3].all fun u => !Tryd.prog.wantsStandIn u) = true := by kernel_rfl
        exact (show Tryd.prog.wantsStandIn t = false by simpa using List.all_eq_true.1 hall t hm)⟩)
    (by kernel_rfl)
#print axioms proved
end Go.Proofs.YtmghlfhdjdlkbaaDoor.groupsMany
