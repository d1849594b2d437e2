/- Proved: for every text, DiskErrors(name) returns true: of a text that is no name Read, Sync, Cut, Remove, Rename (from it and to it) and Append tell ErrName, and nothing changes; of a name that is not there Read, Sync, Cut, Remove and Rename tell ErrNone, a file is renamed to it, and an append of no bytes to it is OK (of texts of at most 100 bytes; of longer ones it returns what the example says). Conditions: none on the input; the two tables unicode/utf8.first and unicode/utf8.acceptRanges start as the program lays them (the card ties them; the first is pinned). -/
import Derived.Test.YtkohjkjjkkkpoaaDoorRows
import Derived.WalkKit
import Derived.ProofKit
import Derived.OpenShut
import Derived.ShutString
import Derived.LaidMore
import Derived.Stop.Joined
import Derived.SevenTiedAt
import Derived.Lay
import Derived.Deep.QuietTactic
import Derived.BigQuiet
import Derived.Test.YtkohjkjjkkkpoaaDoorCards
import Derived.Test.YtkohjkjjkkkpoaaDoorTie
import Derived.Test.YtkohjkjjkkkpoaaDoorCame
import Derived.Test.YtkohjkjjkkkpoaaDoorDErrs
namespace Go.Proofs.YtkohjkjjkkkpoaaDoor.diskErrors
open Go.ChangeShapes Go.WideShapes Go.ChangeAt Go.RowKit
open Go.ChangeMaps (open_string shut_string)
set_option linter.unusedVariables false      -- a walk need not use every 'w<i>' (that an integer argument fits its kind)

theorem own : ownKnob Tryd.prog.godebug = none := by kernel_rfl

set_option maxHeartbeats 3200000 in
set_option maxRecDepth 4000 in
theorem walk (a0 : ByteArray) (w0 : a0.size ≤ maxLen) (w : World) (hh : Tabs w) :
    Calls Tryd.prog 8 #[.string a0] w fun e w' => e = .returned (.bool true) ∧ Below w.heap.size w w' := by
  by_cases h100 : 100 < a0.size
  · have h1 : (100 : Int) < (a0.size : Int) := by omega
    go_enter Tryd.func8, Tryd.ntmps8
    go_wp2_with fail
    refine (alive_any w hh).mono ?_
    rintro e w1 ⟨rfl, hbel⟩
    go_wp2
    go_ret
    exact ⟨rfl, hbel⟩
  · have h1 : ¬ (100 : Int) < (a0.size : Int) := by omega
    have e1 : appendM 100 [] ⟨#[116, 104, 101, 114, 101]⟩ [120] = ([⟨⟨#[116, 104, 101, 114, 101]⟩, [120], 1⟩], 0) := append_none there_valid (by decide)
    have E1 := Lib.hid e1
    have HS := Lib.hid (show a0.size ≤ maxLen by unfold maxLen; omega)
    have HS2 := Lib.hid (show a0.size ≤ 281474976710656 by omega)
    clear e1 h100
    by_cases hth : a0 = ⟨#[116, 104, 101, 114, 101]⟩
    · have HV := Lib.hid (show validS a0 = true by rw [hth]; exact there_valid)
      have hq3 : a0.toList = [116, 104, 101, 114, 101] := by rw [hth]; decide +kernel
      have hq2 : (a0.toList == [116, 104, 101, 114, 101]) = true := by rw [hq3]; rfl
      clear hth
      have kc := fun (w : World) (C : Array Value) (n c : Nat) => Lib.run_convert_bytes_const (P := Tryd.prog) w 31 5 C n c Tryd.underlying31 Tryd.underlying5
      go_enter Tryd.func8, Tryd.ntmps8
      go_wp2_with fail
      refine (alive_any w hh).mono ?_
      rintro e w1 ⟨rfl, hbel⟩
      have HN1 := Lib.hid (dw_new w w1 hbel hh 100 (by omega) (by omega))
      clear hbel
      go_wp2_with fail
      clear h1
      refine HN1.out.mono ?_
      rintro e w2 ⟨rfl, d2⟩
      obtain ⟨p, hp⟩ : ∃ p, w1.heap.size = p := ⟨_, rfl⟩
      rw [hp] at d2 ⊢
      have D2 := Lib.hid d2
      clear hp d2 HN1
      go_wp2_with fail
      clear kc
      refine (dw_append_new D2.out ⟨#[116, 104, 101, 114, 101]⟩ [120] 1 1 rfl _ _ rfl (Nat.le_refl _) (by decide) (by intro c hc; simp at hc; omega) (by simp) (by rw [E1.out]; simp) (by rw [E1.out]; simp [usedM])).mono ?_
      rintro e w3 ⟨rfl, d3⟩
      rw [E1.out] at d3 ⊢
      have D3 := Lib.hid d3
      clear d3 D2 E1
      go_wp2_with fail
      refine (lawvalid_any a0 w3 HS.out).mono ?_
      rintro e w4 ⟨rfl, hb4⟩
      rw [HV.out]
      have D4 := Lib.hid (D3.out.below hb4)
      clear hb4 D3
      go_wp2
      go_ret
      exact ⟨rfl, D4.out.since⟩
    · have hq3 : ¬ a0.toList = [116, 104, 101, 114, 101] := fun e => hth (by
        have h2 : (⟨#[116, 104, 101, 114, 101]⟩ : ByteArray).toList = [116, 104, 101, 114, 101] := by decide +kernel
        have h3 := name_beq a0 ⟨#[116, 104, 101, 114, 101]⟩
        rw [e, h2] at h3
        exact of_decide_eq_true (by rw [← h3]; rfl))
      have hq2 : (a0.toList == [116, 104, 101, 114, 101]) = false := by simpa using hq3
      cases hv : validS a0 with
      | false =>
        have HV := Lib.hid hv
        have E2 := Lib.hid (getM_bad (l := [⟨⟨#[116, 104, 101, 114, 101]⟩, [120], 1⟩]) hv)
        have E3 := Lib.hid (syncM_bad (l := [⟨⟨#[116, 104, 101, 114, 101]⟩, [120], 1⟩]) hv)
        have E4 := Lib.hid (cutM_bad (l := [⟨⟨#[116, 104, 101, 114, 101]⟩, [120], 1⟩]) (k := 1) hv)
        have E5 := Lib.hid (removeM_bad (l := [⟨⟨#[116, 104, 101, 114, 101]⟩, [120], 1⟩]) hv)
        have E6 := Lib.hid (renameM_bad (l := [⟨⟨#[116, 104, 101, 114, 101]⟩, [120], 1⟩]) (b := ⟨#[116, 104, 101, 114, 101]⟩) (.inl hv))
        have E7 := Lib.hid (renameM_bad (l := [⟨⟨#[116, 104, 101, 114, 101]⟩, [120], 1⟩]) (a := ⟨#[116, 104, 101, 114, 101]⟩) (.inr hv))
        have E8 := Lib.hid (show appendM 100 [⟨⟨#[116, 104, 101, 114, 101]⟩, [120], 1⟩] a0 [] = ([⟨⟨#[116, 104, 101, 114, 101]⟩, [120], 1⟩], 6) by unfold appendM; rw [if_pos hv])
        have EU := Lib.hid (show usedM [⟨⟨#[116, 104, 101, 114, 101]⟩, [120], 1⟩] = 1 by simp [usedM])
        clear hv hth
        have kc := fun (w : World) (C : Array Value) (n c : Nat) => Lib.run_convert_bytes_const (P := Tryd.prog) w 31 5 C n c Tryd.underlying31 Tryd.underlying5
        go_enter Tryd.func8, Tryd.ntmps8
        go_wp2_with fail
        refine (alive_any w hh).mono ?_
        rintro e w1 ⟨rfl, hbel⟩
        have HN1 := Lib.hid (dw_new w w1 hbel hh 100 (by omega) (by omega))
        clear hbel
        go_wp2_with fail
        clear h1
        refine HN1.out.mono ?_
        rintro e w2 ⟨rfl, d2⟩
        obtain ⟨p, hp⟩ : ∃ p, w1.heap.size = p := ⟨_, rfl⟩
        rw [hp] at d2 ⊢
        have D2 := Lib.hid d2
        clear hp d2 HN1
        go_wp2_with fail
        clear kc
        refine (dw_append_new D2.out ⟨#[116, 104, 101, 114, 101]⟩ [120] 1 1 rfl _ _ rfl (Nat.le_refl _) (by decide) (by intro c hc; simp at hc; omega) (by simp) (by rw [E1.out]; simp) (by rw [E1.out]; simp [usedM])).mono ?_
        rintro e w3 ⟨rfl, d3⟩
        rw [E1.out] at d3 ⊢
        have D3 := Lib.hid d3
        clear d3 D2 E1
        go_wp2_with fail
        refine (lawvalid_any a0 w3 HS.out).mono ?_
        rintro e w4 ⟨rfl, hb4⟩
        rw [HV.out]
        have D4 := Lib.hid (D3.out.below hb4)
        clear hb4 D3
        go_wp2_with fail
        refine (dw_read D4.out a0 HS.out).mono ?_
        rintro e w5 ⟨v5, rfl, ho5, _, d5⟩
        rw [E2.out] at ho5 ⊢
        dsimp only at ho5 ⊢
        obtain ⟨A5, c5, rfl, _⟩ := ho5.parts
        have D5 := Lib.hid d5
        clear d5 D4 ho5
        go_wp2_with fail
        refine (dw_sync D5.out a0 HS.out (by rw [E3.out]; simp) (by rw [E3.out]; simp [usedM])).mono ?_
        rintro e w6 ⟨rfl, d6⟩
        rw [E3.out] at d6 ⊢
        have D6 := Lib.hid d6
        clear d6 D5
        go_wp2_with fail
        refine (dw_cut D6.out a0 1 HS.out (by rw [E4.out]; simp) (by rw [E4.out]; simp [usedM])).mono ?_
        rintro e w7 ⟨rfl, d7⟩
        rw [E4.out] at d7 ⊢
        have D7 := Lib.hid d7
        clear d7 D6
        go_wp2_with fail
        refine (dw_remove D7.out a0 HS.out (by rw [E5.out]; simp) (by rw [E5.out]; simp [usedM])).mono ?_
        rintro e w8 ⟨rfl, d8⟩
        rw [E5.out] at d8 ⊢
        have D8 := Lib.hid d8
        clear d8 D7
        go_wp2_with fail
        refine (dw_rename D8.out a0 ⟨#[116, 104, 101, 114, 101]⟩ HS2.out (by decide) (by rw [E6.out]; simp) (by rw [E6.out]; simp [usedM])).mono ?_
        rintro e w9 ⟨rfl, d9⟩
        rw [E6.out] at d9 ⊢
        have D9 := Lib.hid d9
        clear d9 D8
        go_wp2_with fail
        refine (dw_rename D9.out ⟨#[116, 104, 101, 114, 101]⟩ a0 (by decide) HS2.out (by rw [E7.out]; simp) (by rw [E7.out]; simp [usedM])).mono ?_
        rintro e w10 ⟨rfl, d10⟩
        rw [E7.out] at d10 ⊢
        have D10 := Lib.hid d10
        clear d10 D9
        go_wp2_with fail
        refine (dw_append D10.out a0 none [] 0 HS2.out Lies.nil (Nat.le_refl _) (fun _ => rfl) (by intro c hc; cases hc) (by simp) (by rw [E8.out]; simp) (by rw [E8.out]; simp [usedM])).mono ?_
        rintro e w11 ⟨rfl, d11⟩
        rw [E8.out] at d11 ⊢
        have D11 := Lib.hid d11
        have HU := Lib.hid (dw_used d11)
        rw [EU.out] at HU
        clear d11 D10
        have HNUM := Lib.hid num_any
        go_wp2_with (first | (go_at_call 20; refine (HNUM.out _ _).mono ?_; rintro e w' ⟨rfl, rfl⟩) | (go_at_call 21; refine HU.out.mono ?_; rintro e w' ⟨rfl, rfl⟩))
        go_ret
        exact ⟨rfl, D11.out.since⟩
      | true =>
        have HV := Lib.hid hv
        have hhs : hasF [⟨⟨#[116, 104, 101, 114, 101]⟩, [120], 1⟩] a0 = false := has_else (f := ⟨⟨#[116, 104, 101, 114, 101]⟩, [120], 1⟩) fun e => hth e.symm
        have E2 := Lib.hid (getM_none (l := [⟨⟨#[116, 104, 101, 114, 101]⟩, [120], 1⟩]) hv hhs)
        have E3 := Lib.hid (syncM_none (l := [⟨⟨#[116, 104, 101, 114, 101]⟩, [120], 1⟩]) hv hhs)
        have E4 := Lib.hid (cutM_none (l := [⟨⟨#[116, 104, 101, 114, 101]⟩, [120], 1⟩]) (k := 1) hv hhs)
        have E5 := Lib.hid (removeM_none (l := [⟨⟨#[116, 104, 101, 114, 101]⟩, [120], 1⟩]) hv hhs)
        have E6 := Lib.hid (renameM_none (l := [⟨⟨#[116, 104, 101, 114, 101]⟩, [120], 1⟩]) (b := ⟨#[116, 104, 101, 114, 101]⟩) hv there_valid hhs)
        have E7 := Lib.hid (show renameM [⟨⟨#[116, 104, 101, 114, 101]⟩, [120], 1⟩] ⟨#[116, 104, 101, 114, 101]⟩ a0 = ([⟨a0, [120], 1⟩], 0) from rename_one there_valid hv fun e => hth e.symm)
        have E8 := Lib.hid (show appendM 100 [⟨a0, [120], 1⟩] a0 [] = ([⟨a0, [120] ++ [], 1 + ([] : List Int).length⟩], 0) from append_self hv (by decide))
        have EU := Lib.hid (show usedM [⟨a0, [120] ++ [], 1 + ([] : List Int).length⟩] = 1 by simp [usedM])
        clear hv hth hhs
        have kc := fun (w : World) (C : Array Value) (n c : Nat) => Lib.run_convert_bytes_const (P := Tryd.prog) w 31 5 C n c Tryd.underlying31 Tryd.underlying5
        go_enter Tryd.func8, Tryd.ntmps8
        go_wp2_with fail
        refine (alive_any w hh).mono ?_
        rintro e w1 ⟨rfl, hbel⟩
        have HN1 := Lib.hid (dw_new w w1 hbel hh 100 (by omega) (by omega))
        clear hbel
        go_wp2_with fail
        clear h1
        refine HN1.out.mono ?_
        rintro e w2 ⟨rfl, d2⟩
        obtain ⟨p, hp⟩ : ∃ p, w1.heap.size = p := ⟨_, rfl⟩
        rw [hp] at d2 ⊢
        have D2 := Lib.hid d2
        clear hp d2 HN1
        go_wp2_with fail
        clear kc
        refine (dw_append_new D2.out ⟨#[116, 104, 101, 114, 101]⟩ [120] 1 1 rfl _ _ rfl (Nat.le_refl _) (by decide) (by intro c hc; simp at hc; omega) (by simp) (by rw [E1.out]; simp) (by rw [E1.out]; simp [usedM])).mono ?_
        rintro e w3 ⟨rfl, d3⟩
        rw [E1.out] at d3 ⊢
        have D3 := Lib.hid d3
        clear d3 D2 E1
        go_wp2_with fail
        refine (lawvalid_any a0 w3 HS.out).mono ?_
        rintro e w4 ⟨rfl, hb4⟩
        rw [HV.out]
        have D4 := Lib.hid (D3.out.below hb4)
        clear hb4 D3
        go_wp2_with fail
        refine (dw_read D4.out a0 HS.out).mono ?_
        rintro e w5 ⟨v5, rfl, ho5, _, d5⟩
        rw [E2.out] at ho5 ⊢
        dsimp only at ho5 ⊢
        obtain ⟨A5, c5, rfl, _⟩ := ho5.parts
        have D5 := Lib.hid d5
        clear d5 D4 ho5
        go_wp2_with fail
        refine (dw_sync D5.out a0 HS.out (by rw [E3.out]; simp) (by rw [E3.out]; simp [usedM])).mono ?_
        rintro e w6 ⟨rfl, d6⟩
        rw [E3.out] at d6 ⊢
        have D6 := Lib.hid d6
        clear d6 D5
        go_wp2_with fail
        refine (dw_cut D6.out a0 1 HS.out (by rw [E4.out]; simp) (by rw [E4.out]; simp [usedM])).mono ?_
        rintro e w7 ⟨rfl, d7⟩
        rw [E4.out] at d7 ⊢
        have D7 := Lib.hid d7
        clear d7 D6
        go_wp2_with fail
        refine (dw_remove D7.out a0 HS.out (by rw [E5.out]; simp) (by rw [E5.out]; simp [usedM])).mono ?_
        rintro e w8 ⟨rfl, d8⟩
        rw [E5.out] at d8 ⊢
        have D8 := Lib.hid d8
        clear d8 D7
        go_wp2_with fail
        refine (dw_rename D8.out a0 ⟨#[116, 104, 101, 114, 101]⟩ HS2.out (by decide) (by rw [E6.out]; simp) (by rw [E6.out]; simp [usedM])).mono ?_
        rintro e w9 ⟨rfl, d9⟩
        rw [E6.out] at d9 ⊢
        have D9 := Lib.hid d9
        clear d9 D8
        go_wp2_with fail
        refine (dw_rename D9.out ⟨#[116, 104, 101, 114, 101]⟩ a0 (by decide) HS2.out (by rw [E7.out]; simp) (by rw [E7.out]; simp [usedM])).mono ?_
        rintro e w10 ⟨rfl, d10⟩
        rw [E7.out] at d10 ⊢
        have D10 := Lib.hid d10
        clear d10 D9
        go_wp2_with fail
        refine (dw_append D10.out a0 none [] 0 HS2.out Lies.nil (Nat.le_refl _) (fun _ => rfl) (by intro c hc; cases hc) (by simp) (by rw [E8.out]; simp) (by rw [E8.out]; simp [usedM])).mono ?_
        rintro e w11 ⟨rfl, d11⟩
        rw [E8.out] at d11 ⊢
        have D11 := Lib.hid d11
        have HU := Lib.hid (dw_used d11)
        rw [EU.out] at HU
        clear d11 D10
        have HNUM := Lib.hid num_any
        go_wp2_with (first | (go_at_call 20; refine (HNUM.out _ _).mono ?_; rintro e w' ⟨rfl, rfl⟩) | (go_at_call 21; refine HU.out.mono ?_; rintro e w' ⟨rfl, rfl⟩))
        go_ret
        exact ⟨rfl, D11.out.since⟩

set_option maxRecDepth 100000 in
theorem lifted (os : Os) (started : os.Started) (H : Type) (enc : TypeId × Value → H) :
    ReturnsInHanded {} Tryd.checked os 8 .any (fun w args => (Rows.diskErrorsSpec.pre enc Tryd.prog Tryd.f8 [] false w args ∧ laidMetH Tryd.prog laid1 w) ∧ sizedMet enc Tryd.prog Tryd.f8 (OpenSpec.ofChange Rows.diskErrorsSpec) false w args) (Rows.diskErrorsSpec.post enc Tryd.prog Tryd.f8 false true false false) := by
  refine returnsInHanded_of_change_and (C := Tryd.checked) (X := fun w _ => laidMetH Tryd.prog laid1 w) (fun _ _ _ hh h => h.of_heap hh) own started (by kernel_rfl) Tryd.func8
    (ChangeSpec.witness_shaped (enc := enc) (C := Tryd.checked) (os := os) (X := fun w _ => laidMetH Tryd.prog laid1 w) false (World.laidAll Tryd.prog os laid1) #[.string ByteArray.empty] 8 (World.laidAll_os _ _ _) (World.shaped_of_ZipB (by kernel_rfl) (by kernel_rfl)) (by kernel_rfl) (by kernel_rfl) (by kernel_rfl) (door_met os _)) ?_
  intro W base args ds gs before hval0 hW _ _ hL _
  have hval : ∀ (j : Nat) t v, Tryd.f8.params[j]? = some t → args[j]? = some v → Value.okWide Tryd.prog W .any base t v := hval0
  have hW' := hW
  obtain ⟨p, q, hA0, hV, rfl, hfz, hnd⟩ := hW
  have hA : DataW.TrodAll enc Tryd.prog W 0 (fun _ => true) true Tryd.f8.params.toList args.toList ds p := hA0
  rw [Tryd.params8] at hA hval
  obtain ⟨v0, vs0, d0, ds0, p0, q0, hargs, rfl, rfl, h0, r0⟩ := trodAll_cons hA
  obtain ⟨rfl, rfl, rfl⟩ := trodAll_nil r0
  obtain rfl : args = #[v0] := by cases args; simp_all
  obtain ⟨rfl, rfl⟩ := trodVars_none hV
  obtain ⟨a0, rfl, rfl, rfl, w0⟩ := open_string Tryd.underlying9 (hval 0 9 v0 rfl rfl) h0
  clear hA0 hval0
  simp only [List.append_nil] at hW'
  refine (walk a0 w0 W (of_laid hL)).mono fun e W' ⟨he, bel⟩ => ?_
  subst he
  exact ⟨_, rfl, _, _, _, [], [], [], hW', (trodAll_cons_mk (shut_bool Tryd.underlying4 _) trodAll_mk0), (trodAll_cons_mk (shut_string Tryd.underlying9 w0) trodAll_mk0), rfl, bel.frame _, fun h => by cases h⟩

theorem over : Rows.diskErrorsRow.holds Tryd.pinned (OpenSpec.ofChange Rows.diskErrorsSpec) :=
  OpenClaim.holds_of_wide 8 Tryd.f8 rfl rfl rfl rfl rfl rfl rfl ⟨rfl, rfl, rfl, rfl, rfl⟩ rfl rfl rfl rfl rfl (by kernel_rfl) Tryd.func8 (by kernel_rfl)
    (of_decide_eq_true (by kernel_rfl)) (by unfold Func.isWrapper; first | (rw [if_pos (by decide +kernel)]; kernel_rfl) | (rw [if_neg (by decide +kernel)]; exact ⟨rfl, rfl⟩))
    (fun os started H enc _ => lifted os started H enc)

theorem proved : Rows.DiskErrorsCardSaid :=
  Claim7.holds_tied_plain_at .later [] [.data, .pinned] true (true, "9f9c79e53b6b38d304d4d1d850643538cce8ad8e1741b03c0c24b6d5f3b3483f") false
    over (fun _ h => by cases h) (by kernel_rfl) (fun _ h => by cases h) diskErrors_row_tie rfl ⟨rfl, rfl⟩ (by kernel_rfl) rfl
    (fun f fn hf hfn => by
      obtain rfl : f = 8 := Option.some.inj ((show Tryd.prog.funcNamed "cooperage/cooperagelaw6.DiskErrors" = some 8 by kernel_rfl).symm.trans hf) |>.symm
      obtain rfl : fn = Tryd.f8 := (Option.some.inj (Tryd.func8.symm.trans hfn)).symm
      exact ⟨by kernel_rfl, fun j t ht => by
        rw [Tryd.params8] at ht
        have hm : t ∈ [9] := by simpa using Array.mem_of_getElem? ht
        have hall : ([9].all fun u => !Tryd.prog.wantsStandIn u) = true := by kernel_rfl
        exact (show Tryd.prog.wantsStandIn t = false by simpa using List.all_eq_true.1 hall t hm)⟩)
    (by kernel_rfl)
#print axioms proved
end Go.Proofs.YtkohjkjjkkkpoaaDoor.diskErrors
