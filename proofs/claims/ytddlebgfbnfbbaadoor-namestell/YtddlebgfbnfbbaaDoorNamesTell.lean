/- Proved: for every text s of any bytes and every n, NamesTell(s, n) returns true: names.Valid, names.Count and names.Cut answer as the document's own Valid, Count and Cut do, of every text of at most 300 bytes. Conditions: none on the input; the library's two tables unicode/utf8.first and unicode/utf8.acceptRanges start as the program's text lays them (the card ties them; the first is pinned). -/
import Derived.Test.YtddlebgfbnfbbaaDoorRows
import Derived.WalkKit
import Derived.ProofKit
import Derived.OpenShut
import Derived.ShutString
import Derived.LaidMore
import Derived.Stop.Joined
import Derived.SevenTiedAt
import Derived.Lay
import Derived.Test.YtddlebgfbnfbbaaDoorCards
import Derived.Test.YtddlebgfbnfbbaaDoorTie
import Derived.Test.YtddlebgfbnfbbaaDoorValid
import Derived.Test.YtddlebgfbnfbbaaDoorRefValid
import Derived.Test.YtddlebgfbnfbbaaDoorRefCuts
import Derived.Test.YtddlebgfbnfbbaaDoorNAlive
namespace Go.Proofs.YtddlebgfbnfbbaaDoor.namesTell
open Go.ChangeShapes Go.WideShapes Go.ChangeAt Go.RowKit
open Go.ChangeMaps (open_string shut_string)
set_option linter.unusedVariables false      -- a walk need not use every 'w<i>' (that an integer argument fits its kind)

theorem own : ownKnob Tryd.prog.godebug = none := by kernel_rfl

set_option maxHeartbeats 1600000 in
theorem walk (a0 : ByteArray) (a1 : Int) (w0 : a0.size ≤ maxLen) (w1 : (Lit.int .i64 a1).wf = true) (w : World) (hh : Tabs w) :
    Calls Tryd.prog 3 #[.string a0, .int .i64 a1] w fun e w' => e = .returned (.bool true) ∧ Below w.heap.size w w' := by
  obtain ⟨hn0, hn1⟩ := bounds_i64 w1
  have HW := Lib.hid w0
  clear w1
  by_cases h300 : 300 < a0.size
  · have h1 : (300 : Int) < (a0.size : Int) := by omega
    go_enter Tryd.func3, Tryd.ntmps3
    go_wp2_with fail
    refine (alive_any w hh).mono ?_
    rintro e w1 ⟨rfl, hbel⟩
    go_wp2
    go_ret
    exact ⟨rfl, hbel⟩
  · have h1 : ¬ (300 : Int) < (a0.size : Int) := by omega
    clear w0
    go_enter Tryd.func3, Tryd.ntmps3
    go_wp2_with fail
    refine (alive_any w hh).mono ?_
    rintro e w1 ⟨rfl, hb1⟩
    have hh1 := hh.below hb1
    go_wp2_with fail
    refine (valid_any a0 w1 HW.out hh1).mono ?_
    rintro e w2 ⟨rfl, hb2⟩
    have hh2 := hh1.below hb2
    obtain ⟨V, hV⟩ : ∃ V, validS a0 = V := ⟨_, rfl⟩
    rw [hV]
    have HV := Lib.hid hV
    clear hV
    go_wp2_with fail
    refine (refvalid_any a0 w2 HW.out).mono ?_
    rintro e w3 ⟨rfl, rfl⟩
    rw [HV.out]
    have heq : (V == V) = true := by simp
    go_wp2_with fail
    refine (count_any a0 w2 HW.out).mono ?_
    rintro e w3 ⟨rfl, hb3⟩
    obtain ⟨K, hK⟩ : ∃ K, cntFrom a0 0 = K := ⟨_, rfl⟩
    rw [hK]
    have HK := Lib.hid hK
    clear hK
    go_wp2_with fail
    refine (refcount_any a0 w3 HW.out).mono ?_
    rintro e w4 ⟨rfl, rfl⟩
    rw [HK.out]
    have heq2 : ((K : Int) == (K : Int)) = true := by simp
    go_wp2_with fail
    refine (cut_any a0 a1 w3 HW.out hn0 hn1).mono ?_
    rintro e w4 ⟨rfl, hb4⟩
    obtain ⟨t, ht⟩ : ∃ t, a0.extract 0 (upTo a0 a1.toNat 0) = t := ⟨_, rfl⟩
    rw [ht]
    have HT := Lib.hid ht
    clear ht
    go_wp2_with fail
    refine (refcut_any a0 a1 w4 HW.out hn0 hn1).mono ?_
    rintro e w5 ⟨rfl, rfl⟩
    rw [HT.out]
    have hb12 := hb1.trans (hb2.mono hb1.size)
    have hb13 := hb12.trans (hb3.mono hb12.size)
    have hb14 := hb13.trans (hb4.mono hb13.size)
    go_wp2
    go_ret
    exact ⟨rfl, hb14⟩

set_option maxRecDepth 100000 in
theorem lifted (os : Os) (started : os.Started) (H : Type) (enc : TypeId × Value → H) :
    ReturnsInHanded {} Tryd.checked os 3 .any (fun w args => (Rows.namesTellSpec.pre enc Tryd.prog Tryd.f3 [] false w args ∧ laidMetH Tryd.prog laid1 w) ∧ sizedMet enc Tryd.prog Tryd.f3 (OpenSpec.ofChange Rows.namesTellSpec) false w args) (Rows.namesTellSpec.post enc Tryd.prog Tryd.f3 false true false false) := by
  refine returnsInHanded_of_change_and (C := Tryd.checked) (X := fun w _ => laidMetH Tryd.prog laid1 w) (fun _ _ _ hh h => h.of_heap hh) own started (by kernel_rfl) Tryd.func3
    (ChangeSpec.witness_shaped (enc := enc) (C := Tryd.checked) (os := os) (X := fun w _ => laidMetH Tryd.prog laid1 w) false (World.laidAll Tryd.prog os laid1) #[.string ByteArray.empty, .int .i64 0] 8 (World.laidAll_os _ _ _) (World.shaped_of_ZipB (by kernel_rfl) (by kernel_rfl)) (by kernel_rfl) (by kernel_rfl) (by kernel_rfl) (door_met os _)) ?_
  intro W base args ds gs before hval0 hW _ _ hL _
  have hval : ∀ (j : Nat) t v, Tryd.f3.params[j]? = some t → args[j]? = some v → Value.okWide Tryd.prog W .any base t v := hval0
  have hW' := hW
  obtain ⟨p, q, hA0, hV, rfl, hfz, hnd⟩ := hW
  have hA : DataW.TrodAll enc Tryd.prog W 0 (fun _ => true) true Tryd.f3.params.toList args.toList ds p := hA0
  rw [Tryd.params3] at hA hval
  obtain ⟨v0, vs0, d0, ds0, p0, q0, hargs, rfl, rfl, h0, r0⟩ := trodAll_cons hA
  obtain ⟨v1, vs1, d1, ds1, p1, q1, rfl, rfl, rfl, h1, r1⟩ := trodAll_cons r0
  obtain ⟨rfl, rfl, rfl⟩ := trodAll_nil r1
  obtain rfl : args = #[v0, v1] := by cases args; simp_all
  obtain ⟨rfl, rfl⟩ := trodVars_none hV
  obtain ⟨a0, rfl, rfl, rfl, w0⟩ := open_string Tryd.underlying9 (hval 0 9 v0 rfl rfl) h0
  obtain ⟨a1, rfl, rfl, rfl, w1⟩ := open_int Tryd.underlying3 (hval 1 3 v1 rfl rfl) h1
  clear hA0 hval0
  simp only [List.append_nil] at hW'
  refine (walk a0 a1 w0 w1 W (of_laid hL)).mono fun e W' ⟨he, bel⟩ => ?_
  subst he
  exact ⟨_, rfl, _, _, _, [], [], [], hW', (trodAll_cons_mk (shut_bool Tryd.underlying4 _) trodAll_mk0), (trodAll_cons_mk (shut_string Tryd.underlying9 w0) (trodAll_cons_mk (shut_int Tryd.underlying3 w1) trodAll_mk0)), rfl, bel.frame _, fun h => by cases h⟩

theorem over : Rows.namesTellRow.holds Tryd.pinned (OpenSpec.ofChange Rows.namesTellSpec) :=
  OpenClaim.holds_of_wide 3 Tryd.f3 rfl rfl rfl rfl rfl rfl rfl ⟨rfl, rfl, rfl, rfl, rfl⟩ rfl rfl rfl rfl rfl (by kernel_rfl) Tryd.func3 (by kernel_rfl)
    (of_decide_eq_true (by kernel_rfl)) (by unfold Func.isWrapper; first | (rw [if_pos (by decide +kernel)]; kernel_rfl) | (rw [if_neg (by decide +kernel)]; exact ⟨rfl, rfl⟩))
    (fun os started H enc _ => lifted os started H enc)

theorem proved : Rows.NamesTellCardSaid :=
  Claim7.holds_tied_plain_at .later [] [.data, .pinned] true (true, "dfb91a640cee4f78bae66a14287d2fb00db62dae2a497d04d981e9d8a0b6174b") false
    over (fun _ h => by cases h) (by kernel_rfl) (fun _ h => by cases h) namesTell_row_tie rfl ⟨rfl, rfl⟩ (by kernel_rfl) rfl
    (fun f fn hf hfn => by
      obtain rfl : f = 3 := Option.some.inj ((show Tryd.prog.funcNamed "cooperage/cooperagelaw3.NamesTell" = some 3 by kernel_rfl).symm.trans hf) |>.symm
      obtain rfl : fn = Tryd.f3 := (Option.some.inj (Tryd.func3.symm.trans hfn)).symm
      exact ⟨by kernel_rfl, fun j t ht => by
        rw [Tryd.params3] at ht
        have hm : t ∈ [9, 3] := by simpa using Array.mem_of_getElem? ht
        have hall : ([9, 3].all fun u => !Tryd.prog.wantsStandIn u) = true := by kernel_rfl
        exact (show Tryd.prog.wantsStandIn t = false by simpa using List.all_eq_true.1 hall t hm)⟩)
    (by kernel_rfl)
#print axioms proved
end Go.Proofs.YtddlebgfbnfbbaaDoor.namesTell
