/- Proved: for every text s of any bytes and every n, NamesCut(s, n) returns true: what names.Cut answers is the front of s, it has n runes, or all of them if there are fewer, what is left has the others, and cut again it is the same; of texts of at most 300 bytes and n of 0 and more. Conditions: none on the input; the library's two tables unicode/utf8.first and unicode/utf8.acceptRanges start as the program's text lays them (the card ties them; the first is pinned). -/
import Derived.Test.YtddlebgfbnfbbaaDoorRows
import Derived.WalkKit
import Derived.ProofKit
import Derived.OpenShut
import Derived.ShutString
import Derived.LaidMore
import Derived.Stop.Joined
import Derived.SevenTiedAt
import Derived.Lay
import Derived.Test.YtddlebgfbnfbbaaDoorCards
import Derived.Test.YtddlebgfbnfbbaaDoorTie
import Derived.Test.YtddlebgfbnfbbaaDoorValid
import Derived.Test.YtddlebgfbnfbbaaDoorRefValid
import Derived.Test.YtddlebgfbnfbbaaDoorRefCuts
import Derived.Test.YtddlebgfbnfbbaaDoorNAlive
namespace Go.Proofs.YtddlebgfbnfbbaaDoor.namesCut
open Go.ChangeShapes Go.WideShapes Go.ChangeAt Go.RowKit
open Go.ChangeMaps (open_string shut_string)
set_option linter.unusedVariables false      -- a walk need not use every 'w<i>' (that an integer argument fits its kind)

theorem own : ownKnob Tryd.prog.godebug = none := by kernel_rfl

set_option maxHeartbeats 1600000 in
theorem walk (a0 : ByteArray) (a1 : Int) (w0 : a0.size ≤ maxLen) (w1 : (Lit.int .i64 a1).wf = true) (w : World) (hh : Tabs w) :
    Calls Tryd.prog 4 #[.string a0, .int .i64 a1] w fun e w' => e = .returned (.bool true) ∧ Below w.heap.size w w' := by
  obtain ⟨hn0, hn1⟩ := bounds_i64 w1
  have HW := Lib.hid w0
  clear w1
  by_cases h300 : 300 < a0.size
  · have h1 : (300 : Int) < (a0.size : Int) := by omega
    clear w0 hn0 hn1
    go_enter Tryd.func4, Tryd.ntmps4
    go_wp2_with fail
    refine (alive_any w hh).mono ?_
    rintro e w1 ⟨rfl, hbel⟩
    go_wp2
    go_ret
    exact ⟨rfl, hbel⟩
  · have h1 : ¬ (300 : Int) < (a0.size : Int) := by omega
    clear w0
    by_cases hneg : a1 < 0
    · clear hn0 hn1
      go_enter Tryd.func4, Tryd.ntmps4
      go_wp2_with fail
      refine (alive_any w hh).mono ?_
      rintro e w1 ⟨rfl, hbel⟩
      go_wp2
      go_ret
      exact ⟨rfl, hbel⟩
    · obtain ⟨m, rfl⟩ : ∃ m : Nat, a1 = m := ⟨a1.toNat, by omega⟩
      have hle := upTo_le a0 m 0 (Nat.zero_le _)
      have hfs := front_size a0 _ hle
      have hcf := cnt_front a0 m 0 (Nat.zero_le _)
      have hcr := cnt_rest a0 m 0
      have hct := cnt_tail a0 (upTo a0 m 0)
      have huf := upTo_front a0 m 0 (Nat.zero_le _)
      have hcut := cut_any a0 m
      simp only [Int.toNat_natCast] at hcut
      have hall := cnt_le a0 0
      obtain ⟨z, hz⟩ : ∃ z, upTo a0 m 0 = z := ⟨_, rfl⟩
      rw [hz] at hle hfs hcf hcr hct huf hcut
      obtain ⟨t, ht⟩ : ∃ t, a0.extract 0 z = t := ⟨_, rfl⟩
      rw [ht] at hfs hcf huf hcut
      have htt : t.extract 0 z = t := by rw [← hfs, whole]
      obtain ⟨K, hK⟩ : ∃ K, cntFrom a0 0 = K := ⟨_, rfl⟩
      rw [hK] at hcf hcr hall
      have hcount := fun w => count_any a0 w HW.out
      rw [hK] at hcount
      have hcountt := fun w => count_any t w (by have := HW.out; omega)
      rw [hcf] at hcountt
      have hcountr := fun w => count_any (a0.extract z a0.size) w (by rw [Go.Lib.tail_size]; have := HW.out; omega)
      rw [hct, hcr] at hcountr
      have hcutt := cut_any t m
      simp only [Int.toNat_natCast] at hcutt
      rw [huf, htt] at hcutt
      have hlez : ¬ (a0.size : Int) < (z : Int) := by omega
      have hlez2 : (z : Int) ≤ (a0.size : Int) := by omega
      have htw := HW.out
      have htl : t.size ≤ maxLen := by omega
      have HTL := Lib.hid htl
      clear hz hcf hcr hct huf htt hK htw htl
      by_cases hfew : K < m
      · have hfz : (K : Int) < (m : Int) := by omega
        rw [show min m K = K by omega] at hcountt
        rw [show K - m = 0 by omega] at hcountr
        clear hcutt hfew
        go_enter Tryd.func4, Tryd.ntmps4
        go_wp2_with fail
        refine (alive_any w hh).mono ?_
        rintro e w1 ⟨rfl, hb1⟩
        go_wp2_with fail
        refine (hcut w1 HW.out hn0 hn1).mono ?_
        rintro e w2 ⟨rfl, hb2⟩
        go_wp2_with fail
        refine (hcountt w2).mono ?_
        rintro e w3 ⟨rfl, hb3⟩
        go_wp2_with fail
        refine (hcount w3).mono ?_
        rintro e w4 ⟨rfl, hb4⟩
        have heq : ((K : Int) == (K : Int)) = true := by simp
        go_wp2_with fail
        refine (hcountr w4).mono ?_
        rintro e w5 ⟨rfl, hb5⟩
        have hb12 := hb1.trans (hb2.mono hb1.size)
        have hb13 := hb12.trans (hb3.mono hb12.size)
        have hb14 := hb13.trans (hb4.mono hb13.size)
        have hb15 := hb14.trans (hb5.mono hb14.size)
        go_wp2
        go_ret
        exact ⟨rfl, hb15⟩
      · have hfz : ¬ (K : Int) < (m : Int) := by omega
        rw [show min m K = m by omega] at hcountt
        obtain ⟨d, hd⟩ : ∃ d, K - m = d := ⟨_, rfl⟩
        rw [hd] at hcountr
        have hsum : (m : Int) + (d : Int) = (K : Int) := by omega
        have hK300 : K ≤ 300 := by omega
        clear hd hfew hall
        go_enter Tryd.func4, Tryd.ntmps4
        go_wp2_with fail
        refine (alive_any w hh).mono ?_
        rintro e w1 ⟨rfl, hb1⟩
        go_wp2_with fail
        refine (hcut w1 HW.out hn0 hn1).mono ?_
        rintro e w2 ⟨rfl, hb2⟩
        go_wp2_with fail
        refine (hcountt w2).mono ?_
        rintro e w3 ⟨rfl, hb3⟩
        go_wp2_with fail
        refine (hcount w3).mono ?_
        rintro e w4 ⟨rfl, hb4⟩
        have heq : ((m : Int) == (m : Int)) = true := by simp
        go_wp2_with fail
        refine (hcountr w4).mono ?_
        rintro e w5 ⟨rfl, hb5⟩
        have heqK : ((K : Int) == (K : Int)) = true := by simp
        go_wp2_with fail
        refine (hcutt w5 HTL.out hn0 hn1).mono ?_
        rintro e w6 ⟨rfl, hb6⟩
        have hb12 := hb1.trans (hb2.mono hb1.size)
        have hb13 := hb12.trans (hb3.mono hb12.size)
        have hb14 := hb13.trans (hb4.mono hb13.size)
        have hb15 := hb14.trans (hb5.mono hb14.size)
        have hb16 := hb15.trans (hb6.mono hb15.size)
        go_wp2
        go_ret
        exact ⟨rfl, hb16⟩

set_option maxRecDepth 100000 in
theorem lifted (os : Os) (started : os.Started) (H : Type) (enc : TypeId × Value → H) :
    ReturnsInHanded {} Tryd.checked os 4 .any (fun w args => (Rows.namesCutSpec.pre enc Tryd.prog Tryd.f4 [] false w args ∧ laidMetH Tryd.prog laid1 w) ∧ sizedMet enc Tryd.prog Tryd.f4 (OpenSpec.ofChange Rows.namesCutSpec) false w args) (Rows.namesCutSpec.post enc Tryd.prog Tryd.f4 false true false false) := by
  refine returnsInHanded_of_change_and (C := Tryd.checked) (X := fun w _ => laidMetH Tryd.prog laid1 w) (fun _ _ _ hh h => h.of_heap hh) own started (by kernel_rfl) Tryd.func4
    (ChangeSpec.witness_shaped (enc := enc) (C := Tryd.checked) (os := os) (X := fun w _ => laidMetH Tryd.prog laid1 w) false (World.laidAll Tryd.prog os laid1) #[.string ByteArray.empty, .int .i64 0] 8 (World.laidAll_os _ _ _) (World.shaped_of_ZipB (by kernel_rfl) (by kernel_rfl)) (by kernel_rfl) (by kernel_rfl) (by kernel_rfl) (door_met os _)) ?_
  intro W base args ds gs before hval0 hW _ _ hL _
  have hval : ∀ (j : Nat) t v, Tryd.f4.params[j]? = some t → args[j]? = some v → Value.okWide Tryd.prog W .any base t v := hval0
  have hW' := hW
  obtain ⟨p, q, hA0, hV, rfl, hfz, hnd⟩ := hW
  have hA : DataW.TrodAll enc Tryd.prog W 0 (fun _ => true) true Tryd.f4.params.toList args.toList ds p := hA0
  rw [Tryd.params4] at hA hval
  obtain ⟨v0, vs0, d0, ds0, p0, q0, hargs, rfl, rfl, h0, r0⟩ := trodAll_cons hA
  obtain ⟨v1, vs1, d1, ds1, p1, q1, rfl, rfl, rfl, h1, r1⟩ := trodAll_cons r0
  obtain ⟨rfl, rfl, rfl⟩ := trodAll_nil r1
  obtain rfl : args = #[v0, v1] := by cases args; simp_all
  obtain ⟨rfl, rfl⟩ := trodVars_none hV
  obtain ⟨a0, rfl, rfl, rfl, w0⟩ := open_string Tryd.underlying9 (hval 0 9 v0 rfl rfl) h0
  obtain ⟨a1, rfl, rfl, rfl, w1⟩ := open_int Tryd.underlying3 (hval 1 3 v1 rfl rfl) h1
  clear hA0 hval0
  simp only [List.append_nil] at hW'
  refine (walk a0 a1 w0 w1 W (of_laid hL)).mono fun e W' ⟨he, bel⟩ => ?_
  subst he
  exact ⟨_, rfl, _, _, _, [], [], [], hW', (trodAll_cons_mk (shut_bool Tryd.underlying4 _) trodAll_mk0), (trodAll_cons_mk (shut_string Tryd.underlying9 w0) (trodAll_cons_mk (shut_int Tryd.underlying3 w1) trodAll_mk0)), rfl, bel.frame _, fun h => by cases h⟩

theorem over : Rows.namesCutRow.holds Tryd.pinned (OpenSpec.ofChange Rows.namesCutSpec) :=
  OpenClaim.holds_of_wide 4 Tryd.f4 rfl rfl rfl rfl rfl rfl rfl ⟨rfl, rfl, rfl, rfl, rfl⟩ rfl rfl rfl rfl rfl (by kernel_rfl) Tryd.func4 (by kernel_rfl)
    (of_decide_eq_true (by kernel_rfl)) (by unfold Func.isWrapper; first | (rw [if_pos (by decide +kernel)]; kernel_rfl) | (rw [if_neg (by decide +kernel)]; exact ⟨rfl, rfl⟩))
    (fun os started H enc _ => lifted os started H enc)

theorem proved : Rows.NamesCutCardSaid :=
  Claim7.holds_tied_plain_at .later [] [.data, .pinned] true (true, "dfb91a640cee4f78bae66a14287d2fb00db62dae2a497d04d981e9d8a0b6174b") false
    over (fun _ h => by cases h) (by kernel_rfl) (fun _ h => by cases h) namesCut_row_tie rfl ⟨rfl, rfl⟩ (by kernel_rfl) rfl
    (fun f fn hf hfn => by
      obtain rfl : f = 4 := Option.some.inj ((show Tryd.prog.funcNamed "cooperage/cooperagelaw3.NamesCut" = some 4 by kernel_rfl).symm.trans hf) |>.symm
      obtain rfl : fn = Tryd.f4 := (Option.some.inj (Tryd.func4.symm.trans hfn)).symm
      exact ⟨by kernel_rfl, fun j t ht => by
        rw [Tryd.params4] at ht
        have hm : t ∈ [9, 3] := by simpa using Array.mem_of_getElem? ht
        have hall : ([9, 3].all fun u => !Tryd.prog.wantsStandIn u) = true := by kernel_rfl
        exact (show Tryd.prog.wantsStandIn t = false by simpa using List.all_eq_true.1 hall t hm)⟩)
    (by kernel_rfl)
#print axioms proved
end Go.Proofs.YtddlebgfbnfbbaaDoor.namesCut
