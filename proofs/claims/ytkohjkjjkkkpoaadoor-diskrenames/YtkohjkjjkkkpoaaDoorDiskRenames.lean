/- Proved: for every two lists of bytes a and b, DiskRenames(a, b) returns true: a file that is renamed over another one is read under that name at once and behind a crash, its own name is told ErrNone, there is one file, and as many bytes are used as it has (of lists of at most 300 bytes each; of longer ones it returns what the example says). Conditions: none on the input; the two tables unicode/utf8.first and unicode/utf8.acceptRanges start as the program lays them (the card ties them; the first is pinned). -/
import Derived.Test.YtkohjkjjkkkpoaaDoorRows
import Derived.WalkKit
import Derived.ProofKit
import Derived.OpenShut
import Derived.ShutString
import Derived.ChangeOld
import Derived.Below
import Derived.LaidMore
import Derived.Stop.Joined
import Derived.SevenTiedAt
import Derived.Lay
import Derived.Deep.QuietTactic
import Derived.BigQuiet
import Derived.Test.YtkohjkjjkkkpoaaDoorCards
import Derived.Test.YtkohjkjjkkkpoaaDoorTie
import Derived.Test.YtkohjkjjkkkpoaaDoorCame
import Derived.Test.YtkohjkjjkkkpoaaDoorDTwo
namespace Go.Proofs.YtkohjkjjkkkpoaaDoor.diskRenames
open Go.ChangeShapes Go.WideShapes Go.ChangeAt Go.RowKit
open Go.ChangeMaps (open_string shut_string)
set_option linter.unusedVariables false

theorem own : ownKnob Tryd.prog.godebug = none := by kernel_rfl
theorem laidOut : laidOutB Tryd.prog = true := by kernel_rfl

/-- WHAT THE WALK IS TOLD OF A SLICE OF INTEGERS THAT CAME IN: it is nil; or it leads to a row of 'cap' cells, the numbers 'zs' (the first 'len' are its elements, the rest its spare room), each fitting its kind. -/
def IsRow (k : IntKind) (w : World) (a : Option Addr) (len cap : Nat) (zs : List Int) : Prop :=
  (a = none ∧ len = 0 ∧ cap = 0 ∧ zs = []) ∨
  ∃ x, a = some x ∧ len ≤ cap ∧ cap ≤ maxLen ∧ zs.length = cap ∧ (∀ i, i < zs.length → w.cell? (x.add i) = some (.int k (zs.getD i 0))) ∧ ∀ n ∈ zs, (Lit.int k n).wf = true

set_option maxHeartbeats 3200000 in
set_option maxRecDepth 4000 in
theorem walk (a0 : Option Addr) (len0 cap0 : Nat) (z0 : List Int) (a1 : Option Addr) (len1 cap1 : Nat) (z1 : List Int) (w : World) (hh : Tabs w) (w0 : IsRow .u8 w a0 len0 cap0 z0) (w1 : IsRow .u8 w a1 len1 cap1 z1) :
    Calls Tryd.prog 6 #[.slice a0 len0 cap0, .slice a1 len1 cap1] w fun e w' => e = .returned (.bool true) ∧ Below w.heap.size w w' := by
  obtain ⟨xs, rfl, hc, hm, hl, hwf, hn⟩ := row_came w0
  obtain ⟨ys, rfl, hc', hm', hl', hwf', hn'⟩ := row_came w1
  have hby : IsBytes xs := fun n hn => bounds_u8 (hwf n hn)
  have hby' : IsBytes ys := fun n hn => bounds_u8 (hwf' n hn)
  clear w1 hwf hwf' w0
  by_cases h300 : 300 < xs.length
  · have h1 : (300 : Int) < (xs.length : Int) := by omega
    go_enter Tryd.func6, Tryd.ntmps6
    go_wp2_with fail
    refine (alive_any w hh).mono ?_
    rintro e w1 ⟨rfl, hbel⟩
    go_wp2
    go_ret
    exact ⟨rfl, hbel⟩
  · have h1 : ¬ (300 : Int) < (xs.length : Int) := by omega
    by_cases h300' : 300 < ys.length
    · have h1' : (300 : Int) < (ys.length : Int) := by omega
      go_enter Tryd.func6, Tryd.ntmps6
      go_wp2_with fail
      refine (alive_any w hh).mono ?_
      rintro e w1 ⟨rfl, hbel⟩
      go_wp2
      go_ret
      exact ⟨rfl, hbel⟩
    · have h1' : ¬ (300 : Int) < (ys.length : Int) := by omega
      have e1 : appendM 1000 [] ⟨#[111, 108, 100]⟩ xs = ([⟨⟨#[111, 108, 100]⟩, xs, xs.length⟩], 0) := append_none old_valid (by omega)
      have e2 : syncM [⟨⟨#[111, 108, 100]⟩, xs, xs.length⟩] ⟨#[111, 108, 100]⟩ = ([⟨⟨#[111, 108, 100]⟩, xs, 0⟩], 0) := sync_self old_valid
      have e3 : appendM 1000 [⟨⟨#[111, 108, 100]⟩, xs, 0⟩] ⟨#[110, 101, 119]⟩ ys = ([⟨⟨#[110, 101, 119]⟩, ys, ys.length⟩, ⟨⟨#[111, 108, 100]⟩, xs, 0⟩], 0) := append_ahead new_valid new_old (by show (xs.length : Int) + (ys.length : Int) ≤ 1000; omega)
      have e4 : syncM [⟨⟨#[110, 101, 119]⟩, ys, ys.length⟩, ⟨⟨#[111, 108, 100]⟩, xs, 0⟩] ⟨#[110, 101, 119]⟩ = ([⟨⟨#[110, 101, 119]⟩, ys, 0⟩, ⟨⟨#[111, 108, 100]⟩, xs, 0⟩], 0) := sync_first new_valid
      have e5 : renameM [⟨⟨#[110, 101, 119]⟩, ys, 0⟩, ⟨⟨#[111, 108, 100]⟩, xs, 0⟩] ⟨#[110, 101, 119]⟩ ⟨#[111, 108, 100]⟩ = ([⟨⟨#[111, 108, 100]⟩, ys, 0⟩], 0) := rename_over new_valid old_valid (ltS_ne new_old)
      have e6 : crashM [⟨⟨#[111, 108, 100]⟩, ys, 0⟩] [] = [⟨⟨#[111, 108, 100]⟩, ys, 0⟩] := crash_synced _
      have e7 : getM [⟨⟨#[111, 108, 100]⟩, ys, 0⟩] ⟨#[111, 108, 100]⟩ = (⟨⟨#[111, 108, 100]⟩, ys, 0⟩, 0) := get_self ⟨⟨#[111, 108, 100]⟩, ys, 0⟩ [] old_valid
      have e8 : getM [⟨⟨#[111, 108, 100]⟩, ys, 0⟩] ⟨#[110, 101, 119]⟩ = (noFile, 8) := get_ahead new_valid new_old
      have eu : usedM [⟨⟨#[111, 108, 100]⟩, ys, 0⟩] = ys.length := by simp [usedM]
      have hb1 : usedM [⟨⟨#[111, 108, 100]⟩, xs, xs.length⟩] ≤ 549755813888 := by simp [usedM]; omega
      have hb2 : usedM [⟨⟨#[111, 108, 100]⟩, xs, 0⟩] ≤ 549755813888 := by simp [usedM]; omega
      have hb3 : usedM [⟨⟨#[110, 101, 119]⟩, ys, ys.length⟩, ⟨⟨#[111, 108, 100]⟩, xs, 0⟩] ≤ 549755813888 := by simp [usedM]; omega
      have hb4 : usedM [⟨⟨#[110, 101, 119]⟩, ys, 0⟩, ⟨⟨#[111, 108, 100]⟩, xs, 0⟩] ≤ 549755813888 := by simp [usedM]; omega
      have hb5 : usedM [⟨⟨#[111, 108, 100]⟩, ys, 0⟩] ≤ 549755813888 := by simp [usedM]; omega
      have E1 := Lib.hid e1
      have E2 := Lib.hid e2
      have E3 := Lib.hid e3
      have E4 := Lib.hid e4
      have E5 := Lib.hid e5
      have E6 := Lib.hid e6
      have E7 := Lib.hid e7
      have E8 := Lib.hid e8
      have EU := Lib.hid eu
      have B1 := Lib.hid hb1
      have B2 := Lib.hid hb2
      have B3 := Lib.hid hb3
      have B4 := Lib.hid hb4
      have B5 := Lib.hid hb5
      have HN := Lib.hid hn
      have HN' := Lib.hid hn'
      have HBY := Lib.hid hby
      have HBY' := Lib.hid hby'
      have HX := Lib.hid (show xs.length ≤ 300 by omega)
      have HY := Lib.hid (show ys.length ≤ 300 by omega)
      have HL := Lib.hid hl
      have HL' := Lib.hid hl'
      have HC := Lib.hid hc
      have HC' := Lib.hid hc'
      clear e1 e2 e3 e4 e5 e6 e7 e8 eu hb1 hb2 hb3 hb4 hb5 hn hn' hby hby' h300 h300' hl hl' hc hc'
      go_enter Tryd.func6, Tryd.ntmps6
      go_wp2_with fail
      refine (alive_any w hh).mono ?_
      rintro e w1 ⟨rfl, hbel⟩
      have HN1 := Lib.hid (dw_new w w1 hbel hh 1000 (by omega) (by omega))
      clear hbel
      go_wp2_with fail
      clear h1 h1'
      refine HN1.out.mono ?_
      rintro e w2 ⟨rfl, d2⟩
      obtain ⟨p, hp⟩ : ∃ p, w1.heap.size = p := ⟨_, rfl⟩
      rw [hp] at d2 ⊢
      have D2 := Lib.hid d2
      clear hp d2 HN1
      go_wp2_with fail
      refine (dw_append D2.out ⟨#[111, 108, 100]⟩ a0 xs cap0 (by decide) (HL.out.below D2.out.since) HC.out HN.out HBY.out (by have := HX.out; omega) (by rw [E1.out]; simp) (by rw [E1.out]; exact B1.out)).mono ?_
      rintro e w3 ⟨rfl, d3⟩
      rw [E1.out] at d3 ⊢
      have D3 := Lib.hid d3
      clear d3 D2
      go_wp2_with fail
      refine (dw_sync D3.out ⟨#[111, 108, 100]⟩ (by decide) (by rw [E2.out]; simp) (by rw [E2.out]; exact B2.out)).mono ?_
      rintro e w4 ⟨rfl, d4⟩
      rw [E2.out] at d4 ⊢
      have D4 := Lib.hid d4
      clear d4 D3
      go_wp2_with fail
      refine (dw_append D4.out ⟨#[110, 101, 119]⟩ a1 ys cap1 (by decide) (HL'.out.below D4.out.since) HC'.out HN'.out HBY'.out (by have := HY.out; omega) (by rw [E3.out]; simp) (by rw [E3.out]; exact B3.out)).mono ?_
      rintro e w5 ⟨rfl, d5⟩
      rw [E3.out] at d5 ⊢
      have D5 := Lib.hid d5
      clear d5 D4
      go_wp2_with fail
      refine (dw_sync D5.out ⟨#[110, 101, 119]⟩ (by decide) (by rw [E4.out]; simp) (by rw [E4.out]; exact B4.out)).mono ?_
      rintro e w6 ⟨rfl, d6⟩
      rw [E4.out] at d6 ⊢
      have D6 := Lib.hid d6
      clear d6 D5
      go_wp2_with fail
      refine (dw_rename D6.out ⟨#[110, 101, 119]⟩ ⟨#[111, 108, 100]⟩ (by decide) (by decide) (by rw [E5.out]; simp) (by rw [E5.out]; exact B5.out)).mono ?_
      rintro e w7 ⟨rfl, d7⟩
      rw [E5.out] at d7 ⊢
      have D7 := Lib.hid d7
      clear d7 D6
      go_wp2_with fail
      refine (dw_crash D7.out none [] 0 (fun _ _ h => absurd rfl h) (Nat.le_refl _) (by simp [maxLen]) (by rw [E6.out]; simp) (by rw [E6.out]; exact B5.out)).mono ?_
      rintro e w8 ⟨rfl, d8⟩
      rw [E6.out] at d8
      have D8 := Lib.hid d8
      clear d8 D7
      go_wp2_with fail
      refine (dw_read D8.out ⟨#[111, 108, 100]⟩ (by decide)).mono ?_
      rintro e w9 ⟨v9, rfl, ho9, _, d9⟩
      rw [E7.out] at ho9 ⊢
      dsimp only at ho9 ⊢
      obtain ⟨A9, c9, rfl, _, _, hl9⟩ := ho9.parts
      have HL9 := Lib.hid hl9
      have D9 := Lib.hid d9
      clear d9 D8 ho9 hl9
      go_wp2_with fail
      refine (dw_read D9.out ⟨#[110, 101, 119]⟩ (by decide)).mono ?_
      rintro e w10 ⟨v10, rfl, ho10, hb10, d10⟩
      rw [E8.out] at ho10 ⊢
      dsimp only at ho10 ⊢
      obtain ⟨A10, c10, rfl, _, _, _⟩ := ho10.parts
      have CV := Lib.hid (fun W (hb : Below w10.heap.size w10 W) => conv_bytes (P := Tryd.prog) (xs := ys) 31 9 5 Tryd.underlying31 Tryd.underlying5 Tryd.underlying9 ((HL9.out.below hb10).below (hb.mono hb10.size)) c9)
      have hbq := d10.since
      have CY := Lib.hid (fun W (hb : Below w10.heap.size w10 W) => conv_bytes (P := Tryd.prog) (xs := ys) 31 9 5 Tryd.underlying31 Tryd.underlying5 Tryd.underlying9 ((HL'.out.below hbq).below (hb.mono hbq.size)) cap1)
      obtain ⟨TY, hTY⟩ : ∃ TY, textOf ys = TY := ⟨_, rfl⟩
      rw [hTY] at CV CY
      have hqz : (TY.toList == TY.toList) = true := by simp
      have hqy : ((ys.length : Int) == (ys.length : Int)) = true := by simp
      have hqy2 : (ys.length == ys.length) = true := by simp
      have D10 := Lib.hid d10
      have HNUM := Lib.hid num_any
      clear hTY d10 D9 HL9 ho10 hb10 hbq HL HL' HC HC' HBY HBY' HX HY HN HN'
      have kz := CV.out w10 (Below.refl _ _)
      have ky := CY.out w10 (Below.refl _ _)
      go_wp2_with (first | (go_at_call 20; refine (HNUM.out _ _).mono ?_; rintro e w' ⟨rfl, rfl⟩))
      refine (dw_list D10.out).mono ?_
      rintro e w11 ⟨v11, rfl, hr11, hb11, d11⟩
      have D11 := Lib.hid d11
      obtain ⟨A11, c11, rfl⟩ := row_form hr11
      clear hb11 d11 hr11
      go_wp2_with fail
      refine (dw_used D11.out).mono ?_
      rintro e W ⟨rfl, rfl⟩
      rw [EU.out]
      go_wp2
      go_ret
      exact ⟨rfl, D11.out.since⟩

set_option maxRecDepth 100000 in
theorem lifted (os : Os) (started : os.Started) (H : Type) (enc : TypeId × Value → H) :
    ReturnsInHanded {} Tryd.checked os 6 .any (fun w args => (Rows.diskRenamesSpec.pre enc Tryd.prog Tryd.f6 [] false w args ∧ laidMetH Tryd.prog laid1 w) ∧ sizedMet enc Tryd.prog Tryd.f6 (OpenSpec.ofChange Rows.diskRenamesSpec) false w args) (Rows.diskRenamesSpec.post enc Tryd.prog Tryd.f6 false true false false) := by
  refine returnsInHanded_of_change_and (C := Tryd.checked) (X := fun w _ => laidMetH Tryd.prog laid1 w) (fun _ _ _ hh h => h.of_heap hh) own started (by kernel_rfl) Tryd.func6
    (ChangeSpec.witness_shaped (enc := enc) (C := Tryd.checked) (os := os) (X := fun w _ => laidMetH Tryd.prog laid1 w) false (World.laidAll Tryd.prog os laid1) #[.slice none 0 0, .slice none 0 0] 8 (World.laidAll_os _ _ _) (World.shaped_of_ZipB (by kernel_rfl) (by kernel_rfl)) (by kernel_rfl) (by kernel_rfl) (by kernel_rfl) (door_met os _)) ?_
  intro W base args ds gs before hval0 hW _ _ hL _
  have hval : ∀ (j : Nat) t v, Tryd.f6.params[j]? = some t → args[j]? = some v → Value.okWide Tryd.prog W .any base t v := hval0
  have hW' := hW
  obtain ⟨p, q, hA0, hV, rfl, hfz, hnd⟩ := hW
  have hA : DataW.TrodAll enc Tryd.prog W 0 (fun _ => true) true Tryd.f6.params.toList args.toList ds p := hA0
  rw [Tryd.params6] at hA hval
  obtain ⟨v0, vs0, d0, ds0, p0, q0, hargs, rfl, rfl, h0, r0⟩ := trodAll_cons hA
  obtain ⟨v1, vs1, d1, ds1, p1, q1, rfl, rfl, rfl, h1, r1⟩ := trodAll_cons r0
  obtain ⟨rfl, rfl, rfl⟩ := trodAll_nil r1
  obtain rfl : args = #[v0, v1] := by cases args; simp_all
  obtain ⟨rfl, rfl⟩ := trodVars_none hV
  obtain ⟨a0, len0, cap0, rfl⟩ := okWide_slice Tryd.underlying31 (hval 0 31 v0 rfl rfl)
  have k0 := h0
  have lt0 : ∀ x ∈ p0, x.block < W.heap.size := by obtain ⟨m, hm⟩ := k0; exact DataW.trod_lt m _ _ _ hm
  obtain ⟨z0, w0⟩ : ∃ zs, IsRow .u8 W a0 len0 cap0 zs := by
    obtain ⟨fuel, hf⟩ := h0
    rcases open_ints Tryd.underlying31 Tryd.underlying5 (by kernel_rfl) hf with ⟨hcs, _⟩ | ⟨x, l, c, zs, hcs, _, hl, hm, hz, _, hcell, hwz⟩
    · simp [Value.cells] at hcs
      obtain ⟨rfl, rfl, rfl⟩ := hcs
      exact ⟨[], .inl ⟨rfl, rfl, rfl, rfl⟩⟩
    · simp [Value.cells] at hcs
      obtain ⟨rfl, rfl, rfl⟩ := hcs
      exact ⟨zs, .inr ⟨_, rfl, hl, hm, by simpa using hz, hcell, hwz⟩⟩
  obtain ⟨a1, len1, cap1, rfl⟩ := okWide_slice Tryd.underlying31 (hval 1 31 v1 rfl rfl)
  have k1 := h1
  have lt1 : ∀ x ∈ p1, x.block < W.heap.size := by obtain ⟨m, hm⟩ := k1; exact DataW.trod_lt m _ _ _ hm
  obtain ⟨z1, w1⟩ : ∃ zs, IsRow .u8 W a1 len1 cap1 zs := by
    obtain ⟨fuel, hf⟩ := h1
    rcases open_ints Tryd.underlying31 Tryd.underlying5 (by kernel_rfl) hf with ⟨hcs, _⟩ | ⟨x, l, c, zs, hcs, _, hl, hm, hz, _, hcell, hwz⟩
    · simp [Value.cells] at hcs
      obtain ⟨rfl, rfl, rfl⟩ := hcs
      exact ⟨[], .inl ⟨rfl, rfl, rfl, rfl⟩⟩
    · simp [Value.cells] at hcs
      obtain ⟨rfl, rfl, rfl⟩ := hcs
      exact ⟨zs, .inr ⟨_, rfl, hl, hm, by simpa using hz, hcell, hwz⟩⟩
  clear hA0 hval0
  refine (walk a0 len0 cap0 z0 a1 len1 cap1 z1 W (of_laid hL) w0 w1).mono fun e W' ⟨he, bel⟩ => ?_
  subst he
  exact ⟨_, rfl, _, _, _, [], _, [], hW', trodAll_mk1 (shut_bool Tryd.underlying4 _), (trodAll_cons_mk (Below.trod laidOut (by kernel_rfl) (of_decide_eq_true (by kernel_rfl)) k0 bel lt0) (trodAll_cons_mk (Below.trod laidOut (by kernel_rfl) (of_decide_eq_true (by kernel_rfl)) k1 bel lt1) trodAll_mk0)), rfl, bel.frame _, fun h => by cases h⟩

theorem over : Rows.diskRenamesRow.holds Tryd.pinned (OpenSpec.ofChange Rows.diskRenamesSpec) :=
  OpenClaim.holds_of_wide 6 Tryd.f6 rfl rfl rfl rfl rfl rfl rfl ⟨rfl, rfl, rfl, rfl, rfl⟩ rfl rfl rfl rfl rfl (by kernel_rfl) Tryd.func6 (by kernel_rfl)
    (of_decide_eq_true (by kernel_rfl)) (by unfold Func.isWrapper; first | (rw [if_pos (by decide +kernel)]; kernel_rfl) | (rw [if_neg (by decide +kernel)]; exact ⟨rfl, rfl⟩))
    (fun os started H enc _ => lifted os started H enc)

theorem proved : Rows.DiskRenamesCardSaid :=
  Claim7.holds_tied_plain_at .later [] [.data, .pinned] true (true, "9f9c79e53b6b38d304d4d1d850643538cce8ad8e1741b03c0c24b6d5f3b3483f") false
    over (fun _ h => by cases h) (by kernel_rfl) (fun _ h => by cases h) diskRenames_row_tie rfl ⟨rfl, rfl⟩ (by kernel_rfl) rfl
    (fun f fn hf hfn => by
      obtain rfl : f = 6 := Option.some.inj ((show Tryd.prog.funcNamed "cooperage/cooperagelaw6.DiskRenames" = some 6 by kernel_rfl).symm.trans hf) |>.symm
      obtain rfl : fn = Tryd.f6 := (Option.some.inj (Tryd.func6.symm.trans hfn)).symm
      exact ⟨by kernel_rfl, fun j t ht => by
        rw [Tryd.params6] at ht
        have hm : t ∈ [31, 31] := by simpa using Array.mem_of_getElem? ht
        have hall : ([31, 31].all fun u => !Tryd.prog.wantsStandIn u) = true := by kernel_rfl
        exact (show Tryd.prog.wantsStandIn t = false by simpa using List.all_eq_true.1 hall t hm)⟩)
    (by kernel_rfl)
#print axioms proved
end Go.Proofs.YtkohjkjjkkkpoaaDoor.diskRenames
