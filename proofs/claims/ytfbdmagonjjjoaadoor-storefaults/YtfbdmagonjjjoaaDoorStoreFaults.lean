/- Proved: for every two lists of bytes a and b and every number fault, StoreFaults(a, b, fault) returns true: an object that is put while the number is 0 is put, and deleted is gone; while it is 2 both are done and told as ErrDown; at any other number nothing is done, and ErrDown told (of lists of at most 200 bytes each; of longer ones it returns what the example says). Conditions: none on the input; the two tables unicode/utf8.first and unicode/utf8.acceptRanges start as the program lays them (the card ties them; the first is pinned). -/
import Derived.Test.YtfbdmagonjjjoaaDoorRows
import Derived.WalkKit
import Derived.ProofKit
import Derived.OpenShut
import Derived.ShutString
import Derived.ChangeOld
import Derived.Below
import Derived.LaidMore
import Derived.Stop.Joined
import Derived.SevenTiedAt
import Derived.Lay
import Derived.Deep.QuietTactic
import Derived.BigQuiet
import Derived.Test.YtfbdmagonjjjoaaDoorCards
import Derived.Test.YtfbdmagonjjjoaaDoorTie
import Derived.Test.YtfbdmagonjjjoaaDoorCame
import Derived.Test.YtfbdmagonjjjoaaDoorSAlive
namespace Go.Proofs.YtfbdmagonjjjoaaDoor.storeFaults
open Go.ChangeShapes Go.WideShapes Go.ChangeAt Go.RowKit
open Go.ChangeMaps (open_string shut_string)
set_option linter.unusedVariables false

theorem own : ownKnob Tryd.prog.godebug = none := by kernel_rfl
theorem laidOut : laidOutB Tryd.prog = true := by kernel_rfl

/-- WHAT THE WALK IS TOLD OF A SLICE OF INTEGERS THAT CAME IN: it is nil; or it leads to a row of 'cap' cells, the numbers 'zs' (the first 'len' are its elements, the rest its spare room), each fitting its kind. -/
def IsRow (k : IntKind) (w : World) (a : Option Addr) (len cap : Nat) (zs : List Int) : Prop :=
  (a = none ∧ len = 0 ∧ cap = 0 ∧ zs = []) ∨
  ∃ x, a = some x ∧ len ≤ cap ∧ cap ≤ maxLen ∧ zs.length = cap ∧ (∀ i, i < zs.length → w.cell? (x.add i) = some (.int k (zs.getD i 0))) ∧ ∀ n ∈ zs, (Lit.int k n).wf = true

set_option maxHeartbeats 3200000 in
set_option maxRecDepth 4000 in
theorem walk (a0 : Option Addr) (len0 cap0 : Nat) (z0 : List Int) (a1 : Option Addr) (len1 cap1 : Nat) (z1 : List Int) (a2 : Int) (w : World) (hh : Tabs w) (w0 : IsRow .u8 w a0 len0 cap0 z0) (w1 : IsRow .u8 w a1 len1 cap1 z1) (w2 : (Lit.int .i64 a2).wf = true) :
    Calls Tryd.prog 4 #[.slice a0 len0 cap0, .slice a1 len1 cap1, .int .i64 a2] w fun e w' => e = .returned (.bool true) ∧ Below w.heap.size w w' := by
  obtain ⟨xs, rfl, hc, hm, hl, hwf, hn⟩ := row_came w0
  obtain ⟨ys, rfl, hc', hm', hl', hwf', hn'⟩ := row_came w1
  have hby : IsBytes xs := fun n hn => bounds_u8 (hwf n hn)
  have hby' : IsBytes ys := fun n hn => bounds_u8 (hwf' n hn)
  clear w1 hwf hwf' w0 w2
  by_cases h200 : 200 < xs.length
  · have h1 : (200 : Int) < (xs.length : Int) := by omega
    go_enter Tryd.func4, Tryd.ntmps4
    go_wp2_with fail
    refine (alive_any w hh).mono ?_
    rintro e w1 ⟨rfl, hbel⟩
    go_wp2
    go_ret
    exact ⟨rfl, hbel⟩
  · have h1 : ¬ (200 : Int) < (xs.length : Int) := by omega
    by_cases h200' : 200 < ys.length
    · have h1' : (200 : Int) < (ys.length : Int) := by omega
      go_enter Tryd.func4, Tryd.ntmps4
      go_wp2_with fail
      refine (alive_any w hh).mono ?_
      rintro e w1 ⟨rfl, hbel⟩
      go_wp2
      go_ret
      exact ⟨rfl, hbel⟩
    · have h1' : ¬ (200 : Int) < (ys.length : Int) := by omega
      obtain ⟨zs, F, l3, r5, hcase, e2, e4, e5, hzl⟩ : ∃ (zs : List Int) (F : Int) (l3 : List FileM) (r5 : FileM × Int), ((a2 = 0 ∧ zs = ys ∧ F = 0 ∧ r5.2 = 8) ∨ (a2 = 2 ∧ zs = ys ∧ F = 9 ∧ r5.2 = 8) ∨ (a2 ≠ 0 ∧ a2 ≠ 2 ∧ zs = xs ∧ F = 9 ∧ r5.2 = 0)) ∧
          faulty (([a2] : List Int).headD 0) [⟨⟨#[111]⟩, xs, 0⟩] (putM 500 [⟨⟨#[111]⟩, xs, 0⟩] ⟨#[111]⟩ ys) = ([⟨⟨#[111]⟩, zs, 0⟩], F) ∧ faulty (([a2] : List Int).headD 0) [⟨⟨#[111]⟩, zs, 0⟩] (removeM [⟨⟨#[111]⟩, zs, 0⟩] ⟨#[111]⟩) = (l3, F) ∧ faultyG (([] : List Int).headD 0) (getM l3 ⟨#[111]⟩) = r5 ∧ (zs.length ≤ 200 ∧ l3.length ≤ 1 ∧ usedM l3 ≤ 200) := by
        have q1 : putM 500 [⟨⟨#[111]⟩, xs, 0⟩] ⟨#[111]⟩ ys = ([⟨⟨#[111]⟩, ys, 0⟩], 0) := put_self name_o (by omega)
        have q2 : removeM [⟨⟨#[111]⟩, ys, 0⟩] ⟨#[111]⟩ = ([], 0) := rem_self name_o
        have q3 : getM [⟨⟨#[111]⟩, xs, 0⟩] ⟨#[111]⟩ = (⟨⟨#[111]⟩, xs, 0⟩, 0) := get_self ⟨⟨#[111]⟩, xs, 0⟩ [] name_o
        have q4 : getM [] ⟨#[111]⟩ = (noFile, 8) := getM_none name_o rfl
        by_cases k0 : a2 = 0
        · subst k0
          exact ⟨ys, 0, [], (noFile, 8), .inl ⟨rfl, rfl, rfl, rfl⟩, q1, q2, q4, by omega, by simp, by simp [usedM]⟩
        · by_cases k2 : a2 = 2
          · subst k2
            refine ⟨ys, 9, [], (noFile, 8), .inr (.inl ⟨rfl, rfl, rfl, rfl⟩), ?_, ?_, q4, by omega, by simp, by simp [usedM]⟩
            · rw [q1]; rfl
            · rw [q2]; rfl
          · exact ⟨xs, 9, [⟨⟨#[111]⟩, xs, 0⟩], (⟨⟨#[111]⟩, xs, 0⟩, 0), .inr (.inr ⟨k0, k2, rfl, rfl, rfl⟩), faulty_no k0 k2 _ _, faulty_no k0 k2 _ _, q3, by omega, by simp, by simp [usedM]; omega⟩
      have e1 : faulty (([] : List Int).headD 0) [] (putM 500 [] ⟨#[111]⟩ xs) = ([⟨⟨#[111]⟩, xs, 0⟩], 0) := put_none (b := xs) (room := 500) name_o (by omega)
      have e3 : faultyG (([] : List Int).headD 0) (getM [⟨⟨#[111]⟩, zs, 0⟩] ⟨#[111]⟩) = (⟨⟨#[111]⟩, zs, 0⟩, 0) := get_self ⟨⟨#[111]⟩, zs, 0⟩ [] name_o
      have hb1 : usedM [⟨⟨#[111]⟩, xs, 0⟩] ≤ 549755813888 := by simp [usedM]; omega
      have hb2 : usedM [⟨⟨#[111]⟩, zs, 0⟩] ≤ 549755813888 := by simp [usedM]; omega
      have E1 := Lib.hid e1
      have E2 := Lib.hid e2
      have E3 := Lib.hid e3
      have E4 := Lib.hid e4
      have E5 := Lib.hid e5
      have B1 := Lib.hid hb1
      have B2 := Lib.hid hb2
      have HZ := Lib.hid hzl
      have HCASE := Lib.hid hcase
      have HN := Lib.hid hn
      have HN' := Lib.hid hn'
      have HBY := Lib.hid hby
      have HBY' := Lib.hid hby'
      have HX := Lib.hid (show xs.length ≤ 200 by omega)
      have HY := Lib.hid (show ys.length ≤ 200 by omega)
      have HL := Lib.hid hl
      have HL' := Lib.hid hl'
      have HC := Lib.hid hc
      have HC' := Lib.hid hc'
      clear e1 e2 e3 e4 e5 hb1 hb2 hzl hcase hn hn' hby hby' h200 h200' hl hl' hc hc'
      go_enter Tryd.func4, Tryd.ntmps4
      go_wp2_with fail
      refine (alive_any w hh).mono ?_
      rintro e w1 ⟨rfl, hbel⟩
      have HN1 := Lib.hid (sx_new w w1 hbel hh 500 (by omega) (by omega))
      clear hbel
      go_wp2_with fail
      clear h1 h1'
      refine HN1.out.mono ?_
      rintro e w2 ⟨rfl, d2⟩
      obtain ⟨p, hp⟩ : ∃ p, w1.heap.size = p := ⟨_, rfl⟩
      rw [hp] at d2 ⊢
      have D2 := Lib.hid d2
      clear hp d2 HN1
      go_wp2_with fail
      refine (sx_put D2.out ⟨#[111]⟩ a0 xs cap0 (by decide) (HL.out.below D2.out.since) HC.out HN.out HBY.out (by have := HX.out; omega) (by rw [E1.out]; simp) (by rw [E1.out]; exact B1.out)).mono ?_
      rintro e w3 ⟨rfl, d3⟩
      rw [E1.out] at d3 ⊢
      have D3 : Hid (SX w w3 p 500 [⟨⟨#[111]⟩, xs, 0⟩] [] none []) := Lib.hid d3
      clear d3 D2 E1
      go_wp2_with fail
      refine (sx_fail1 D3.out a2 (by simp)).mono ?_
      rintro e w4 ⟨rfl, d4⟩
      have D4 : Hid (SX w w4 p 500 [⟨⟨#[111]⟩, xs, 0⟩] [a2] none []) := Lib.hid d4
      clear d4 D3
      go_wp2_with fail
      refine (sx_put D4.out ⟨#[111]⟩ a1 ys cap1 (by decide) (HL'.out.below D4.out.since) HC'.out HN'.out HBY'.out (by have := HY.out; omega) (by rw [E2.out]; simp) (by rw [E2.out]; exact B2.out)).mono ?_
      rintro e w5 ⟨rfl, d5⟩
      rw [E2.out] at d5 ⊢
      have D5 : Hid (SX w w5 p 500 [⟨⟨#[111]⟩, zs, 0⟩] [] none []) := Lib.hid d5
      clear d5 D4 E2
      go_wp2_with fail
      refine (sx_get D5.out ⟨#[111]⟩ (by decide)).mono ?_
      rintro e w6 ⟨A6, c6, rfl, _, _, _, d6⟩
      rw [E3.out] at d6 ⊢
      dsimp only at d6 ⊢
      have D6 : Hid (SX w w6 p 500 [⟨⟨#[111]⟩, zs, 0⟩] [] A6 zs) := Lib.hid d6
      clear d6 D5 E3
      go_wp2_with fail
      refine (sx_fail1 D6.out a2 (by simp)).mono ?_
      rintro e w7 ⟨rfl, d7⟩
      have D7 : Hid (SX w w7 p 500 [⟨⟨#[111]⟩, zs, 0⟩] [a2] A6 zs) := Lib.hid d7
      clear d7 D6
      go_wp2_with fail
      refine (sx_delete D7.out ⟨#[111]⟩ (by decide) (by rw [E4.out]; have := HZ.out.2.1; dsimp only; omega) (by rw [E4.out]; have := HZ.out.2.2; dsimp only; omega)).mono ?_
      rintro e w8 ⟨rfl, d8⟩
      rw [E4.out] at d8 ⊢
      dsimp only at d8 ⊢
      have D8 : Hid (SX w w8 p 500 l3 [] A6 zs) := Lib.hid d8
      clear d8 D7 E4
      go_wp2_with fail
      refine (sx_get D8.out ⟨#[111]⟩ (by decide)).mono ?_
      rintro e w9 ⟨A9, c9, rfl, _, _, d9, _⟩
      rw [E5.out]
      have hbq := d9.since
      have HB := Lib.hid hbq
      have kz : (convert 32 9 (.slice A6 zs.length c6)).run Tryd.prog w9 = .ok (.string (textOf zs)) w9 := conv_bytes (P := Tryd.prog) (xs := zs) 32 9 5 Tryd.underlying32 Tryd.underlying5 Tryd.underlying9 d9.lies c6
      have kx : (convert 32 9 (.slice a0 xs.length cap0)).run Tryd.prog w9 = .ok (.string (textOf xs)) w9 := conv_bytes (P := Tryd.prog) (xs := xs) 32 9 5 Tryd.underlying32 Tryd.underlying5 Tryd.underlying9 (HL.out.below hbq) cap0
      have ky : (convert 32 9 (.slice a1 ys.length cap1)).run Tryd.prog w9 = .ok (.string (textOf ys)) w9 := conv_bytes (P := Tryd.prog) (xs := ys) 32 9 5 Tryd.underlying32 Tryd.underlying5 Tryd.underlying9 (HL'.out.below hbq) cap1
      have HNUM := Lib.hid (fun k W => num_any k W)
      have hcase := HCASE.out
      clear d9 hbq D8 E5 HL HL' HC HC' HBY HBY' HX HY HN HN' HZ HCASE B1 B2
      rcases hcase with ⟨rfl, rfl, rfl, h5⟩ | ⟨rfl, rfl, rfl, h5⟩ | ⟨k0, k2, rfl, rfl, h5⟩
      · rw [h5]
        generalize textOf zs = TZ at *
        have hqz : (TZ.toList == TZ.toList) = true := by simp
        clear kx
        go_wp2_with (first | (go_at_call 15; refine (HNUM.out _ _).mono ?_; rintro e w' ⟨rfl, rfl⟩))
        go_ret
        exact ⟨rfl, HB.out⟩
      · rw [h5]
        generalize textOf zs = TZ at *
        have hqz : (TZ.toList == TZ.toList) = true := by simp
        clear kx
        go_wp2_with (first | (go_at_call 15; refine (HNUM.out _ _).mono ?_; rintro e w' ⟨rfl, rfl⟩))
        go_ret
        exact ⟨rfl, HB.out⟩
      · rw [h5]
        generalize textOf zs = TZ at *
        have hqz : (TZ.toList == TZ.toList) = true := by simp
        have b0 : (a2 == 0) = false := by simpa using k0
        have b2 : (a2 == 2) = false := by simpa using k2
        clear ky k0 k2
        go_wp2_with (first | (go_at_call 15; refine (HNUM.out _ _).mono ?_; rintro e w' ⟨rfl, rfl⟩))
        go_ret
        exact ⟨rfl, HB.out⟩

set_option maxRecDepth 100000 in
theorem lifted (os : Os) (started : os.Started) (H : Type) (enc : TypeId × Value → H) :
    ReturnsInHanded {} Tryd.checked os 4 .any (fun w args => (Rows.storeFaultsSpec.pre enc Tryd.prog Tryd.f4 [] false w args ∧ laidMetH Tryd.prog laid1 w) ∧ sizedMet enc Tryd.prog Tryd.f4 (OpenSpec.ofChange Rows.storeFaultsSpec) false w args) (Rows.storeFaultsSpec.post enc Tryd.prog Tryd.f4 false true false false) := by
  refine returnsInHanded_of_change_and (C := Tryd.checked) (X := fun w _ => laidMetH Tryd.prog laid1 w) (fun _ _ _ hh h => h.of_heap hh) own started (by kernel_rfl) Tryd.func4
    (ChangeSpec.witness_shaped (enc := enc) (C := Tryd.checked) (os := os) (X := fun w _ => laidMetH Tryd.prog laid1 w) false (World.laidAll Tryd.prog os laid1) #[.slice none 0 0, .slice none 0 0, .int .i64 0] 8 (World.laidAll_os _ _ _) (World.shaped_of_ZipB (by kernel_rfl) (by kernel_rfl)) (by kernel_rfl) (by kernel_rfl) (by kernel_rfl) (door_met os _)) ?_
  intro W base args ds gs before hval0 hW _ _ hL _
  have hval : ∀ (j : Nat) t v, Tryd.f4.params[j]? = some t → args[j]? = some v → Value.okWide Tryd.prog W .any base t v := hval0
  have hW' := hW
  obtain ⟨p, q, hA0, hV, rfl, hfz, hnd⟩ := hW
  have hA : DataW.TrodAll enc Tryd.prog W 0 (fun _ => true) true Tryd.f4.params.toList args.toList ds p := hA0
  rw [Tryd.params4] at hA hval
  obtain ⟨v0, vs0, d0, ds0, p0, q0, hargs, rfl, rfl, h0, r0⟩ := trodAll_cons hA
  obtain ⟨v1, vs1, d1, ds1, p1, q1, rfl, rfl, rfl, h1, r1⟩ := trodAll_cons r0
  obtain ⟨v2, vs2, d2, ds2, p2, q2, rfl, rfl, rfl, h2, r2⟩ := trodAll_cons r1
  obtain ⟨rfl, rfl, rfl⟩ := trodAll_nil r2
  obtain rfl : args = #[v0, v1, v2] := by cases args; simp_all
  obtain ⟨rfl, rfl⟩ := trodVars_none hV
  obtain ⟨a0, len0, cap0, rfl⟩ := okWide_slice Tryd.underlying32 (hval 0 32 v0 rfl rfl)
  have k0 := h0
  have lt0 : ∀ x ∈ p0, x.block < W.heap.size := by obtain ⟨m, hm⟩ := k0; exact DataW.trod_lt m _ _ _ hm
  obtain ⟨z0, w0⟩ : ∃ zs, IsRow .u8 W a0 len0 cap0 zs := by
    obtain ⟨fuel, hf⟩ := h0
    rcases open_ints Tryd.underlying32 Tryd.underlying5 (by kernel_rfl) hf with ⟨hcs, _⟩ | ⟨x, l, c, zs, hcs, _, hl, hm, hz, _, hcell, hwz⟩
    · simp [Value.cells] at hcs
      obtain ⟨rfl, rfl, rfl⟩ := hcs
      exact ⟨[], .inl ⟨rfl, rfl, rfl, rfl⟩⟩
    · simp [Value.cells] at hcs
      obtain ⟨rfl, rfl, rfl⟩ := hcs
      exact ⟨zs, .inr ⟨_, rfl, hl, hm, by simpa using hz, hcell, hwz⟩⟩
  obtain ⟨a1, len1, cap1, rfl⟩ := okWide_slice Tryd.underlying32 (hval 1 32 v1 rfl rfl)
  have k1 := h1
  have lt1 : ∀ x ∈ p1, x.block < W.heap.size := by obtain ⟨m, hm⟩ := k1; exact DataW.trod_lt m _ _ _ hm
  obtain ⟨z1, w1⟩ : ∃ zs, IsRow .u8 W a1 len1 cap1 zs := by
    obtain ⟨fuel, hf⟩ := h1
    rcases open_ints Tryd.underlying32 Tryd.underlying5 (by kernel_rfl) hf with ⟨hcs, _⟩ | ⟨x, l, c, zs, hcs, _, hl, hm, hz, _, hcell, hwz⟩
    · simp [Value.cells] at hcs
      obtain ⟨rfl, rfl, rfl⟩ := hcs
      exact ⟨[], .inl ⟨rfl, rfl, rfl, rfl⟩⟩
    · simp [Value.cells] at hcs
      obtain ⟨rfl, rfl, rfl⟩ := hcs
      exact ⟨zs, .inr ⟨_, rfl, hl, hm, by simpa using hz, hcell, hwz⟩⟩
  obtain ⟨a2, rfl, rfl, rfl, w2⟩ := open_int Tryd.underlying3 (hval 2 3 v2 rfl rfl) h2
  clear hA0 hval0
  refine (walk a0 len0 cap0 z0 a1 len1 cap1 z1 a2 W (of_laid hL) w0 w1 w2).mono fun e W' ⟨he, bel⟩ => ?_
  subst he
  exact ⟨_, rfl, _, _, _, [], _, [], hW', trodAll_mk1 (shut_bool Tryd.underlying4 _), (trodAll_cons_mk (Below.trod laidOut (by kernel_rfl) (of_decide_eq_true (by kernel_rfl)) k0 bel lt0) (trodAll_cons_mk (Below.trod laidOut (by kernel_rfl) (of_decide_eq_true (by kernel_rfl)) k1 bel lt1) (trodAll_cons_mk (shut_int Tryd.underlying3 w2) trodAll_mk0))), rfl, bel.frame _, fun h => by cases h⟩

theorem over : Rows.storeFaultsRow.holds Tryd.pinned (OpenSpec.ofChange Rows.storeFaultsSpec) :=
  OpenClaim.holds_of_wide 4 Tryd.f4 rfl rfl rfl rfl rfl rfl rfl ⟨rfl, rfl, rfl, rfl, rfl⟩ rfl rfl rfl rfl rfl (by kernel_rfl) Tryd.func4 (by kernel_rfl)
    (of_decide_eq_true (by kernel_rfl)) (by unfold Func.isWrapper; first | (rw [if_pos (by decide +kernel)]; kernel_rfl) | (rw [if_neg (by decide +kernel)]; exact ⟨rfl, rfl⟩))
    (fun os started H enc _ => lifted os started H enc)

theorem proved : Rows.StoreFaultsCardSaid :=
  Claim7.holds_tied_plain_at .later [] [.data, .pinned] true (true, "3e3a31de3dccd35ec0ceaf0a4afc31059781e758d50b02b1e4f35fcf7cef0ead") true
    over (fun _ h => by cases h) (by kernel_rfl) (fun _ h => by cases h) storeFaults_row_tie rfl ⟨rfl, rfl⟩ (by kernel_rfl) rfl
    (fun f fn hf hfn => by
      obtain rfl : f = 4 := Option.some.inj ((show Tryd.prog.funcNamed "cooperage/cooperagelaw7.StoreFaults" = some 4 by kernel_rfl).symm.trans hf) |>.symm
      obtain rfl : fn = Tryd.f4 := (Option.some.inj (Tryd.func4.symm.trans hfn)).symm
      exact ⟨by kernel_rfl, fun j t ht => by
        rw [Tryd.params4] at ht
        have hm : t ∈ [32, 32, 3] := by simpa using Array.mem_of_getElem? ht
        have hall : ([32, 32, 3].all fun u => !Tryd.prog.wantsStandIn u) = true := by kernel_rfl
        exact (show Tryd.prog.wantsStandIn t = false by simpa using List.all_eq_true.1 hall t hm)⟩)
    (by kernel_rfl)
#print axioms proved
end Go.Proofs.YtfbdmagonjjjoaaDoor.storeFaults
