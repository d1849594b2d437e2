/- For every slice of bytes, nil too, and every two ints the law FrameTurns answers true, and its arguments read as before; where the program's table lies as the program's own text lays it (the card ties that). -/
import Derived.Test.YtfkkfnanhknlbaaDoorRows
import Derived.WalkKit
import Derived.ProofKit
import Derived.OpenShut
import Derived.ShutString
import Derived.ChangeOld
import Derived.Below
import Derived.LaidMore
import Derived.Stop.Joined
import Derived.SevenTiedAt
import Derived.Test.YtfkkfnanhknlbaaDoorCards
import Derived.Test.YtfkkfnanhknlbaaDoorTie
import Derived.Test.YtfkkfnanhknlbaaDoorCame
import Derived.Test.YtfkkfnanhknlbaaDoorFrAlive
import Derived.Test.YtfkkfnanhknlbaaDoorRFrPut
import Derived.Test.YtfkkfnanhknlbaaDoorVFrGet
import Derived.Test.YtfkkfnanhknlbaaDoorCrcLaid
namespace Go.Proofs.YtfkkfnanhknlbaaDoor.frameTurns
open Go.ChangeShapes Go.WideShapes Go.ChangeAt Go.RowKit
open Go.ChangeMaps (open_string shut_string)
set_option linter.unusedVariables false

theorem own : ownKnob Tryd.prog.godebug = none := by kernel_rfl
theorem laidOut : laidOutB Tryd.prog = true := by kernel_rfl

/-- WHAT THE WALK IS TOLD OF A SLICE OF INTEGERS THAT CAME IN: it is nil; or it leads to a row of 'cap' cells, the numbers 'zs' (the first 'len' are its elements, the rest its spare room), each fitting its kind. -/
def IsRow (k : IntKind) (w : World) (a : Option Addr) (len cap : Nat) (zs : List Int) : Prop :=
  (a = none ∧ len = 0 ∧ cap = 0 ∧ zs = []) ∨
  ∃ x, a = some x ∧ len ≤ cap ∧ cap ≤ maxLen ∧ zs.length = cap ∧ (∀ i, i < zs.length → w.cell? (x.add i) = some (.int k (zs.getD i 0))) ∧ ∀ n ∈ zs, (Lit.int k n).wf = true

set_option maxHeartbeats 1600000 in
theorem walk (a0 : Option Addr) (len0 cap0 : Nat) (z0 : List Int) (a1 : Int) (a2 : Int) (w : World) (hh : Half w) (w0 : IsRow .u8 w a0 len0 cap0 z0) (w1 : (Lit.int .i64 a1).wf = true) (w2 : (Lit.int .i64 a2).wf = true) :
    Calls Tryd.prog 6 #[.slice a0 len0 cap0, .int .i64 a1, .int .i64 a2] w fun e w' => e = .returned (.bool true) ∧ Below w.heap.size w w' := by
  obtain ⟨xs, rfl, hc, hm, hl, hwf, hn⟩ := row_came w0
  have hby : IsBytes xs := fun n hn => bounds_u8 (hwf n hn)
  obtain ⟨at0, at1⟩ := bounds_i64 w1
  have hbit := i64_and7 a2
  clear w0 hwf w1 w2
  by_cases hz : xs.length < 1
  · have h1 : decide ((xs.length : Int) < 1) = true := decide_eq_true (by omega)
    have h1' : (xs.length : Int) < 1 := by omega
    clear hz
    go_enter Tryd.func6, Tryd.ntmps6
    go_wp2_with fail
    refine (alive_any w hh).mono ?_
    rintro e w1 ⟨rfl, hbel⟩
    go_wp2
    go_ret
    exact ⟨rfl, hbel⟩
  have h1 : decide ((xs.length : Int) < 1) = false := decide_eq_false (by omega)
  have h1' : ¬ (xs.length : Int) < 1 := by omega
  by_cases h300 : 300 < xs.length
  · have h2 : decide ((300 : Int) < (xs.length : Int)) = true := decide_eq_true (by omega)
    go_enter Tryd.func6, Tryd.ntmps6
    go_wp2_with fail
    refine (alive_any w hh).mono ?_
    rintro e w1 ⟨rfl, hbel⟩
    go_wp2
    go_ret
    exact ⟨rfl, hbel⟩
  have h2 : decide ((300 : Int) < (xs.length : Int)) = false := decide_eq_false (by omega)
  by_cases hneg : a1 < 0
  · have h3 : decide (a1 < 0) = true := decide_eq_true (by omega)
    clear hz
    go_enter Tryd.func6, Tryd.ntmps6
    go_wp2_with fail
    refine (alive_any w hh).mono ?_
    rintro e w1 ⟨rfl, hbel⟩
    go_wp2
    go_ret
    exact ⟨rfl, hbel⟩
  have h3 : decide (a1 < 0) = false := decide_eq_false (by omega)
  have HN := Lib.hid hn
  clear hn
  obtain ⟨r, hr⟩ : ∃ r : Nat, a1.tmod ((xs.length : Int) + 4) = (r : Int) ∧ r < xs.length + 4 := by
    rw [Int.tmod_eq_emod_of_nonneg (by omega)]
    have e1 := Int.emod_nonneg a1 (show (xs.length : Int) + 4 ≠ 0 by omega)
    have e2 := Int.emod_lt_of_pos a1 (show 0 < (xs.length : Int) + 4 by omega)
    exact ⟨(a1 % ((xs.length : Int) + 4)).toNat, by omega, by omega⟩
  obtain ⟨hr, hrl⟩ := hr
  obtain ⟨m, hm8, hm7⟩ : ∃ m : Nat, a2 % 8 = (m : Int) ∧ m ≤ 7 := ⟨(a2 % 8).toNat, by omega, by omega⟩
  rw [hm8] at hbit
  clear hm8
  have hpl := putL_length (xs.length : Int)
  obtain ⟨zs, hzs, hfl, hfr, hturn⟩ : ∃ zs, frameL xs = zs ∧ zs.length = (putL (xs.length : Int)).length + 4 + xs.length ∧ (∀ c ∈ zs, 0 ≤ c ∧ c ≤ 255) ∧ ∀ (k : Nat) (y : Int), 0 ≤ y ∧ y ≤ 255 → (putL (xs.length : Int)).length ≤ k → ∀ hk : k < zs.length, y ≠ zs[k] → getFr (zs.set k y) = ([], 0, 5) :=
    ⟨_, rfl, frameL_length xs, frameL_range xs hby (by omega), getFr_turned xs hby (by omega)⟩
  have HZ := Lib.hid hzs
  obtain ⟨hd, hhd⟩ : ∃ hd, (putL (xs.length : Int)).length = hd := ⟨_, rfl⟩
  rw [hhd] at hfl hpl hturn
  clear hzs hhd
  obtain ⟨k, hkE⟩ : ∃ k, hd + r = k := ⟨_, rfl⟩
  have hkl : k < zs.length := by omega
  have e1 : (zs.length : Int) - (xs.length : Int) = ((hd + 4 : Nat) : Int) := by omega
  have e2 : ((hd + 4 : Nat) : Int) - 4 = (hd : Int) := by omega
  have e3 : (hd : Int) + (r : Int) = (k : Int) := by omega
  have hd4 : ¬ ((xs.length : Int) + 4 = 0) := by omega
  have hq := hfr _ (List.getElem_mem hkl)
  obtain ⟨q, hqE⟩ : ∃ q, zs[k] = q := ⟨_, rfl⟩
  rw [hqE] at hq
  obtain ⟨y, hxor, hy, hyq⟩ := turn_bit q hq m hm7
  have hx2 : bits .xor .u8 q (2 ^ m % 256) = y := by
    rw [IntWalk.u64_in _ (by omega), IntKind.wrap_u8, show min (m : Int).toNat 8 = m by omega] at hxor
    exact hxor
  have HT := Lib.hid (hturn k y hy (by omega) hkl (by rw [hqE]; exact hyq))
  have HQ := Lib.hid hqE
  have HFL := Lib.hid hfl
  have hby2 : IsBytes (zs.set k y) := bytes_set hfr hy
  have HB := Lib.hid hby2
  have zl : zs.length ≤ 400 := by omega
  have zl0 : 0 < zs.length := by omega
  obtain ⟨hq0, hq1⟩ := hq
  clear hxor hqE hfl hturn hfr hby2 hkE hpl
  go_enter Tryd.func6, Tryd.ntmps6
  go_wp2_with fail
  refine (alive_any w hh).mono ?_
  rintro e w1 ⟨rfl, hb1⟩
  have hl1 := (hl.below hb1).more hb1.size
  have hh1 := hh.below hb1 hh.pos
  have hp := reffput_any none [] 0 a0 xs cap0 w1 Lies.nil (Nat.le_refl _) (fun _ => rfl) hl1 hc HN.out (by simp) (by omega) hby
  rw [HZ.out, List.nil_append] at hp
  have HP := Lib.hid hp
  clear hp hl
  go_wp2_with fail
  refine HP.out.mono ?_
  rintro e w2 ⟨v2, rfl, o2, hb2⟩
  clear HP
  obtain ⟨g, c2, rfl, hgb, hgl, hcc, hcm⟩ := o2.spot zl0
  have hcell := o2.cellAt hkl
  rw [HQ.out] at hcell
  have hfz := o2.thaw k
  go_wp2_with fail
  have o3 := o2.set k y
  have hb3 : Below w1.heap.size w1 (w2.setCell ⟨g, k, none⟩ (.int .u8 y)) := hb2.setCell (p := ⟨g, k, none⟩) hgb _
  clear o2 hb2 hcell hfz
  generalize w2.setCell ⟨g, k, none⟩ (.int .u8 y) = w3 at *
  have hh3 := hh1.below hb3 hh1.pos
  have hg := fget_any (some ⟨g, 0, none⟩) (zs.set k y) c2 w3 hh3 (Own.lies o3) HB.out (by rw [List.length_set]; exact hcc) hcm
  rw [List.length_set, HT.out] at hg
  refine hg.mono ?_
  rintro e w4 ⟨v4, rfl, o4, hb4⟩
  clear hg
  obtain ⟨A4, c4, rfl, _, _⟩ := o4.form
  dsimp only at *
  go_wp2_with fail
  refine (num_any 5 w4).mono ?_
  rintro e w5 ⟨rfl, rfl⟩
  go_wp2
  go_ret
  have b2 := hb1.trans (hb3.mono hb1.size)
  exact ⟨rfl, b2.trans (hb4.mono b2.size)⟩

set_option maxRecDepth 100000 in
theorem lifted (os : Os) (started : os.Started) (H : Type) (enc : TypeId × Value → H) :
    ReturnsInHanded {} Tryd.checked os 6 .any (fun w args => (Rows.frameTurnsSpec.pre enc Tryd.prog Tryd.f6 [] false w args ∧ laidMetH Tryd.prog laid1 w) ∧ sizedMet enc Tryd.prog Tryd.f6 (OpenSpec.ofChange Rows.frameTurnsSpec) false w args) (Rows.frameTurnsSpec.post enc Tryd.prog Tryd.f6 false true false false) := by
  refine returnsInHanded_of_change_and (C := Tryd.checked) (X := fun w _ => laidMetH Tryd.prog laid1 w) (fun _ _ _ hh h => h.of_heap hh) own started (by kernel_rfl) Tryd.func6
    (ChangeSpec.witness_shaped (enc := enc) (C := Tryd.checked) (os := os) (X := fun w _ => laidMetH Tryd.prog laid1 w) false (World.doorLaid Tryd.prog 400 os) #[.slice none 0 0, .int .i64 0, .int .i64 0] 8 rfl (World.shaped_of_RefB (by kernel_rfl) (by kernel_rfl)) (by kernel_rfl) (by kernel_rfl) (by kernel_rfl) (door_met os _)) ?_
  intro W base args ds gs before hval0 hW _ _ hL _
  have hval : ∀ (j : Nat) t v, Tryd.f6.params[j]? = some t → args[j]? = some v → Value.okWide Tryd.prog W .any base t v := hval0
  have hW' := hW
  obtain ⟨p, q, hA0, hV, rfl, hfz, hnd⟩ := hW
  have hA : DataW.TrodAll enc Tryd.prog W 0 (fun _ => true) true Tryd.f6.params.toList args.toList ds p := hA0
  rw [Tryd.params6] at hA hval
  obtain ⟨v0, vs0, d0, ds0, p0, q0, hargs, rfl, rfl, h0, r0⟩ := trodAll_cons hA
  obtain ⟨v1, vs1, d1, ds1, p1, q1, rfl, rfl, rfl, h1, r1⟩ := trodAll_cons r0
  obtain ⟨v2, vs2, d2, ds2, p2, q2, rfl, rfl, rfl, h2, r2⟩ := trodAll_cons r1
  obtain ⟨rfl, rfl, rfl⟩ := trodAll_nil r2
  obtain rfl : args = #[v0, v1, v2] := by cases args; simp_all
  obtain ⟨rfl, rfl⟩ := trodVars_none hV
  obtain ⟨a0, len0, cap0, rfl⟩ := okWide_slice Tryd.underlying22 (hval 0 22 v0 rfl rfl)
  have k0 := h0
  have lt0 : ∀ x ∈ p0, x.block < W.heap.size := by obtain ⟨m, hm⟩ := k0; exact DataW.trod_lt m _ _ _ hm
  obtain ⟨z0, w0⟩ : ∃ zs, IsRow .u8 W a0 len0 cap0 zs := by
    obtain ⟨fuel, hf⟩ := h0
    rcases open_ints Tryd.underlying22 Tryd.underlying5 (by kernel_rfl) hf with ⟨hcs, _⟩ | ⟨x, l, c, zs, hcs, _, hl, hm, hz, _, hcell, hwz⟩
    · simp [Value.cells] at hcs
      obtain ⟨rfl, rfl, rfl⟩ := hcs
      exact ⟨[], .inl ⟨rfl, rfl, rfl, rfl⟩⟩
    · simp [Value.cells] at hcs
      obtain ⟨rfl, rfl, rfl⟩ := hcs
      exact ⟨zs, .inr ⟨_, rfl, hl, hm, by simpa using hz, hcell, hwz⟩⟩
  obtain ⟨a1, rfl, rfl, rfl, w1⟩ := open_int Tryd.underlying3 (hval 1 3 v1 rfl rfl) h1
  obtain ⟨a2, rfl, rfl, rfl, w2⟩ := open_int Tryd.underlying3 (hval 2 3 v2 rfl rfl) h2
  clear hA0 hval0
  refine (walk a0 len0 cap0 z0 a1 a2 W (of_laid hL) w0 w1 w2).mono fun e W' ⟨he, bel⟩ => ?_
  subst he
  exact ⟨_, rfl, _, _, _, [], _, [], hW', trodAll_mk1 (shut_bool Tryd.underlying4 _), (trodAll_cons_mk (Below.trod laidOut (by kernel_rfl) (of_decide_eq_true (by kernel_rfl)) k0 bel lt0) (trodAll_cons_mk (shut_int Tryd.underlying3 w1) (trodAll_cons_mk (shut_int Tryd.underlying3 w2) trodAll_mk0))), rfl, bel.frame _, fun h => by cases h⟩

theorem over : Rows.frameTurnsRow.holds Tryd.pinned (OpenSpec.ofChange Rows.frameTurnsSpec) :=
  OpenClaim.holds_of_wide 6 Tryd.f6 rfl rfl rfl rfl rfl rfl rfl ⟨rfl, rfl, rfl, rfl, rfl⟩ rfl rfl rfl rfl rfl (by kernel_rfl) Tryd.func6 (by kernel_rfl)
    (of_decide_eq_true (by kernel_rfl)) (by unfold Func.isWrapper; first | (rw [if_pos (by decide +kernel)]; kernel_rfl) | (rw [if_neg (by decide +kernel)]; exact ⟨rfl, rfl⟩))
    (fun os started H enc _ => lifted os started H enc)

theorem proved : Rows.FrameTurnsCardSaid :=
  Claim7.holds_tied_plain_at .later [] [.data] true (true, "9e107c22ca914675d5dce9c957400d25d739763ef1521b3ddb2c86944bce0472") false
    over (fun _ h => by cases h) (by kernel_rfl) (fun _ h => by cases h) frameTurns_row_tie rfl ⟨rfl, rfl⟩ (by kernel_rfl) rfl
    (fun f fn hf hfn => by
      obtain rfl : f = 6 := Option.some.inj ((show Tryd.prog.funcNamed "cooperage/cooperagelaw5.FrameTurns" = some 6 by kernel_rfl).symm.trans hf) |>.symm
      obtain rfl : fn = Tryd.f6 := (Option.some.inj (Tryd.func6.symm.trans hfn)).symm
      exact ⟨by kernel_rfl, fun j t ht => by
        rw [Tryd.params6] at ht
        have hm : t ∈ [22, 3, 3] := by simpa using Array.mem_of_getElem? ht
        have hall : ([22, 3, 3].all fun u => !Tryd.prog.wantsStandIn u) = true := by kernel_rfl
        exact (show Tryd.prog.wantsStandIn t = false by simpa using List.all_eq_true.1 hall t hm)⟩)
    (by kernel_rfl)
#print axioms proved
end Go.Proofs.YtfkkfnanhknlbaaDoor.frameTurns
