/- For every slice of bytes, nil too, and every two ints the law CrcTurns answers true, and its arguments read as before; where the program's table lies as the program's own text lays it (the card ties that). -/
import Derived.Test.YtpjnihcnocckbaaDoorRows
import Derived.WalkKit
import Derived.ProofKit
import Derived.OpenShut
import Derived.ShutString
import Derived.ChangeOld
import Derived.Below
import Derived.LaidMore
import Derived.Stop.Joined
import Derived.SevenTiedAt
import Derived.StillTailTactics
import Derived.Test.YtpjnihcnocckbaaDoorCards
import Derived.Test.YtpjnihcnocckbaaDoorTie
import Derived.Test.YtpjnihcnocckbaaDoorCame
import Derived.Test.YtpjnihcnocckbaaDoorCrc
import Derived.Test.YtpjnihcnocckbaaDoorCrcLaid
namespace Go.Proofs.YtpjnihcnocckbaaDoor.crcTurns
open Go.ChangeShapes Go.WideShapes Go.ChangeAt Go.RowKit
open Go.ChangeMaps (open_string shut_string)
set_option linter.unusedVariables false

theorem own : ownKnob Tryd.prog.godebug = none := by kernel_rfl
theorem laidOut : laidOutB Tryd.prog = true := by kernel_rfl

/-- WHAT THE WALK IS TOLD OF A SLICE OF INTEGERS THAT CAME IN: it is nil; or it leads to a row of 'cap' cells, the numbers 'zs' (the first 'len' are its elements, the rest its spare room), each fitting its kind. -/
def IsRow (k : IntKind) (w : World) (a : Option Addr) (len cap : Nat) (zs : List Int) : Prop :=
  (a = none ∧ len = 0 ∧ cap = 0 ∧ zs = []) ∨
  ∃ x, a = some x ∧ len ≤ cap ∧ cap ≤ maxLen ∧ zs.length = cap ∧ (∀ i, i < zs.length → w.cell? (x.add i) = some (.int k (zs.getD i 0))) ∧ ∀ n ∈ zs, (Lit.int k n).wf = true

set_option maxHeartbeats 1600000 in
theorem walk (a0 : Option Addr) (len0 cap0 : Nat) (z0 : List Int) (a1 : Int) (a2 : Int) (w : World) (hh : Half w) (w0 : IsRow .u8 w a0 len0 cap0 z0) (w1 : (Lit.int .i64 a1).wf = true) (w2 : (Lit.int .i64 a2).wf = true) :
    Calls Tryd.prog 5 #[.slice a0 len0 cap0, .int .i64 a1, .int .i64 a2] w fun e w' => e = .returned (.bool true) ∧ Below w.heap.size w w' := by
  obtain ⟨xs, rfl, hc, hm, hl, hwf, hn⟩ := row_came w0
  have hby : Bytes xs := fun n hn => bounds_u8 (hwf n hn)
  obtain ⟨at0, at1⟩ := bounds_i64 w1
  have hbit := i64_and7 a2
  clear w0 hwf w1 w2
  by_cases h300 : 300 < xs.length
  · have h1 : (300 : Int) < (xs.length : Int) := by omega
    go_enter Tryd.func5, Tryd.ntmps5
    go_wp2_with fail
    refine (alive_any w hh).mono ?_
    rintro e w1 ⟨rfl, hbel⟩
    go_wp2
    go_ret
    exact ⟨rfl, hbel⟩
  by_cases hz : xs.length = 0
  · have h1 : decide ((300 : Int) < (xs.length : Int)) = false := decide_eq_false (by omega)
    have h2 : ((xs.length : Int) == 0) = true := beq_iff_eq.2 (by omega)
    clear hz
    go_enter Tryd.func5, Tryd.ntmps5
    go_wp2_with fail
    refine (alive_any w hh).mono ?_
    rintro e w1 ⟨rfl, hbel⟩
    go_wp2
    go_ret
    exact ⟨rfl, hbel⟩
  have h1 : decide ((300 : Int) < (xs.length : Int)) = false := decide_eq_false (by omega)
  have h2 : ((xs.length : Int) == 0) = false := beq_eq_false_iff_ne.2 (by omega)
  by_cases hneg : a1 < 0
  · have h3 : decide (a1 < 0) = true := decide_eq_true (by omega)
    clear hz
    go_enter Tryd.func5, Tryd.ntmps5
    go_wp2_with fail
    refine (alive_any w hh).mono ?_
    rintro e w1 ⟨rfl, hbel⟩
    go_wp2
    go_ret
    exact ⟨rfl, hbel⟩
  have h3 : decide (a1 < 0) = false := decide_eq_false (by omega)
  obtain ⟨i0, hi0, hz0, hz1, hz2⟩ := info_parts byte_info
  have HN := Lib.hid hn
  clear hn
  obtain ⟨k, hk⟩ : ∃ k : Nat, a1.tmod (xs.length : Int) = (k : Int) ∧ k < xs.length := by
    rw [Int.tmod_eq_emod_of_nonneg (by omega)]
    have e1 := Int.emod_nonneg a1 (show (xs.length : Int) ≠ 0 by omega)
    have e2 := Int.emod_lt_of_pos a1 (show 0 < (xs.length : Int) by omega)
    exact ⟨(a1 % (xs.length : Int)).toNat, by omega, by omega⟩
  obtain ⟨hk, hkl⟩ := hk
  obtain ⟨m, hm8, hm7⟩ : ∃ m : Nat, a2 % 8 = (m : Int) ∧ m ≤ 7 := ⟨(a2 % 8).toNat, by omega, by omega⟩
  rw [hm8] at hbit
  clear hm8
  have hxl : 0 < xs.length := by omega
  have hne : ¬ xs = [] := by rintro rfl; simp at hxl
  go_enter Tryd.func5, Tryd.ntmps5
  go_wp2_with fail
  refine (alive_any w hh).mono ?_
  rintro e w1 ⟨rfl, hbel⟩
  have hl1 := (hl.below hbel).more hbel.size
  have hh1 := hh.below hbel hh.pos
  clear hl hz
  go_wp2_with (at_builtin; refine wpList_append_ints rfl (.const (.slice none 0 0)) (.tmp 27) 22 rfl w1.heap.size 5 .u8 i0 1 Tryd.underlying22 hi0 hz0 hz1 hz2 (by decide) (.slice none 0 0) [] rfl Own.nil w1.heap.size a0 xs.length cap0 xs rfl rfl hc hl1 (by simp; omega) (Nat.le_refl _) HN.out ?_; intro v1 w2 hown hgr _)
  have hbel2 : Below w1.heap.size w1 w2 := (Own.nil (k := .u8) (e := 5) (w := w1) (base := w1.heap.size)).grown_below hgr (Nat.le_refl _)
  have hl2 := hl1.below hbel2
  rw [List.nil_append] at hown
  clear hgr
  obtain ⟨g, c1, rfl, hgb, hgl, hcc, hcm⟩ := hown.spot hxl
  obtain ⟨hq0, hq1⟩ := hby _ (List.getElem_mem hkl)
  have hcell := hown.cellAt hkl
  have hfr := hown.thaw k
  obtain ⟨q, hq⟩ : ∃ q, xs[k] = q := ⟨_, rfl⟩
  rw [hq] at hcell hq0 hq1
  have HQ := Lib.hid hq
  clear hq
  go_wp2_with fail
  obtain ⟨y, hxor, hy, hyq⟩ := turn_bit q ⟨hq0, hq1⟩ m hm7
  have HX := Lib.hid hxor
  clear hxor
  go_still_tail 18, (by kernel_rfl)
  rw [HX.out]
  have hown2 : Own .u8 5 w2.drew w1.heap.size (.slice (some ⟨g, 0, none⟩) xs.length c1) xs := hown
  have hbel3 : Below w1.heap.size w1 w2.drew := hbel2.drew
  change wpList _ _ _ _ _ w2.drew
  have hcell2 : w2.drew.cell? ⟨g, k, none⟩ = some (.int .u8 q) := hcell
  have hfr2 : w2.drew.frozen? ⟨g, k, none⟩ = false := hfr
  clear hown hbel2 hl2 hcell hfr hgl
  generalize w2.drew = w3 at *
  go_wp2_with fail
  have hown3 := hown2.set k y
  have hbel4 : Below w1.heap.size w1 (w3.setCell ⟨g, k, none⟩ (.int .u8 y)) := hbel3.setCell (p := ⟨g, k, none⟩) hgb _
  have hne2 := turned 0 xs hby k hkl y hy (by rw [HQ.out]; exact hyq)
  have hby2 : Bytes (xs.set k y) := bytes_set hby hy
  clear hown2 hbel3 hcell2 hfr2
  generalize w3.setCell ⟨g, k, none⟩ (.int .u8 y) = w4 at *
  have hh4 := hh1.below hbel4 hh1.pos
  have hs1 := sum_any (some ⟨g, 0, none⟩) (xs.set k y) c1 w4 hh4 (Own.lies hown3) hby2 (by rw [List.length_set]; simp [maxLen]; omega)
  rw [List.length_set] at hs1
  refine hs1.mono ?_
  rintro e w5 ⟨rfl, rfl⟩
  clear hs1
  have hl4 := (hl1.below hbel4).more hbel4.size
  obtain ⟨r1, hr1⟩ : ∃ r, moreN 0 (xs.set k y) = r := ⟨_, rfl⟩
  obtain ⟨r2, hr2⟩ : ∃ r, moreN 0 xs = r := ⟨_, rfl⟩
  have hs2 := sum_any a0 xs cap0 w4 hh4 hl4 hby (by simp [maxLen]; omega)
  rw [hr1, hr2] at hne2
  rw [hr2] at hs2
  rw [hr1]
  clear hr1 hr2
  have HS := Lib.hid hs2
  clear hs2
  have hdiff : ((r1 : Int) != (r2 : Int)) = true := by
    rw [bne_iff_ne]
    omega
  clear hne2
  go_wp2_with fail
  refine HS.out.mono ?_
  rintro e w5 ⟨rfl, rfl⟩
  go_wp2
  go_ret
  exact ⟨rfl, hbel.trans (hbel4.mono hbel.size)⟩

set_option maxRecDepth 100000 in
theorem lifted (os : Os) (started : os.Started) (H : Type) (enc : TypeId × Value → H) :
    ReturnsInHanded {} Tryd.checked os 5 .any (fun w args => (Rows.crcTurnsSpec.pre enc Tryd.prog Tryd.f5 [] false w args ∧ laidMetH Tryd.prog laid1 w) ∧ sizedMet enc Tryd.prog Tryd.f5 (OpenSpec.ofChange Rows.crcTurnsSpec) false w args) (Rows.crcTurnsSpec.post enc Tryd.prog Tryd.f5 false true false false) := by
  refine returnsInHanded_of_change_and (C := Tryd.checked) (X := fun w _ => laidMetH Tryd.prog laid1 w) (fun _ _ _ hh h => h.of_heap hh) own started (by kernel_rfl) Tryd.func5
    (ChangeSpec.witness_shaped (enc := enc) (C := Tryd.checked) (os := os) (X := fun w _ => laidMetH Tryd.prog laid1 w) false (World.doorLaid Tryd.prog 400 os) #[.slice none 0 0, .int .i64 0, .int .i64 0] 8 rfl (World.shaped_of_RefB (by kernel_rfl) (by kernel_rfl)) (by kernel_rfl) (by kernel_rfl) (by kernel_rfl) (door_met os _)) ?_
  intro W base args ds gs before hval0 hW _ _ hL _
  have hval : ∀ (j : Nat) t v, Tryd.f5.params[j]? = some t → args[j]? = some v → Value.okWide Tryd.prog W .any base t v := hval0
  have hW' := hW
  obtain ⟨p, q, hA0, hV, rfl, hfz, hnd⟩ := hW
  have hA : DataW.TrodAll enc Tryd.prog W 0 (fun _ => true) true Tryd.f5.params.toList args.toList ds p := hA0
  rw [Tryd.params5] at hA hval
  obtain ⟨v0, vs0, d0, ds0, p0, q0, hargs, rfl, rfl, h0, r0⟩ := trodAll_cons hA
  obtain ⟨v1, vs1, d1, ds1, p1, q1, rfl, rfl, rfl, h1, r1⟩ := trodAll_cons r0
  obtain ⟨v2, vs2, d2, ds2, p2, q2, rfl, rfl, rfl, h2, r2⟩ := trodAll_cons r1
  obtain ⟨rfl, rfl, rfl⟩ := trodAll_nil r2
  obtain rfl : args = #[v0, v1, v2] := by cases args; simp_all
  obtain ⟨rfl, rfl⟩ := trodVars_none hV
  obtain ⟨a0, len0, cap0, rfl⟩ := okWide_slice Tryd.underlying22 (hval 0 22 v0 rfl rfl)
  have k0 := h0
  have lt0 : ∀ x ∈ p0, x.block < W.heap.size := by obtain ⟨m, hm⟩ := k0; exact DataW.trod_lt m _ _ _ hm
  obtain ⟨z0, w0⟩ : ∃ zs, IsRow .u8 W a0 len0 cap0 zs := by
    obtain ⟨fuel, hf⟩ := h0
    rcases open_ints Tryd.underlying22 Tryd.underlying5 (by kernel_rfl) hf with ⟨hcs, _⟩ | ⟨x, l, c, zs, hcs, _, hl, hm, hz, _, hcell, hwz⟩
    · simp [Value.cells] at hcs
      obtain ⟨rfl, rfl, rfl⟩ := hcs
      exact ⟨[], .inl ⟨rfl, rfl, rfl, rfl⟩⟩
    · simp [Value.cells] at hcs
      obtain ⟨rfl, rfl, rfl⟩ := hcs
      exact ⟨zs, .inr ⟨_, rfl, hl, hm, by simpa using hz, hcell, hwz⟩⟩
  obtain ⟨a1, rfl, rfl, rfl, w1⟩ := open_int Tryd.underlying3 (hval 1 3 v1 rfl rfl) h1
  obtain ⟨a2, rfl, rfl, rfl, w2⟩ := open_int Tryd.underlying3 (hval 2 3 v2 rfl rfl) h2
  clear hA0 hval0
  refine (walk a0 len0 cap0 z0 a1 a2 W (of_laid hL) w0 w1 w2).mono fun e W' ⟨he, bel⟩ => ?_
  subst he
  exact ⟨_, rfl, _, _, _, [], _, [], hW', trodAll_mk1 (shut_bool Tryd.underlying4 _), (trodAll_cons_mk (Below.trod laidOut (by kernel_rfl) (of_decide_eq_true (by kernel_rfl)) k0 bel lt0) (trodAll_cons_mk (shut_int Tryd.underlying3 w1) (trodAll_cons_mk (shut_int Tryd.underlying3 w2) trodAll_mk0))), rfl, bel.frame _, fun h => by cases h⟩

theorem over : Rows.crcTurnsRow.holds Tryd.pinned (OpenSpec.ofChange Rows.crcTurnsSpec) :=
  OpenClaim.holds_of_wide 5 Tryd.f5 rfl rfl rfl rfl rfl rfl rfl ⟨rfl, rfl, rfl, rfl, rfl⟩ rfl rfl rfl rfl rfl (by kernel_rfl) Tryd.func5 (by kernel_rfl)
    (of_decide_eq_true (by kernel_rfl)) (by unfold Func.isWrapper; first | (rw [if_pos (by decide +kernel)]; kernel_rfl) | (rw [if_neg (by decide +kernel)]; exact ⟨rfl, rfl⟩))
    (fun os started H enc _ => lifted os started H enc)

theorem proved : Rows.CrcTurnsCardSaid :=
  Claim7.holds_tied_plain_at .later [] [.data] true (true, "fa76a5a30fb07b11fadbdc9b6887e058170ea6ee560e2a7ce1edd54b56288630") false
    over (fun _ h => by cases h) (by kernel_rfl) (fun _ h => by cases h) crcTurns_row_tie rfl ⟨rfl, rfl⟩ (by kernel_rfl) rfl
    (fun f fn hf hfn => by
      obtain rfl : f = 5 := Option.some.inj ((show Tryd.prog.funcNamed "cooperage/cooperagelaw2.CrcTurns" = some 5 by kernel_rfl).symm.trans hf) |>.symm
      obtain rfl : fn = Tryd.f5 := (Option.some.inj (Tryd.func5.symm.trans hfn)).symm
      exact ⟨by kernel_rfl, fun j t ht => by
        rw [Tryd.params5] at ht
        have hm : t ∈ [22, 3, 3] := by simpa using Array.mem_of_getElem? ht
        have hall : ([22, 3, 3].all fun u => !Tryd.prog.wantsStandIn u) = true := by kernel_rfl
        exact (show Tryd.prog.wantsStandIn t = false by simpa using List.all_eq_true.1 hall t hm)⟩)
    (by kernel_rfl)
#print axioms proved
end Go.Proofs.YtpjnihcnocckbaaDoor.crcTurns
