/- For every slice of bytes, nil too, and every int the law CrcSwaps answers true, and its arguments read as before; where the program's table lies as the program's own text lays it (the card ties that). -/
import Derived.Test.YtpjnihcnocckbaaDoorRows
import Derived.WalkKit
import Derived.ProofKit
import Derived.OpenShut
import Derived.ShutString
import Derived.ChangeOld
import Derived.Below
import Derived.LaidMore
import Derived.Stop.Joined
import Derived.SevenTiedAt
import Derived.Deep.QuietTactic
import Derived.BigQuiet
import Derived.Test.YtpjnihcnocckbaaDoorCards
import Derived.Test.YtpjnihcnocckbaaDoorTie
import Derived.Test.YtpjnihcnocckbaaDoorCame
import Derived.Test.YtpjnihcnocckbaaDoorCrc
import Derived.Test.YtpjnihcnocckbaaDoorCrcLaid
namespace Go.Proofs.YtpjnihcnocckbaaDoor.crcSwaps
open Go.ChangeShapes Go.WideShapes Go.ChangeAt Go.RowKit
open Go.ChangeMaps (open_string shut_string)
set_option linter.unusedVariables false

theorem own : ownKnob Tryd.prog.godebug = none := by kernel_rfl
theorem laidOut : laidOutB Tryd.prog = true := by kernel_rfl

/-- WHAT THE WALK IS TOLD OF A SLICE OF INTEGERS THAT CAME IN: it is nil; or it leads to a row of 'cap' cells, the numbers 'zs' (the first 'len' are its elements, the rest its spare room), each fitting its kind. -/
def IsRow (k : IntKind) (w : World) (a : Option Addr) (len cap : Nat) (zs : List Int) : Prop :=
  (a = none ∧ len = 0 ∧ cap = 0 ∧ zs = []) ∨
  ∃ x, a = some x ∧ len ≤ cap ∧ cap ≤ maxLen ∧ zs.length = cap ∧ (∀ i, i < zs.length → w.cell? (x.add i) = some (.int k (zs.getD i 0))) ∧ ∀ n ∈ zs, (Lit.int k n).wf = true

set_option maxHeartbeats 1600000 in
theorem walk (a0 : Option Addr) (len0 cap0 : Nat) (z0 : List Int) (a1 : Int) (w : World) (hh : Half w) (w0 : IsRow .u8 w a0 len0 cap0 z0) (w1 : (Lit.int .i64 a1).wf = true) :
    Calls Tryd.prog 6 #[.slice a0 len0 cap0, .int .i64 a1] w fun e w' => e = .returned (.bool true) ∧ Below w.heap.size w w' := by
  obtain ⟨xs, rfl, hc, hm, hl, hwf, hn⟩ := row_came w0
  have hby : Bytes xs := fun n hn => bounds_u8 (hwf n hn)
  obtain ⟨at0, at1⟩ := bounds_i64 w1
  clear w0 hwf w1
  by_cases hz : xs.length < 2
  · have h1 : decide ((xs.length : Int) < 2) = true := decide_eq_true (by omega)
    clear hz
    go_enter Tryd.func6, Tryd.ntmps6
    go_wp2_with fail
    refine (alive_any w hh).mono ?_
    rintro e w1 ⟨rfl, hbel⟩
    go_wp2
    go_ret
    exact ⟨rfl, hbel⟩
  have h1 : decide ((xs.length : Int) < 2) = false := decide_eq_false (by omega)
  by_cases h300 : 300 < xs.length
  · have h2 : decide ((300 : Int) < (xs.length : Int)) = true := decide_eq_true (by omega)
    go_enter Tryd.func6, Tryd.ntmps6
    go_wp2_with fail
    refine (alive_any w hh).mono ?_
    rintro e w1 ⟨rfl, hbel⟩
    go_wp2
    go_ret
    exact ⟨rfl, hbel⟩
  have h2 : decide ((300 : Int) < (xs.length : Int)) = false := decide_eq_false (by omega)
  by_cases hneg : a1 < 0
  · have h3 : decide (a1 < 0) = true := decide_eq_true (by omega)
    go_enter Tryd.func6, Tryd.ntmps6
    go_wp2_with fail
    refine (alive_any w hh).mono ?_
    rintro e w1 ⟨rfl, hbel⟩
    go_wp2
    go_ret
    exact ⟨rfl, hbel⟩
  have h3 : decide (a1 < 0) = false := decide_eq_false (by omega)
  obtain ⟨i0, hi0, hz0, hz1, hz2⟩ := info_parts byte_info
  have HN := Lib.hid hn
  clear hn
  obtain ⟨k, hk⟩ : ∃ k : Nat, a1.tmod ((xs.length : Int) - 1) = (k : Int) ∧ k + 1 < xs.length := by
    rw [Int.tmod_eq_emod_of_nonneg (by omega)]
    have e1 := Int.emod_nonneg a1 (show (xs.length : Int) - 1 ≠ 0 by omega)
    have e2 := Int.emod_lt_of_pos a1 (show 0 < (xs.length : Int) - 1 by omega)
    exact ⟨(a1 % ((xs.length : Int) - 1)).toNat, by omega, by omega⟩
  obtain ⟨hk, hkl⟩ := hk
  have hxl : 0 < xs.length := by omega
  have hz3 : ¬ ((xs.length : Int) - 1 = 0) := by omega
  go_enter Tryd.func6, Tryd.ntmps6
  go_wp2_with fail
  refine (alive_any w hh).mono ?_
  rintro e w1 ⟨rfl, hbel⟩
  have hl1 := (hl.below hbel).more hbel.size
  have hh1 := hh.below hbel hh.pos
  clear hl hz
  obtain ⟨ba, offa, ea, hba, hca⟩ := hl1.at_ (show k < xs.length by omega)
  obtain ⟨bb, offb, eb, _, hcb⟩ := hl1.at_ hkl
  have ee := ea.symm.trans eb
  injection ee with ee
  injection ee with eb1 eo1
  subst eb1 eo1
  clear eb
  subst ea
  have hqa := hby _ (List.getElem_mem (show k < xs.length by omega))
  have hqb := hby _ (List.getElem_mem hkl)
  have hsw := swapped 0 xs hby k hkl
  obtain ⟨qa, ea⟩ : ∃ q, xs[k] = q := ⟨_, rfl⟩
  obtain ⟨qb, eb⟩ : ∃ q, xs[k + 1] = q := ⟨_, rfl⟩
  rw [ea] at hca hqa
  rw [eb] at hcb hqb
  rw [ea, eb] at hsw
  have HA := Lib.hid ea
  have HB := Lib.hid eb
  have HSW := Lib.hid hsw
  clear ea eb hsw
  go_wp2_with (at_builtin; (
     refine wpList_append_ints rfl (.const (.slice none 0 0)) (.tmp 31) 22 rfl w1.heap.size 5 .u8 i0 1 Tryd.underlying22 hi0 hz0 hz1 hz2 (by decide) (.slice none 0 0) [] rfl Own.nil w1.heap.size (some ⟨ba, offa, none⟩) xs.length cap0 xs rfl rfl hc hl1 (by simp; omega) (Nat.le_refl _) HN.out ?_
     intro v1 w2 hown hgr _
     have hbel2 : Below w1.heap.size w1 w2 := (Own.nil (k := .u8) (e := 5) (w := w1) (base := w1.heap.size)).grown_below hgr (Nat.le_refl _)
     rw [List.nil_append] at hown
     clear hgr
     obtain ⟨g, c1, rfl, hgb, hgl, hcc, hcm⟩ := hown.spot hxl
     have hca2 : w2.cell? ⟨ba, offa + k, none⟩ = some (.int .u8 qa) := (hbel2.cell hba).trans hca
     have hcb2 : w2.cell? ⟨ba, offa + (k + 1), none⟩ = some (.int .u8 qb) := (hbel2.cell hba).trans hcb
     refine Hid.out ?_))
  refine Lib.hid ?_
  go_wp2_with ((with_reducible refine wpList_store_own (o := ⟨none, .store 5 (.tmp 40) (.tmp 39), _, _, _, _⟩) rfl (.tmp 40) (.tmp 39) 5 rfl byte_size w1.heap.size 5 .u8 g c1 k qb xs rfl rfl hown hgb (by omega) ?_); (
     intro w3 hown2 hbel3
     have hbel4 := hbel2.trans hbel3
     have hca3 : w3.cell? ⟨ba, offa + k, none⟩ = some (.int .u8 qa) := (hbel4.cell hba).trans hca
     have hcb3 : w3.cell? ⟨ba, offa + (k + 1), none⟩ = some (.int .u8 qb) := (hbel4.cell hba).trans hcb
     have hown3 : Own .u8 5 w3 w1.heap.size (.slice (some ⟨g, 0, none⟩) (xs.set k qb).length c1) (xs.set k qb) := by rw [List.length_set]; exact hown2
     clear hbel3 hca2 hcb2 hown hbel2 hown2
     refine Hid.out ?_))
  refine Lib.hid ?_
  go_wp2_with ((with_reducible refine wpList_store_own (o := ⟨none, .store 5 (.tmp 48) (.tmp 47), _, _, _, _⟩) rfl (.tmp 48) (.tmp 47) 5 rfl byte_size w1.heap.size 5 .u8 g c1 (k + 1) qa (xs.set k qb) rfl rfl hown3 hgb (by rw [List.length_set]; omega) ?_); (
     intro w4 hown4 hbel5
     have hbel6 := hbel4.trans hbel5
     rw [List.length_set] at hown4
     have hca4 : w4.cell? ⟨ba, offa + k, none⟩ = some (.int .u8 qa) := (hbel6.cell hba).trans hca
     have hcb4 : w4.cell? ⟨ba, offa + (k + 1), none⟩ = some (.int .u8 qb) := (hbel6.cell hba).trans hcb
     clear hbel5 hca3 hcb3 hown3 hbel4
     refine Hid.out ?_))
  refine Lib.hid ?_
  go_wp2_with fail
  have hby2 : Bytes ((xs.set k qb).set (k + 1) qa) := bytes_set (bytes_set hby hqb) hqa
  have hh4 := hh1.below hbel6 hh1.pos
  have hl4 := (hl1.below hbel6).more hbel6.size
  have hl5 := Own.lies hown4
  obtain ⟨r1, hr1⟩ : ∃ r, moreN 0 ((xs.set k qb).set (k + 1) qa) = r := ⟨_, rfl⟩
  obtain ⟨r2, hr2⟩ : ∃ r, moreN 0 xs = r := ⟨_, rfl⟩
  have hS1 : ∀ n, Calls Tryd.prog 8 #[.slice (some ⟨g, 0, none⟩) xs.length c1] (w4.drewN n) fun e w' => e = .returned (.int .u32 (r1 : Int)) ∧ w' = w4.drewN n := fun n => by
    have := sum_any (some ⟨g, 0, none⟩) ((xs.set k qb).set (k + 1) qa) c1 (w4.drewN n) hh4 hl5 hby2 (by rw [List.length_set, List.length_set]; simp [maxLen]; omega)
    rw [List.length_set, List.length_set, hr1] at this
    exact this.mono fun e w' h => ⟨h.1, h.2.symm⟩
  have hS2 : ∀ n, Calls Tryd.prog 8 #[.slice (some ⟨ba, offa, none⟩) xs.length cap0] (w4.drewN n) fun e w' => e = .returned (.int .u32 (r2 : Int)) ∧ w' = w4.drewN n := fun n => by
    have := sum_any (some ⟨ba, offa, none⟩) xs cap0 (w4.drewN n) hh4 hl4 hby (by simp [maxLen]; omega)
    rw [hr2] at this
    exact this.mono fun e w' h => ⟨h.1, h.2.symm⟩
  have hsw := HSW.out
  rw [hr1, hr2] at hsw
  obtain ⟨t, ht1, ht2⟩ : ∃ t : Bool, ((r1 : Int) == (r2 : Int)) = t ∧ (qa == qb) = t := by
    by_cases h : qa = qb
    · exact ⟨true, by rw [hsw.2 h]; simp, by simp [h]⟩
    · refine ⟨false, ?_, by simp [h]⟩
      rw [beq_eq_false_iff_ne]
      intro e
      exact h (hsw.1 (by omega))
  have H1 := Lib.hid hS1
  have H2 := Lib.hid hS2
  clear hS1 hS2 hsw hr1 hr2 hl4 hl5 hown4 hl1
  go_quiet (first
    | (go_at_call 8; refine Calls.quiet_of_same (H1.out _))
    | (go_at_call 8; refine Calls.quiet_of_same (H2.out _)))
  go_wp2
  have hb7 : Below w1.heap.size w1 (w4.drewN nq) := ⟨hbel6.os, hbel6.tape, hbel6.output, hbel6.size, hbel6.block⟩
  go_ret
  exact ⟨rfl, hbel.trans (hb7.mono hbel.size)⟩

set_option maxRecDepth 100000 in
theorem lifted (os : Os) (started : os.Started) (H : Type) (enc : TypeId × Value → H) :
    ReturnsInHanded {} Tryd.checked os 6 .any (fun w args => (Rows.crcSwapsSpec.pre enc Tryd.prog Tryd.f6 [] false w args ∧ laidMetH Tryd.prog laid1 w) ∧ sizedMet enc Tryd.prog Tryd.f6 (OpenSpec.ofChange Rows.crcSwapsSpec) false w args) (Rows.crcSwapsSpec.post enc Tryd.prog Tryd.f6 false true false false) := by
  refine returnsInHanded_of_change_and (C := Tryd.checked) (X := fun w _ => laidMetH Tryd.prog laid1 w) (fun _ _ _ hh h => h.of_heap hh) own started (by kernel_rfl) Tryd.func6
    (ChangeSpec.witness_shaped (enc := enc) (C := Tryd.checked) (os := os) (X := fun w _ => laidMetH Tryd.prog laid1 w) false (World.doorLaid Tryd.prog 400 os) #[.slice none 0 0, .int .i64 0] 8 rfl (World.shaped_of_RefB (by kernel_rfl) (by kernel_rfl)) (by kernel_rfl) (by kernel_rfl) (by kernel_rfl) (door_met os _)) ?_
  intro W base args ds gs before hval0 hW _ _ hL _
  have hval : ∀ (j : Nat) t v, Tryd.f6.params[j]? = some t → args[j]? = some v → Value.okWide Tryd.prog W .any base t v := hval0
  have hW' := hW
  obtain ⟨p, q, hA0, hV, rfl, hfz, hnd⟩ := hW
  have hA : DataW.TrodAll enc Tryd.prog W 0 (fun _ => true) true Tryd.f6.params.toList args.toList ds p := hA0
  rw [Tryd.params6] at hA hval
  obtain ⟨v0, vs0, d0, ds0, p0, q0, hargs, rfl, rfl, h0, r0⟩ := trodAll_cons hA
  obtain ⟨v1, vs1, d1, ds1, p1, q1, rfl, rfl, rfl, h1, r1⟩ := trodAll_cons r0
  obtain ⟨rfl, rfl, rfl⟩ := trodAll_nil r1
  obtain rfl : args = #[v0, v1] := by cases args; simp_all
  obtain ⟨rfl, rfl⟩ := trodVars_none hV
  obtain ⟨a0, len0, cap0, rfl⟩ := okWide_slice Tryd.underlying22 (hval 0 22 v0 rfl rfl)
  have k0 := h0
  have lt0 : ∀ x ∈ p0, x.block < W.heap.size := by obtain ⟨m, hm⟩ := k0; exact DataW.trod_lt m _ _ _ hm
  obtain ⟨z0, w0⟩ : ∃ zs, IsRow .u8 W a0 len0 cap0 zs := by
    obtain ⟨fuel, hf⟩ := h0
    rcases open_ints Tryd.underlying22 Tryd.underlying5 (by kernel_rfl) hf with ⟨hcs, _⟩ | ⟨x, l, c, zs, hcs, _, hl, hm, hz, _, hcell, hwz⟩
    · simp [Value.cells] at hcs
      obtain ⟨rfl, rfl, rfl⟩ := hcs
      exact ⟨[], .inl ⟨rfl, rfl, rfl, rfl⟩⟩
    · simp [Value.cells] at hcs
      obtain ⟨rfl, rfl, rfl⟩ := hcs
      exact ⟨zs, .inr ⟨_, rfl, hl, hm, by simpa using hz, hcell, hwz⟩⟩
  obtain ⟨a1, rfl, rfl, rfl, w1⟩ := open_int Tryd.underlying3 (hval 1 3 v1 rfl rfl) h1
  clear hA0 hval0
  refine (walk a0 len0 cap0 z0 a1 W (of_laid hL) w0 w1).mono fun e W' ⟨he, bel⟩ => ?_
  subst he
  exact ⟨_, rfl, _, _, _, [], _, [], hW', trodAll_mk1 (shut_bool Tryd.underlying4 _), (trodAll_cons_mk (Below.trod laidOut (by kernel_rfl) (of_decide_eq_true (by kernel_rfl)) k0 bel lt0) (trodAll_cons_mk (shut_int Tryd.underlying3 w1) trodAll_mk0)), rfl, bel.frame _, fun h => by cases h⟩

theorem over : Rows.crcSwapsRow.holds Tryd.pinned (OpenSpec.ofChange Rows.crcSwapsSpec) :=
  OpenClaim.holds_of_wide 6 Tryd.f6 rfl rfl rfl rfl rfl rfl rfl ⟨rfl, rfl, rfl, rfl, rfl⟩ rfl rfl rfl rfl rfl (by kernel_rfl) Tryd.func6 (by kernel_rfl)
    (of_decide_eq_true (by kernel_rfl)) (by unfold Func.isWrapper; first | (rw [if_pos (by decide +kernel)]; kernel_rfl) | (rw [if_neg (by decide +kernel)]; exact ⟨rfl, rfl⟩))
    (fun os started H enc _ => lifted os started H enc)

theorem proved : Rows.CrcSwapsCardSaid :=
  Claim7.holds_tied_plain_at .later [] [.data] true (true, "fa76a5a30fb07b11fadbdc9b6887e058170ea6ee560e2a7ce1edd54b56288630") false
    over (fun _ h => by cases h) (by kernel_rfl) (fun _ h => by cases h) crcSwaps_row_tie rfl ⟨rfl, rfl⟩ (by kernel_rfl) rfl
    (fun f fn hf hfn => by
      obtain rfl : f = 6 := Option.some.inj ((show Tryd.prog.funcNamed "cooperage/cooperagelaw2.CrcSwaps" = some 6 by kernel_rfl).symm.trans hf) |>.symm
      obtain rfl : fn = Tryd.f6 := (Option.some.inj (Tryd.func6.symm.trans hfn)).symm
      exact ⟨by kernel_rfl, fun j t ht => by
        rw [Tryd.params6] at ht
        have hm : t ∈ [22, 3] := by simpa using Array.mem_of_getElem? ht
        have hall : ([22, 3].all fun u => !Tryd.prog.wantsStandIn u) = true := by kernel_rfl
        exact (show Tryd.prog.wantsStandIn t = false by simpa using List.all_eq_true.1 hall t hm)⟩)
    (by kernel_rfl)
#print axioms proved
end Go.Proofs.YtpjnihcnocckbaaDoor.crcSwaps
