/- Proved: for every record r and every n, RecordShort(r, n) returns true: of a right record's bytes every front that wants one is told ErrShort, with no bytes and no record; for keys of at most 200 bytes and values of at most 500. Conditions: none. -/
import Derived.Test.YtdhahjkldmbneaaRows
import Derived.WalkKit
import Derived.ProofKit
import Derived.OpenShut
import Derived.ShutString
import Derived.ChangeOld
import Derived.Below
import Derived.Test.YtdhahjkldmbneaaRecAlive
import Derived.Test.YtdhahjkldmbneaaRecCame
import Derived.Test.YtdhahjkldmbneaaRRecPut
namespace Go.Proofs.Ytdhahjkldmbneaa.recordShort
open Go.ChangeShapes Go.WideShapes Go.ChangeAt Go.RowKit
open Go.ChangeMaps (open_string shut_string)
set_option linter.unusedVariables false

theorem own : ownKnob Try.prog.godebug = none := by kernel_rfl
theorem laidOut : laidOutB Try.prog = true := by kernel_rfl

def IsRow (k : IntKind) (w : World) (a : Option Addr) (len cap : Nat) (zs : List Int) : Prop :=
  (a = none ∧ len = 0 ∧ cap = 0 ∧ zs = []) ∨
  ∃ x, a = some x ∧ len ≤ cap ∧ cap ≤ maxLen ∧ zs.length = cap ∧ (∀ i, i < zs.length → w.cell? (x.add i) = some (.int k (zs.getD i 0))) ∧ ∀ n ∈ zs, (Lit.int k n).wf = true

set_option maxRecDepth 100000 in
set_option maxHeartbeats 4000000 in
theorem walk (a0 : Rec) (a1 : Int) (w : World) (w0 : a0.wf) (w1 : (Lit.int .i64 a1).wf = true) :
    Calls Try.prog 5 #[recV a0, .int .i64 a1] w fun e w' => e = .returned (.bool true) ∧ Below w.heap.size w w' := by
  obtain ⟨hn0, hn1⟩ := bounds_i64 w1
  have hbx := Boxed.new w a0 24
  have hba : Below w.heap.size w (w.alloc (.cells #[.int .i64 a0.off, .int .i64 a0.time, .string a0.key, .string a0.val, .bool a0.dead] 24)) := (Below.refl _ _).alloc (Nat.le_refl _) _
  have HBX := Lib.hid hbx
  have HBA := Lib.hid hba
  clear hbx hba w1
  have hright := refright_any a0
  have hput := fun W => refputrec_any none [] 0 a0 W Lies.nil (Nat.le_refl _) (fun _ => rfl) (by simp)
  rw [List.nil_append] at hput
  unfold recV at hright hput ⊢
  by_cases h200 : (200 : Int) < (a0.key.size : Int)
  · go_enter Try.func5, Try.ntmps5
    go_wp2_with fail
    refine (alive_any _).mono ?_
    rintro e w1 ⟨rfl, hb1⟩
    obtain ⟨p0, p1, p2, p3, p4, p5⟩ := HBX.out.below hb1 HBX.out.lt
    go_wp2
    go_ret
    exact ⟨rfl, HBA.out.trans (hb1.mono HBA.out.size)⟩
  by_cases h500 : (500 : Int) < (a0.val.size : Int)
  · go_enter Try.func5, Try.ntmps5
    go_wp2_with fail
    refine (alive_any _).mono ?_
    rintro e w1 ⟨rfl, hb1⟩
    obtain ⟨p0, p1, p2, p3, p4, p5⟩ := HBX.out.below hb1 HBX.out.lt
    go_wp2
    go_ret
    exact ⟨rfl, HBA.out.trans (hb1.mono HBA.out.size)⟩
  have d200 := decide_eq_false h200
  have d500 := decide_eq_false h500
  by_cases hr : a0.right
  · by_cases hneg : a1 < 0
    · rw [decide_eq_true hr] at hright
      have HR := Lib.hid hright
      clear hright hput hr
      go_enter Try.func5, Try.ntmps5
      go_wp2_with fail
      refine (alive_any _).mono ?_
      rintro e w1 ⟨rfl, hb1⟩
      obtain ⟨p0, p1, p2, p3, p4, p5⟩ := HBX.out.below hb1 HBX.out.lt
      go_wp2_with fail
      refine (HR.out _).mono ?_
      rintro e w2 ⟨rfl, hb2⟩
      go_wp2
      go_ret
      exact ⟨rfl, HBA.out.trans ((hb1.mono HBA.out.size).trans (hb2.mono (by have := HBA.out.size; have := hb1.size; omega)))⟩
    · obtain ⟨m, rfl⟩ : ∃ m : Nat, a1 = m := ⟨a1.toNat, by omega⟩
      have hlen := recL_length a0 hr
      have hrange := recL_range a0 hr
      have hshort := fun n => getRec_short a0 n hr
      rw [putR_right hr] at hput
      rw [decide_eq_true hr] at hright
      obtain ⟨bs, hbs⟩ : ∃ bs, recL a0 = bs := ⟨_, rfl⟩
      rw [hbs] at hlen hrange hshort hput
      have HR := Lib.hid hright
      have HPUT := Lib.hid hput
      have HSHORT := Lib.hid hshort
      clear hright hput hr hbs hshort
      have hmod : m % bs.length < bs.length := Nat.mod_lt _ (by omega)
      obtain ⟨j, hj⟩ : ∃ j, m % bs.length = j := ⟨_, rfl⟩
      rw [hj] at hmod
      have hjz : (m : Int).tmod (bs.length : Int) = (j : Int) := by rw [Int.tmod_eq_emod_of_nonneg (by omega)]; omega
      have hnz : ¬ bs = [] := by rintro rfl; simp at hlen
      have hjl : (bs.take j).length = j := by rw [List.length_take]; omega
      clear hj
      go_enter Try.func5, Try.ntmps5
      go_wp2_with fail
      refine (alive_any _).mono ?_
      rintro e w1 ⟨rfl, hb1⟩
      have hbx1 := HBX.out.below hb1 HBX.out.lt
      obtain ⟨p0, p1, p2, p3, p4, p5⟩ := hbx1
      go_wp2_with fail
      refine (HR.out _).mono ?_
      rintro e w2 ⟨rfl, hb2⟩
      have hbx2 := (Boxed.mk p0 p1 p2 p3 p4 p5).below hb2 p0
      clear p1 p2 p3 p4 p5
      obtain ⟨q0, q1, q2, q3, q4, q5⟩ := hbx2
      go_wp2_with fail
      refine (HPUT.out _).mono ?_
      rintro e w3 ⟨v3, rfl, hown3, hb3⟩
      obtain ⟨A3, c3, rfl, hc3, hm3, hl3, hn3⟩ := hown3.parts2
      clear q1 q2 q3 q4 q5 hown3
      have hget := rget_any A3 (bs.take j) c3 w3 (hl3.take j) (fun c hc => hrange c (List.mem_of_mem_take hc)) (by omega) hm3
      rw [HSHORT.out j hmod, hjl] at hget
      have HGET := Lib.hid hget
      have hbw : Below w.heap.size w w3 := HBA.out.trans ((hb1.mono HBA.out.size).trans ((hb2.mono (by have := HBA.out.size; have := hb1.size; omega)).trans (hb3.mono (by have := HBA.out.size; have := hb1.size; have := hb2.size; omega))))
      have HBW := Lib.hid hbw
      clear hget hl3 hb1 hb2 hb3 hbw
      go_wp2_with fail
      refine HGET.out.mono ?_
      rintro e w4 ⟨rfl, hb4⟩
      unfold recV zeroR
      go_wp2_with fail
      refine (num_any _ _).mono ?_
      rintro e w5 ⟨rfl, rfl⟩
      go_wp2
      go_ret
      exact ⟨rfl, (HBW.out.trans (hb4.mono HBW.out.size)).alloc (by have := HBW.out.size; have := hb4.size; omega) _⟩
  · rw [decide_eq_false hr] at hright
    have HR := Lib.hid hright
    clear hright hput hr
    go_enter Try.func5, Try.ntmps5
    go_wp2_with fail
    refine (alive_any _).mono ?_
    rintro e w1 ⟨rfl, hb1⟩
    obtain ⟨p0, p1, p2, p3, p4, p5⟩ := HBX.out.below hb1 HBX.out.lt
    go_wp2_with fail
    refine (HR.out _).mono ?_
    rintro e w2 ⟨rfl, hb2⟩
    go_wp2
    go_ret
    exact ⟨rfl, HBA.out.trans ((hb1.mono HBA.out.size).trans (hb2.mono (by have := HBA.out.size; have := hb1.size; omega)))⟩

set_option maxRecDepth 100000 in
theorem lifted (os : Os) (started : os.Started) (H : Type) (enc : TypeId × Value → H) :
    ReturnsInHanded {} Try.checked os 5 .any (Rows.recordShortSpec.pre6 enc Try.prog Try.f5 Rows.recordShortRow.domain false) (Rows.recordShortSpec.post enc Try.prog Try.f5 false true false false) := by
  refine returnsInHanded_of_change (C := Try.checked) own started (by kernel_rfl) Try.func5
    (ChangeSpec.witness6 (enc := enc) (C := Try.checked) false ⟨#[], #[.agg #[.int .i64 0, .int .i64 0, .string ⟨#[]⟩, .string ⟨#[]⟩, .bool false], .int .i64 0], []⟩ 8 (by kernel_rfl) (by kernel_rfl) (by kernel_rfl) (by kernel_rfl)) ?_
  intro W base args ds gs before hval0 hW hcnd _
  have hval : ∀ (j : Nat) t v, Try.f5.params[j]? = some t → args[j]? = some v → Value.okWide Try.prog W .any base t v := hval0
  have hW' := hW
  obtain ⟨p, q, hA0, hV, rfl, hfz, hnd⟩ := hW
  have hA : DataW.TrodAll enc Try.prog W 0 (fun _ => true) true Try.f5.params.toList args.toList ds p := hA0
  rw [Try.params5] at hA hval
  obtain ⟨v0, vs0, d0, ds0, p0, q0, hargs, rfl, rfl, h0, r0⟩ := trodAll_cons hA
  obtain ⟨v1, vs1, d1, ds1, p1, q1, rfl, rfl, rfl, h1, r1⟩ := trodAll_cons r0
  obtain ⟨rfl, rfl, rfl⟩ := trodAll_nil r1
  obtain rfl : args = #[v0, v1] := by cases args; simp_all
  obtain ⟨rfl, rfl⟩ := trodVars_none hV
  have k0 := h0
  have lt0 : ∀ x ∈ p0, x.block < W.heap.size := by obtain ⟨m, hm⟩ := k0; exact DataW.trod_lt m _ _ _ hm
  obtain ⟨a0, rfl, w0⟩ := rec_came (hval 0 24 v0 rfl rfl) h0
  obtain ⟨a1, rfl, rfl, rfl, w1⟩ := open_int Try.underlying3 (hval 1 3 v1 rfl rfl) h1
  clear hA0 hval0
  refine (walk a0 a1 W w0 w1).mono fun e W' ⟨he, bel⟩ => ?_
  subst he
  exact ⟨_, rfl, _, _, _, [], _, [], hW', trodAll_mk1 (shut_bool Try.underlying4 _), (trodAll_cons_mk (Below.trod laidOut (by kernel_rfl) (of_decide_eq_true (by kernel_rfl)) k0 bel lt0) (trodAll_cons_mk (shut_int Try.underlying3 w1) trodAll_mk0)), rfl, bel.frame _, fun h => by cases h⟩

theorem over : Rows.recordShortRow.holds Try.pinned (OpenSpec.ofChange Rows.recordShortSpec) :=
  OpenClaim.holds_of_wide 5 Try.f5 rfl rfl rfl rfl rfl rfl rfl ⟨rfl, rfl, rfl, rfl, rfl⟩ rfl rfl rfl rfl rfl (by kernel_rfl) Try.func5 (by kernel_rfl)
    (of_decide_eq_true (by kernel_rfl)) (by unfold Func.isWrapper; first | (rw [if_pos (by decide +kernel)]; kernel_rfl) | (rw [if_neg (by decide +kernel)]; exact ⟨rfl, rfl⟩))
    (fun os started H enc _ => lifted os started H enc)

theorem proved : Rows.RecordShortSaid := over
#print axioms proved
end Go.Proofs.Ytdhahjkldmbneaa.recordShort
