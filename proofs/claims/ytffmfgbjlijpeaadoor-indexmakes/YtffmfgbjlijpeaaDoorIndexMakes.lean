/- Proved: for every list l of records and every number every, IndexMakes(l, every) returns true. -/
import Derived.Test.YtffmfgbjlijpeaaDoorRows
import Derived.WalkKit
import Derived.ProofKit
import Derived.OpenShut
import Derived.ShutString
import Derived.ChangeOld
import Derived.Below
import Derived.LaidMore
import Derived.Stop.Joined
import Derived.SevenTiedAt
import Derived.Test.YtffmfgbjlijpeaaDoorCards
import Derived.Test.YtffmfgbjlijpeaaDoorTie
import Derived.Test.YtffmfgbjlijpeaaDoorCame
import Derived.Test.YtffmfgbjlijpeaaDoorIxAlive
import Derived.Test.YtffmfgbjlijpeaaDoorCrcLaid
namespace Go.Proofs.YtffmfgbjlijpeaaDoor.indexMakes
open Go.ChangeShapes Go.WideShapes Go.ChangeAt Go.RowKit
open Go.ChangeMaps (open_string shut_string)
set_option linter.unusedVariables false

theorem own : ownKnob Tryd.prog.godebug = none := by kernel_rfl
theorem laidOut : laidOutB Tryd.prog = true := by kernel_rfl

def IsRow (k : IntKind) (w : World) (a : Option Addr) (len cap : Nat) (zs : List Int) : Prop :=
  (a = none ∧ len = 0 ∧ cap = 0 ∧ zs = []) ∨
  ∃ x, a = some x ∧ len ≤ cap ∧ cap ≤ maxLen ∧ zs.length = cap ∧ (∀ i, i < zs.length → w.cell? (x.add i) = some (.int k (zs.getD i 0))) ∧ ∀ n ∈ zs, (Lit.int k n).wf = true

set_option maxHeartbeats 3200000 in
set_option maxRecDepth 4000 in
theorem walk (a0 : Option Addr) (cap0 : Nat) (z0 : List Rec) (a1 : Int) (w : World) (hh : Half w) (w0 : RecsLie w a0 z0 cap0) (w1 : (Lit.int .i64 a1).wf = true) :
    Calls Tryd.prog 3 #[.slice a0 z0.length cap0, .int .i64 a1] w fun e w' => e = .returned (.bool true) ∧ Below w.heap.size w w' := by
  obtain ⟨hr0, hr1⟩ := bounds_i64 w1
  have HACT := Lib.hid w0
  have hcl := w0.2.1
  have hcm := w0.2.2.1
  have h0 := hh.pos
  unfold maxLen at hcm
  have HBG := Lib.hid (fun wA (hb : Below w.heap.size w wA) => big_any w wA a0 z0 cap0 w0 hb)
  have HAL := Lib.hid (alive9_any w hh)
  have HH := Lib.hid hh
  clear w0 w1 hh
  go_enter Tryd.func3, Tryd.ntmps3
  go_wp2_with fail
  refine HAL.out.mono ?_
  rintro e wA ⟨rfl, hbel⟩
  have HB := Lib.hid (HBG.out wA hbel)
  have HBEL := Lib.hid hbel
  clear hbel HAL HBG
  go_wp2_with fail
  refine HB.out.mono ?_
  rintro e wB ⟨hwB, r, rfl, hsm⟩
  have HBEL2 : Hid (Below w.heap.size w wB) := Lib.hid (by rw [hwB]; exact HBEL.out)
  have HSM := Lib.hid hsm
  clear HB hsm HBEL hwB wA
  cases r
  · have hlen : z0.length ≤ 60 := (HSM.out rfl).1
    have HV := Lib.hid (vmake_any wB (HH.out.below HBEL2.out h0) z0 a0 cap0 (HACT.out.below HBEL2.out (Nat.le_refl _)) a1 hr1 (by omega))
    have HR := Lib.hid (fun (W : World) (hb : Below w.heap.size w W) => refmake_any W z0 a0 cap0 (HACT.out.below hb (Nat.le_refl _)) a1 hr1 (by omega))
    have hml := makeM_length (evN a1) (goods z0)
    have hgl := goods_length z0
    obtain ⟨MS, hMS⟩ : ∃ MS, makeM (evN a1) (goods z0) = MS := ⟨_, rfl⟩
    rw [hMS] at HV HR hml
    obtain ⟨K, hK⟩ : ∃ K, MS.length = K := ⟨_, rfl⟩
    have HKE := Lib.hid hK
    rw [hK] at hml
    have hK60 : K ≤ 60 := by omega
    clear hMS HSM hr0 hr1 hK hml hgl hlen
    go_wp2_with fail
    refine HV.out.mono ?_
    rintro e w1 ⟨v1, rfl, o1, b1⟩
    obtain ⟨A1, c1, rfl, p1, _⟩ := OwnS.parts o1
    have B1 := Lib.hid (HBEL2.out.trans (b1.mono HBEL2.out.size))
    have hm1 := marks_any w1 _ A1 MS c1 (p1.mono (T := fun b => b < w1.heap.size) fun b hb => by
      rcases hb with hb | hb
      · exact hb.elim
      · exact (OwnS.lt o1 b hb).2) (fun _ h => h) (by rw [HKE.out]; omega)
    rw [HKE.out] at hm1
    have HM1 := Lib.hid hm1
    have hq1 := p1.2.1
    have hq2 := p1.2.2
    unfold maxLen at hq2
    rw [HKE.out] at hq1 ⊢
    clear o1 b1 p1 hm1 HV HBEL2
    go_wp2_with fail
    refine HM1.out.mono ?_
    rintro e w2 ⟨v2, rfl, o2, b2⟩
    have B2 := Lib.hid (B1.out.trans (b2.mono B1.out.size))
    have O2 := Lib.hid o2
    clear o2 b2 HM1 B1 hq1 hq2
    have HR2 := Lib.hid (HR.out w2 B2.out)
    clear HR
    go_wp2_with fail
    refine HR2.out.mono ?_
    rintro e w3 ⟨v3, rfl, o3, b3⟩
    obtain ⟨A3, c3, rfl, p3, _⟩ := OwnS.parts o3
    obtain ⟨A2, c2, rfl, p2, _⟩ := OwnS.parts (OwnS.below O2.out b3)
    have B3 := Lib.hid (B2.out.trans (b3.mono B2.out.size))
    have P2 := Lib.hid p2
    have P3 := Lib.hid p3
    have hq1 := p2.2.1
    have hq2 := p2.2.2
    have hq3 := p3.2.1
    have hq4 := p3.2.2
    unfold maxLen at hq2 hq4
    rw [HKE.out] at hq1 hq3 ⊢
    clear o3 b3 p2 p3 O2 B2 HR2
    go_wp2_with fail
    go_loopw [9] (fun iv wr => ∃ i m : Nat, iv = .int .i64 i ∧ i ≤ K ∧ wr = w3.drewN m) (fun iv _ => K - (intOf iv).toNat)
    case atStart => exact ⟨0, 0, rfl, Nat.zero_le _, rfl⟩
    case round =>
      obtain ⟨i, m, rfl, hi, rfl⟩ := hrel
      by_cases hlt : i < K
      · have hltM : i < MS.length := by rw [HKE.out]; exact hlt
        obtain ⟨x, hx⟩ : ∃ x, MS[i] = x := ⟨_, rfl⟩
        obtain ⟨b2, o2, rfl, _, _, a0, a1, a2⟩ := imark_cells P2.out hltM x hx
        obtain ⟨b3, o3, rfl, _, _, d0, d1, d2⟩ := imark_cells P3.out hltM x hx
        obtain ⟨xo, xt, xp⟩ := x
        dsimp only at a0 a1 a2 d0 d1 d2
        have a0' : (w3.drewN m).cell? ⟨b2, o2 + i * 3, none⟩ = some (.int .i64 xo) := a0
        have a1' : (w3.drewN m).cell? ⟨b2, o2 + i * 3 + 1, none⟩ = some (.int .i64 xt) := a1
        have a2' : (w3.drewN m).cell? ⟨b2, o2 + i * 3 + 2, none⟩ = some (.int .i64 xp) := a2
        have d0' : (w3.drewN m).cell? ⟨b3, o3 + i * 3, none⟩ = some (.int .i64 xo) := d0
        have d1' : (w3.drewN m).cell? ⟨b3, o3 + i * 3 + 1, none⟩ = some (.int .i64 xt) := d1
        have d2' : (w3.drewN m).cell? ⟨b3, o3 + i * 3 + 2, none⟩ = some (.int .i64 xp) := d2
        have s1 : (xo != xo) = false := by simp
        have s2 : (xt != xt) = false := by simp
        have s3 : (xp != xp) = false := by simp
        have HW := Lib.hid (fun n => World.drewN_drewN w3 m n)
        clear a0 a1 a2 d0 d1 d2 hx
        generalize w3.drewN m = W0 at *
        go_wp2_with fail
        go_quiet (fail)
        go_wp2
        go_roundw
        case rel => exact ⟨i + 1, m + nq, by go_num, by omega, HW.out nq⟩
        case measure => simp [intOf]; omega
      · have hiK : i = K := by omega
        subst hiK
        have hfin : Below w.heap.size w (w3.drewN m) := below_drewN B3.out m
        go_wp2
        go_ret
        exact ⟨rfl, hfin⟩
  · go_wp2
    go_ret
    exact ⟨rfl, HBEL2.out⟩

set_option maxRecDepth 100000 in
theorem lifted (os : Os) (started : os.Started) (H : Type) (enc : TypeId × Value → H) :
    ReturnsInHanded {} Tryd.checked os 3 .any (fun w args => (Rows.indexMakesSpec.pre enc Tryd.prog Tryd.f3 [] false w args ∧ laidMetH Tryd.prog laid1 w) ∧ sizedMet enc Tryd.prog Tryd.f3 (OpenSpec.ofChange Rows.indexMakesSpec) false w args) (Rows.indexMakesSpec.post enc Tryd.prog Tryd.f3 false true false false) := by
  refine returnsInHanded_of_change_and (C := Tryd.checked) (X := fun w _ => laidMetH Tryd.prog laid1 w) (fun _ _ _ hh h => h.of_heap hh) own started (by kernel_rfl) Tryd.func3
    (ChangeSpec.witness_shaped (enc := enc) (C := Tryd.checked) (os := os) (X := fun w _ => laidMetH Tryd.prog laid1 w) false (World.doorLaid Tryd.prog 400 os) #[.slice none 0 0, .int .i64 0] 8 rfl (World.shaped_of_RefB (by kernel_rfl) (by kernel_rfl)) (by kernel_rfl) (by kernel_rfl) (by kernel_rfl) (door_met os _)) ?_
  intro W base args ds gs before hval0 hW _ _ hL _
  have hval : ∀ (j : Nat) t v, Tryd.f3.params[j]? = some t → args[j]? = some v → Value.okWide Tryd.prog W .any base t v := hval0
  have hW' := hW
  obtain ⟨p, q, hA0, hV, rfl, hfz, hnd⟩ := hW
  have hA : DataW.TrodAll enc Tryd.prog W 0 (fun _ => true) true Tryd.f3.params.toList args.toList ds p := hA0
  rw [Tryd.params3] at hA hval
  obtain ⟨v0, vs0, d0, ds0, p0, q0, hargs, rfl, rfl, h0, r0⟩ := trodAll_cons hA
  obtain ⟨v1, vs1, d1, ds1, p1, q1, rfl, rfl, rfl, h1, r1⟩ := trodAll_cons r0
  obtain ⟨rfl, rfl, rfl⟩ := trodAll_nil r1
  obtain rfl : args = #[v0, v1] := by cases args; simp_all
  obtain ⟨rfl, rfl⟩ := trodVars_none hV
  have k0 := h0
  have lt0 : ∀ x ∈ p0, x.block < W.heap.size := by obtain ⟨m, hm⟩ := k0; exact DataW.trod_lt m _ _ _ hm
  obtain ⟨a0, cap0, z0, rfl, w0⟩ := recs_came (hval 0 22 v0 rfl rfl) h0
  obtain ⟨a1, rfl, rfl, rfl, w1⟩ := open_int Tryd.underlying3 (hval 1 3 v1 rfl rfl) h1
  clear hA0 hval0
  refine (walk a0 cap0 z0 a1 W (of_laid hL) w0 w1).mono fun e W' ⟨he, bel⟩ => ?_
  subst he
  exact ⟨_, rfl, _, _, _, [], _, [], hW', trodAll_mk1 (shut_bool Tryd.underlying4 _), (trodAll_cons_mk (Below.trod laidOut (by kernel_rfl) (of_decide_eq_true (by kernel_rfl)) k0 bel lt0) (trodAll_cons_mk (shut_int Tryd.underlying3 w1) trodAll_mk0)), rfl, bel.frame _, fun h => by cases h⟩

theorem over : Rows.indexMakesRow.holds Tryd.pinned (OpenSpec.ofChange Rows.indexMakesSpec) :=
  OpenClaim.holds_of_wide 3 Tryd.f3 rfl rfl rfl rfl rfl rfl rfl ⟨rfl, rfl, rfl, rfl, rfl⟩ rfl rfl rfl rfl rfl (by kernel_rfl) Tryd.func3 (by kernel_rfl)
    (of_decide_eq_true (by kernel_rfl)) (by unfold Func.isWrapper; first | (rw [if_pos (by decide +kernel)]; kernel_rfl) | (rw [if_neg (by decide +kernel)]; exact ⟨rfl, rfl⟩))
    (fun os started H enc _ => lifted os started H enc)

theorem proved : Rows.IndexMakesCardSaid :=
  Claim7.holds_tied_plain_at .later [] [.data] true (true, "cd441d64ee8463f8884ecdcc991c73fc74c9d8fee24340197352aeb24f58c16e") false
    over (fun _ h => by cases h) (by kernel_rfl) (fun _ h => by cases h) indexMakes_row_tie rfl ⟨rfl, rfl⟩ (by kernel_rfl) rfl
    (fun f fn hf hfn => by
      obtain rfl : f = 3 := Option.some.inj ((show Tryd.prog.funcNamed "cooperage/cooperagelaw9.IndexMakes" = some 3 by kernel_rfl).symm.trans hf) |>.symm
      obtain rfl : fn = Tryd.f3 := (Option.some.inj (Tryd.func3.symm.trans hfn)).symm
      exact ⟨by kernel_rfl, fun j t ht => by
        rw [Tryd.params3] at ht
        have hm : t ∈ [22, 3] := by simpa using Array.mem_of_getElem? ht
        have hall : ([22, 3].all fun u => !Tryd.prog.wantsStandIn u) = true := by kernel_rfl
        exact (show Tryd.prog.wantsStandIn t = false by simpa using List.all_eq_true.1 hall t hm)⟩)
    (by kernel_rfl)
#print axioms proved
end Go.Proofs.YtffmfgbjlijpeaaDoor.indexMakes
