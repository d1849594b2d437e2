/- Proved: for every list of times, every age and now, and both choices of active, RetainAges returns true. -/
import Derived.Test.YtoienjlpncphgaaRows
import Derived.WalkKit
import Derived.ProofKit
import Derived.OpenShut
import Derived.ShutString
import Derived.ChangeOld
import Derived.Below
import Derived.Test.YtoienjlpncphgaaCame
import Derived.Test.YtoienjlpncphgaaRetAlive
import Derived.Test.YtoienjlpncphgaaRDrop
import Derived.Test.YtoienjlpncphgaaSegsCame
import Derived.Test.YtoienjlpncphgaaAgesNum
import Derived.Test.YtoienjlpncphgaaAndNum
namespace Go.Proofs.Ytoienjlpncphgaa.retainAges
open Go.ChangeShapes Go.WideShapes Go.ChangeAt Go.RowKit
open Go.ChangeMaps (open_string shut_string)
set_option linter.unusedVariables false

theorem own : ownKnob Try.prog.godebug = none := by kernel_rfl
theorem laidOut : laidOutB Try.prog = true := by kernel_rfl

def IsRow (k : IntKind) (w : World) (a : Option Addr) (len cap : Nat) (zs : List Int) : Prop :=
  (a = none ∧ len = 0 ∧ cap = 0 ∧ zs = []) ∨
  ∃ x, a = some x ∧ len ≤ cap ∧ cap ≤ maxLen ∧ zs.length = cap ∧ (∀ i, i < zs.length → w.cell? (x.add i) = some (.int k (zs.getD i 0))) ∧ ∀ n ∈ zs, (Lit.int k n).wf = true

set_option maxHeartbeats 6400000 in
set_option maxRecDepth 4000 in
theorem walk (a0 : Option Addr) (len0 cap0 : Nat) (z0 : List Int) (a1 : Int) (a2 : Int) (a3 : Bool) (w : World) (w0 : IsRow .i64 w a0 len0 cap0 z0) (w1 : (Lit.int .i64 a1).wf = true) (w2 : (Lit.int .i64 a2).wf = true) :
    Calls Try.prog 5 #[.slice a0 len0 cap0, .int .i64 a1, .int .i64 a2, .bool a3] w fun e w' => e = .returned (.bool true) ∧ Below w.heap.size w w' := by
  have HAL := Lib.hid (fun W => alive14_any W)
  obtain ⟨zs, rfl, hlc, hlm, hlie, hwfl, _⟩ := row_came w0
  have b1 := bounds_i64 w1
  have b2 := bounds_i64 w2
  have HLI := Lib.hid hlie
  unfold maxLen at hlm
  clear w0 w1 w2 hlie hwfl
  go_enter Try.func5, Try.ntmps5
  go_wp2_with fail
  refine (HAL.out _).mono ?_
  rintro e w3 ⟨rfl, hb3⟩
  have HB3 := Lib.hid hb3
  clear hb3 HAL
  by_cases h1 : 30 < zs.length
  · have q1 : decide ((30 : Int) < (zs.length : Int)) = true := decide_eq_true (by omega)
    go_wp2_with fail
    go_ret
    exact ⟨rfl, HB3.out⟩
  have q1 : decide ((30 : Int) < (zs.length : Int)) = false := decide_eq_false (by omega)
  by_cases h2 : a1 < 1
  · have q2 : decide (a1 < 1) = true := decide_eq_true (by omega)
    go_wp2_with fail
    go_ret
    exact ⟨rfl, HB3.out⟩
  have q2 : decide (a1 < 1) = false := decide_eq_false (by omega)
  by_cases h3 : 1000 < a1
  · have q3 : decide (1000 < a1) = true := decide_eq_true (by omega)
    go_wp2_with fail
    go_ret
    exact ⟨rfl, HB3.out⟩
  have q3 : decide (1000 < a1) = false := decide_eq_false (by omega)
  by_cases h4 : a2 < -1000
  · have q4 : decide (a2 < -1000) = true := decide_eq_true (by omega)
    go_wp2_with fail
    go_ret
    exact ⟨rfl, HB3.out⟩
  have q4 : decide (a2 < -1000) = false := decide_eq_false (by omega)
  by_cases h5 : 2000 < a2
  · have q5 : decide (2000 < a2) = true := decide_eq_true (by omega)
    go_wp2_with fail
    go_ret
    exact ⟨rfl, HB3.out⟩
  have q5 : decide (2000 < a2) = false := decide_eq_false (by omega)
  have hlen : zs.length ≤ 30 := by omega
  have ha1 : 1 ≤ a1 := by omega
  have ha2 : a1 ≤ 1000 := by omega
  have hn1 : -1000 ≤ a2 := by omega
  have hn2 : a2 ≤ 2000 := by omega
  clear h1 h2 h3 h4 h5
  go_wp2_with fail
  go_loopw [10, 11, 12, 13] (fun lv wv fv iv wr => ∃ (i : Nat) (ps : List LSeg), iv = .int .i64 i ∧ i ≤ zs.length ∧ ps.length = i ∧ (∀ s ∈ ps, s.wf) ∧ OwnS segRep 31 wr noSB w3.heap.size lv ps ∧ Below w3.heap.size w3 wr ∧ wv = .int .i64 (dropL 0 a1 a2 ps : Nat) ∧ fv = .bool (decide (dropL 0 a1 a2 ps = ps.length))) (fun _ _ _ iv _ => zs.length - (intOf iv).toNat)
  case atStart => exact ⟨0, [], rfl, Nat.zero_le _, rfl, (fun _ h => by cases h), OwnS.nil (fun _ h => h.elim), Below.refl _ _, rfl, rfl⟩
  case round =>
    obtain ⟨i, ps, rfl, hi, hpi, hpw, hown, hbel, rfl, rfl⟩ := hrel
    have HPI := Lib.hid hpi
    have HPW := Lib.hid hpw
    have HB := Lib.hid hbel
    have hDle := dropL_le 0 a1 a2 ps
    rw [hpi] at hDle
    have hbs := hbel.size
    clear hpi hpw
    by_cases hlt : i < zs.length
    · have j1 : decide ((i : Int) < (zs.length : Int)) = true := decide_eq_true (by omega)
      obtain ⟨b, off, rfl, hb0, hcw⟩ := HLI.out.at_ hlt
      obtain ⟨x, hx⟩ : ∃ x, zs[i] = x := ⟨_, rfl⟩
      rw [hx] at hcw
      have c0 : wr.cell? ⟨b, off + i, none⟩ = some (.int .i64 x) := (hbel.cell (p := ⟨b, off + i, none⟩) (by have := HB3.out.size; show b < _; omega)).trans ((HB3.out.cell (p := ⟨b, off + i, none⟩) hb0).trans hcw)
      obtain ⟨T, hT⟩ : ∃ T, x % 1024 = T := ⟨_, rfl⟩
      have e0 : bits .and .i64 x 1023 = T := (and1023 x).trans hT
      have hT1 : 0 ≤ T := by omega
      have hT2 : T ≤ 1023 := by omega
      have HLT := Lib.hid hlt
      have HO := Lib.hid hown
      obtain ⟨D, hD⟩ : ∃ D, dropL 0 a1 a2 ps = D := ⟨_, rfl⟩
      have HD := Lib.hid hD
      have HW2 : Hid (∀ s ∈ ps ++ [agS i T], s.wf) := Lib.hid (by intro s hs; rcases List.mem_append.mp hs with hs | hs; exact HPW.out s hs; rcases List.mem_singleton.mp hs with rfl; exact agS_wf (by omega) ⟨hT1, hT2⟩)
      rw [hD] at hDle ⊢
      clear hcw hb0 hx hT hbel hown hlt hD
      by_cases hfr : D = ps.length
      · have f0 : decide (D = ps.length) = true := decide_eq_true hfr
        by_cases hold : a1 < a2 - T
        · have f1 : decide (a1 < a2 - T) = true := decide_eq_true hold
          have HF : Hid (dropL 0 a1 a2 (ps ++ [agS i T]) = D + 1 ∧ decide (dropL 0 a1 a2 (ps ++ [agS i T]) = (ps ++ [agS i T]).length) = true) := Lib.hid (by
            have h9 := dropL_front (age := a1) (now := a2) ps i T (by omega) (HD.out.trans hfr) hold
            exact ⟨h9.trans (by rw [List.length_append, hfr]; rfl), decide_eq_true h9⟩)
          clear hfr
          go_wp2_with (at_builtin; refine wpList_append_one (R := segRep) (S := noSB) rfl (.tmp 51) (.tmp 57) 22 31 rfl Try.underlying22 _ seg_info rfl w3.heap.size _ ps rfl wr (agS i T) (segCells (.slice none 0 0) (agS i T)) rfl (seg_bare rfl) HO.out wr.heap.size rfl rfl (by rw [HPI.out]; omega) hbs ?_; intro v4 w4 hown4 hb4 _ _; have HO4 := Lib.hid hown4; have HB4 := Lib.hid hb4; clear hown4 hb4)
          go_roundw
          case rel => exact ⟨i + 1, ps ++ [agS i T], by go_num, HLT.out, by rw [List.length_append, HPI.out]; rfl, HW2.out, HO4.out, HB.out.trans HB4.out, by rw [HF.out.1]; go_num, by rw [HF.out.2]⟩
          case measure => simp [intOf]; have := HLT.out; omega
        · have f1 : decide (a1 < a2 - T) = false := decide_eq_false hold
          have HF : Hid (dropL 0 a1 a2 (ps ++ [agS i T]) = D ∧ decide (dropL 0 a1 a2 (ps ++ [agS i T]) = (ps ++ [agS i T]).length) = false) := Lib.hid (by
            have h9 := dropL_stop (age := a1) (now := a2) ps i T (HD.out.trans hfr) hold
            exact ⟨h9.trans hfr.symm, decide_eq_false (by rw [h9, List.length_append]; simp)⟩)
          clear hfr
          go_wp2_with (at_builtin; refine wpList_append_one (R := segRep) (S := noSB) rfl (.tmp 51) (.tmp 57) 22 31 rfl Try.underlying22 _ seg_info rfl w3.heap.size _ ps rfl wr (agS i T) (segCells (.slice none 0 0) (agS i T)) rfl (seg_bare rfl) HO.out wr.heap.size rfl rfl (by rw [HPI.out]; omega) hbs ?_; intro v4 w4 hown4 hb4 _ _; have HO4 := Lib.hid hown4; have HB4 := Lib.hid hb4; clear hown4 hb4)
          go_roundw
          case rel => exact ⟨i + 1, ps ++ [agS i T], by go_num, HLT.out, by rw [List.length_append, HPI.out]; rfl, HW2.out, HO4.out, HB.out.trans HB4.out, by rw [HF.out.1], by rw [HF.out.2]⟩
          case measure => simp [intOf]; have := HLT.out; omega
      · have f0 : decide (D = ps.length) = false := decide_eq_false hfr
        have HF : Hid (dropL 0 a1 a2 (ps ++ [agS i T]) = D ∧ decide (dropL 0 a1 a2 (ps ++ [agS i T]) = (ps ++ [agS i T]).length) = false) := Lib.hid (by
            have h9 := dropL_past (age := a1) (now := a2) ps (agS i T) (by rw [HD.out]; exact hfr)
            exact ⟨h9.trans HD.out, decide_eq_false (by have h8 := dropL_le 0 a1 a2 ps; rw [h9, List.length_append]; simp; omega)⟩)
        clear hfr
        go_wp2_with (at_builtin; refine wpList_append_one (R := segRep) (S := noSB) rfl (.tmp 51) (.tmp 57) 22 31 rfl Try.underlying22 _ seg_info rfl w3.heap.size _ ps rfl wr (agS i T) (segCells (.slice none 0 0) (agS i T)) rfl (seg_bare rfl) HO.out wr.heap.size rfl rfl (by rw [HPI.out]; omega) hbs ?_; intro v4 w4 hown4 hb4 _ _; have HO4 := Lib.hid hown4; have HB4 := Lib.hid hb4; clear hown4 hb4)
        go_roundw
        case rel => exact ⟨i + 1, ps ++ [agS i T], by go_num, HLT.out, by rw [List.length_append, HPI.out]; rfl, HW2.out, HO4.out, HB.out.trans HB4.out, by rw [HF.out.1], by rw [HF.out.2]⟩
        case measure => simp [intOf]; have := HLT.out; omega
    · obtain rfl : i = zs.length := by omega
      have j1 : decide ((zs.length : Int) < (zs.length : Int)) = false := decide_eq_false (by omega)
      obtain ⟨D, hD⟩ : ∃ D, dropL 0 a1 a2 ps = D := ⟨_, rfl⟩
      have HD := Lib.hid hD
      have hbb : ((D : Int) == (D : Int)) = true := by simp
      rw [hD] at hDle ⊢
      have HB5 := Lib.hid (HB3.out.trans (hbel.mono HB3.out.size))
      cases a3 with
      | false =>
        obtain ⟨A, c, rfl, hl, hS⟩ := own_segs hown
        have HV := Lib.hid (vdrop_any wr _ ps A c hl hS HPW.out 0 0 a1 0 a2 (by omega) (by omega) (by omega) (by rw [HPI.out]; omega))
        rw [HD.out] at HV
        clear hl hS hown hD hbel
        go_wp2_with fail
        refine HV.out.mono ?_
        rintro e w5 ⟨rfl, hb5⟩
        have HF := Lib.hid (HB5.out.trans (hb5.mono HB5.out.size))
        clear hb5 HV
        go_wp2_with fail
        go_ret
        exact ⟨rfl, HF.out⟩
      | true =>
        have HO := Lib.hid hown
        clear hown hD hbel
        go_wp2_with (at_builtin; refine wpList_append_one (R := segRep) (S := noSB) rfl (.tmp 71) (.tmp 73) 22 31 rfl Try.underlying22 _ seg_info rfl w3.heap.size _ ps rfl wr ⟨0, 0, 0, 0, [], false, false, false, 0, 0⟩ [.int .i64 0, .int .i64 0, .int .i64 0, .int .i64 0, .slice none 0 0, .bool false, .bool false, .bool false, .int .i64 0, .int .u32 0] rfl (seg_bare (s := ⟨0, 0, 0, 0, [], false, false, false, 0, 0⟩) rfl) HO.out wr.heap.size rfl rfl (by rw [HPI.out]; omega) hbs ?_; intro v4 w4 hown4 hb4 _ _; have HO4 := Lib.hid hown4; have HB4 := Lib.hid hb4; clear hown4 hb4; refine Hid.out ?_)
        refine Lib.hid ?_
        obtain ⟨A, c, rfl, hl, hS⟩ := own_segs HO4.out
        have HV := Lib.hid (vdrop_any w4 _ (ps ++ [zeroS]) A c hl hS (by intro s hs; rcases List.mem_append.mp hs with hs | hs; exact HPW.out s hs; rcases List.mem_singleton.mp hs with rfl; exact zeroS_wf) 0 0 a1 0 a2 (by omega) (by omega) (by omega) (by rw [List.length_append, HPI.out, List.length_singleton]; omega))
        rw [dropL_zero, HD.out] at HV
        simp only [List.length_append, List.length_cons, List.length_nil, Nat.zero_add] at HV
        have HB6 : Hid (Below w.heap.size w w4) := Lib.hid (HB3.out.trans ((HB.out.trans (HB4.out.mono (Nat.le_refl _))).mono HB3.out.size))
        clear hl hS HB4 HO HO4
        go_wp2_with fail
        refine HV.out.mono ?_
        rintro e w5 ⟨rfl, hb5⟩
        have HF := Lib.hid (HB6.out.trans (hb5.mono HB6.out.size))
        clear hb5 HV
        go_wp2_with fail
        go_ret
        exact ⟨rfl, HF.out⟩

set_option maxRecDepth 100000 in
theorem lifted (os : Os) (started : os.Started) (H : Type) (enc : TypeId × Value → H) :
    ReturnsInHanded {} Try.checked os 5 .any (Rows.retainAgesSpec.pre6 enc Try.prog Try.f5 Rows.retainAgesRow.domain false) (Rows.retainAgesSpec.post enc Try.prog Try.f5 false true false false) := by
  refine returnsInHanded_of_change (C := Try.checked) own started (by kernel_rfl) Try.func5
    (ChangeSpec.witness6 (enc := enc) (C := Try.checked) false ⟨#[], #[.slice none 0 0, .int .i64 0, .int .i64 0, .bool false], []⟩ 8 (by kernel_rfl) (by kernel_rfl) (by kernel_rfl) (by kernel_rfl)) ?_
  intro W base args ds gs before hval0 hW hcnd _
  have hval : ∀ (j : Nat) t v, Try.f5.params[j]? = some t → args[j]? = some v → Value.okWide Try.prog W .any base t v := hval0
  have hW' := hW
  obtain ⟨p, q, hA0, hV, rfl, hfz, hnd⟩ := hW
  have hA : DataW.TrodAll enc Try.prog W 0 (fun _ => true) true Try.f5.params.toList args.toList ds p := hA0
  rw [Try.params5] at hA hval
  obtain ⟨v0, vs0, d0, ds0, p0, q0, hargs, rfl, rfl, h0, r0⟩ := trodAll_cons hA
  obtain ⟨v1, vs1, d1, ds1, p1, q1, rfl, rfl, rfl, h1, r1⟩ := trodAll_cons r0
  obtain ⟨v2, vs2, d2, ds2, p2, q2, rfl, rfl, rfl, h2, r2⟩ := trodAll_cons r1
  obtain ⟨v3, vs3, d3, ds3, p3, q3, rfl, rfl, rfl, h3, r3⟩ := trodAll_cons r2
  obtain ⟨rfl, rfl, rfl⟩ := trodAll_nil r3
  obtain rfl : args = #[v0, v1, v2, v3] := by cases args; simp_all
  obtain ⟨rfl, rfl⟩ := trodVars_none hV
  obtain ⟨a0, len0, cap0, rfl⟩ := okWide_slice Try.underlying32 (hval 0 32 v0 rfl rfl)
  have k0 := h0
  have lt0 : ∀ x ∈ p0, x.block < W.heap.size := by obtain ⟨m, hm⟩ := k0; exact DataW.trod_lt m _ _ _ hm
  obtain ⟨z0, w0⟩ : ∃ zs, IsRow .i64 W a0 len0 cap0 zs := by
    obtain ⟨fuel, hf⟩ := h0
    rcases open_ints Try.underlying32 Try.underlying3 (by kernel_rfl) hf with ⟨hcs, _⟩ | ⟨x, l, c, zs, hcs, _, hl, hm, hz, _, hcell, hwz⟩
    · simp [Value.cells] at hcs
      obtain ⟨rfl, rfl, rfl⟩ := hcs
      exact ⟨[], .inl ⟨rfl, rfl, rfl, rfl⟩⟩
    · simp [Value.cells] at hcs
      obtain ⟨rfl, rfl, rfl⟩ := hcs
      exact ⟨zs, .inr ⟨_, rfl, hl, hm, by simpa using hz, hcell, hwz⟩⟩
  obtain ⟨a1, rfl, rfl, rfl, w1⟩ := open_int Try.underlying3 (hval 1 3 v1 rfl rfl) h1
  obtain ⟨a2, rfl, rfl, rfl, w2⟩ := open_int Try.underlying3 (hval 2 3 v2 rfl rfl) h2
  obtain ⟨a3, rfl, rfl, rfl⟩ := open_bool Try.underlying4 (hval 3 4 v3 rfl rfl) h3
  clear hA0 hval0
  refine (walk a0 len0 cap0 z0 a1 a2 a3 W w0 w1 w2).mono fun e W' ⟨he, bel⟩ => ?_
  subst he
  exact ⟨_, rfl, _, _, _, [], _, [], hW', trodAll_mk1 (shut_bool Try.underlying4 _), (trodAll_cons_mk (Below.trod laidOut (by kernel_rfl) (of_decide_eq_true (by kernel_rfl)) k0 bel lt0) (trodAll_cons_mk (shut_int Try.underlying3 w1) (trodAll_cons_mk (shut_int Try.underlying3 w2) (trodAll_cons_mk (shut_bool Try.underlying4 _) trodAll_mk0)))), rfl, bel.frame _, fun h => by cases h⟩

theorem over : Rows.retainAgesRow.holds Try.pinned (OpenSpec.ofChange Rows.retainAgesSpec) :=
  OpenClaim.holds_of_wide 5 Try.f5 rfl rfl rfl rfl rfl rfl rfl ⟨rfl, rfl, rfl, rfl, rfl⟩ rfl rfl rfl rfl rfl (by kernel_rfl) Try.func5 (by kernel_rfl)
    (of_decide_eq_true (by kernel_rfl)) (by unfold Func.isWrapper; first | (rw [if_pos (by decide +kernel)]; kernel_rfl) | (rw [if_neg (by decide +kernel)]; exact ⟨rfl, rfl⟩))
    (fun os started H enc _ => lifted os started H enc)

theorem proved : Rows.RetainAgesSaid := over
#print axioms proved
end Go.Proofs.Ytoienjlpncphgaa.retainAges
