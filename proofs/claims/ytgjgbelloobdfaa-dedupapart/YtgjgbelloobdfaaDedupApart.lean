/- Proved: for every list pids of numbers and every number other, DedupApart(pids, other) returns true. -/
import Derived.Test.YtgjgbelloobdfaaRows
import Derived.WalkKit
import Derived.ProofKit
import Derived.OpenShut
import Derived.ShutString
import Derived.ChangeOld
import Derived.Below
import Derived.Test.YtgjgbelloobdfaaCame
import Derived.Test.YtgjgbelloobdfaaDedTrio
import Derived.Test.YtgjgbelloobdfaaDedNum
namespace Go.Proofs.Ytgjgbelloobdfaa.dedupApart
open Go.ChangeShapes Go.WideShapes Go.ChangeAt Go.RowKit
open Go.ChangeMaps (open_string shut_string)
set_option linter.unusedVariables false

theorem own : ownKnob Try.prog.godebug = none := by kernel_rfl
theorem laidOut : laidOutB Try.prog = true := by kernel_rfl

def IsRow (k : IntKind) (w : World) (a : Option Addr) (len cap : Nat) (zs : List Int) : Prop :=
  (a = none ∧ len = 0 ∧ cap = 0 ∧ zs = []) ∨
  ∃ x, a = some x ∧ len ≤ cap ∧ cap ≤ maxLen ∧ zs.length = cap ∧ (∀ i, i < zs.length → w.cell? (x.add i) = some (.int k (zs.getD i 0))) ∧ ∀ n ∈ zs, (Lit.int k n).wf = true

set_option maxHeartbeats 3200000 in
theorem walk (a0 : Option Addr) (len0 cap0 : Nat) (z0 : List Int) (a1 : Int) (w : World) (w0 : IsRow .i64 w a0 len0 cap0 z0) (w1 : (Lit.int .i64 a1).wf = true) :
    Calls Try.prog 6 #[.slice a0 len0 cap0, .int .i64 a1] w fun e w' => e = .returned (.bool true) ∧ Below w.heap.size w w' := by
  obtain ⟨zs, rfl, hlc, hlm, hlie, hwfl, _⟩ := row_came w0
  have htz := tab_zero
  have HAL := Lib.hid (alive11_any w)
  have hp0 := bounds_i64 w1
  have HP := Lib.hid hp0
  have HWL := Lib.hid hwfl
  have HLI := Lib.hid hlie
  unfold maxLen at hlm
  clear w0 w1 hp0 hwfl hlie
  by_cases h1 : (30 : Int) < (zs.length : Int)
  · have q1 : decide ((30 : Int) < (zs.length : Int)) = true := decide_eq_true h1
    have q2 : decide (30 < zs.length) = true := decide_eq_true (by omega)
    go_enter Try.func6, Try.ntmps6
    go_wp2_with fail
    refine HAL.out.mono ?_
    rintro e w2 ⟨rfl, hb2⟩
    go_wp2_with fail
    go_ret
    exact ⟨rfl, hb2⟩
  have q1 : decide ((30 : Int) < (zs.length : Int)) = false := decide_eq_false h1
  have q2 : decide (30 < zs.length) = false := decide_eq_false (by omega)
  have hl30 : zs.length ≤ 30 := by omega
  clear h1
  go_enter Try.func6, Try.ntmps6
  go_wp2_with fail
  refine HAL.out.mono ?_
  rintro e w2 ⟨rfl, hb2⟩
  have H0 := Lib.hid (Trio.new2 w hb2)
  clear hb2 HAL q1 q2
  go_wp2_with fail
  have hgq : w2.heap.size ≠ w2.heap.size + 1 := by omega
  generalize (w2.alloc tabO).alloc (.cells #[.slice none 0 0] 32) = w3 at *
  generalize w2.heap.size + 1 = q at *
  generalize w2.heap.size = g at *
  go_loopw [8] (fun iv wr => ∃ (i : Nat) (l : List PidM), iv = .int .i64 i ∧ i ≤ zs.length ∧ hasP l a1 = false ∧ Trio w wr g q l l none (fun _ => none)) (fun iv _ => zs.length - (intOf iv).toNat)
  case atStart => exact ⟨0, [], rfl, Nat.zero_le _, rfl, H0.out⟩
  case round =>
    obtain ⟨i, l, rfl, hi, hno, hs⟩ := hrel
    have HS := Lib.hid hs
    have HNO := Lib.hid hno
    clear hno
    by_cases hlt : i < zs.length
    · have j1 : decide ((i : Int) < (zs.length : Int)) = true := decide_eq_true (by omega)
      have j2 : decide (i < zs.length) = true := decide_eq_true hlt
      obtain ⟨b, off, rfl, hb0, hcw⟩ := HLI.out.at_ hlt
      have hsz := bounds_i64 (HWL.out _ (List.getElem_mem hlt))
      obtain ⟨s, hsj⟩ : ∃ s, zs[i] = s := ⟨_, rfl⟩
      rw [hsj] at hcw hsz
      have hc0 := (hs.since.cell (p := ⟨b, off + i, none⟩) hb0).trans hcw
      have HCW := Lib.hid (fun (W : World) (hb : Below w.heap.size w W) => (hb.cell (p := ⟨b, off + i, none⟩) hb0).trans hcw)
      by_cases he : s = a1
      · have b1 : (s == a1) = true := by simpa using he
        clear hcw hsj hs hsz he
        go_wp2_with fail
        go_ret
        exact ⟨rfl, HS.out.since⟩
      · have b1 : (s == a1) = false := by simpa using he
        have hxw : (⟨s, (i : Int), 2 * (i : Int)⟩ : PidM).wf := ⟨hsz, ⟨by dsimp only; omega, by dsimp only; omega⟩, ⟨by dsimp only; omega, by dsimp only; omega⟩⟩
        have H1 := Lib.hid (HS.out.pset ⟨s, (i : Int), 2 * (i : Int)⟩ hxw)
        have H2 := Lib.hid (fun (W : World) (h : Trio w W g q (setP l ⟨s, (i : Int), 2 * (i : Int)⟩).1 l none (fun _ => none)) => h.rset ⟨s, (i : Int), 2 * (i : Int)⟩ hxw)
        have HN2 := Lib.hid (has_set (x := ⟨s, (i : Int), 2 * (i : Int)⟩) HNO.out he)
        dsimp only at H1 H2
        clear hcw hsj hs hsz he hxw
        go_wp2_with (first | (go_at_call 8; refine H1.out.mono ?_; rintro e w4 ⟨rfl, h4⟩; have H4 := Lib.hid h4; have hc4 := HCW.out w4 h4.since; clear h4) | (go_at_call 12; refine (H2.out _ H4.out).mono ?_; rintro e w5 ⟨rfl, h5⟩; have H5 := Lib.hid h5; clear h5))
        go_roundw
        case rel => exact ⟨i + 1, _, by go_num, hlt, HN2.out, H5.out⟩
        case measure => simp [intOf]; omega
    · obtain rfl : i = zs.length := by omega
      have K1 := Lib.hid (HS.out.pask a1 0 HP.out (by omega))
      have K2 := Lib.hid (fun (W : World) (h : Trio w W g q l l none (fun _ => none)) => h.pask a1 1 HP.out (by omega))
      rw [ask_none HNO.out] at K1 K2
      rw [if_pos rfl] at K1
      rw [if_neg (by decide)] at K2
      dsimp only at K1 K2
      clear hs hlt
      go_wp2_with fail
      refine K1.out.mono ?_
      rintro e w4 ⟨rfl, h4⟩
      have H4 := Lib.hid h4
      clear h4 K1
      go_wp2_with fail
      refine (K2.out _ H4.out).mono ?_
      rintro e w5 ⟨rfl, h5⟩
      have H5 := Lib.hid h5
      clear h5 K2
      go_wp2_with fail
      obtain ⟨T5, A5, cap5, hc5, hl5⟩ := H5.out.rl
      have HR := Lib.hid (fun (W : World) (h : Trio w W g q l l none (fun _ => none)) => h.prows)
      refine wp_region_held_drew (S := fun W => W.cell? ⟨q, 0, none⟩ = some (.slice A5 l.length cap5)) (by kernel_rfl) hc5 (fun hHeld => ?_)
      refine held_take 0 63 (v := ?v1) rfl rfl (by kernel_rfl) (by kernel_rfl) (by kernel_rfl) (fun _ _ _ h => h) hHeld (Or.inl ⟨by rfl, ?y1⟩) ?r1
      case y1 => intro W hSw; (try dsimp only at hSw); go_simp; (try with_reducible rfl)
      simp only [List.setIfInBounds_toArray, List.set_cons_zero, List.set_cons_succ]
      refine held_take 1 64 (v := ?v2) rfl rfl (by kernel_rfl) (by kernel_rfl) (by kernel_rfl) (fun _ _ _ h => h) hHeld (Or.inl ⟨by rfl, ?y2⟩) ?r2
      case y2 => intro W hSw; (try dsimp only at hSw); go_simp; (try with_reducible rfl)
      simp only [List.setIfInBounds_toArray, List.set_cons_zero, List.set_cons_succ]
      refine held_take 2 65 (v := ?v3) rfl rfl (by kernel_rfl) (by kernel_rfl) (by kernel_rfl) (fun _ _ _ h => h) hHeld (Or.inl ⟨by rfl, ?y3⟩) ?r3
      case y3 => intro W hSw; (try dsimp only at hSw); go_simp; (try with_reducible rfl)
      simp only [List.setIfInBounds_toArray, List.set_cons_zero, List.set_cons_succ]
      refine held_take 3 66 (v := ?v4) rfl rfl (by kernel_rfl) (by kernel_rfl) (by kernel_rfl) (fun _ _ _ h => h) hHeld (Or.inl ⟨by rfl, ?y4⟩) ?r4
      case y4 => intro W hSw; (try dsimp only at hSw); go_simp; (try with_reducible rfl)
      simp only [List.setIfInBounds_toArray, List.set_cons_zero, List.set_cons_succ]
      refine held_take 4 67 (v := ?v5) rfl rfl (by kernel_rfl) (by kernel_rfl) (by kernel_rfl) (fun _ _ _ h => h) hHeld (Or.inl ⟨by rfl, ?y5⟩) ?r5
      case y5 => intro W hSw; (try dsimp only at hSw); go_simp; (try with_reducible rfl)
      simp only [List.setIfInBounds_toArray, List.set_cons_zero, List.set_cons_succ]
      refine held_take 5 68 (v := ?v6) rfl rfl (by kernel_rfl) (by kernel_rfl) (by kernel_rfl) (fun _ _ _ h => h) hHeld (Or.inl ⟨by rfl, ?y6⟩) ?r6
      case y6 => intro W hSw; (try dsimp only at hSw); go_simp; (try with_reducible rfl)
      simp only [List.setIfInBounds_toArray, List.set_cons_zero, List.set_cons_succ]
      refine held_take 6 69 (v := ?v7) rfl rfl (by kernel_rfl) (by kernel_rfl) (by kernel_rfl) (fun _ _ _ h => h) hHeld (Or.inl ⟨by rfl, ?y7⟩) ?r7
      case y7 => intro W hSw; (try dsimp only at hSw); go_simp; (try with_reducible rfl)
      simp only [List.setIfInBounds_toArray, List.set_cons_zero, List.set_cons_succ]
      refine held_take 7 70 (v := ?v8) rfl rfl (by kernel_rfl) (by kernel_rfl) (by kernel_rfl) (fun _ _ _ h => h) hHeld (Or.inl ⟨by rfl, ?y8⟩) ?r8
      case y8 => intro W hSw; (try dsimp only at hSw); go_simp; (try with_reducible rfl)
      simp only [List.setIfInBounds_toArray, List.set_cons_zero, List.set_cons_succ]
      refine held_take 8 71 (v := ?v9) rfl rfl (by kernel_rfl) (by kernel_rfl) (by kernel_rfl) (fun _ _ _ h => h) hHeld (Or.inl ⟨by rfl, ?y9⟩) ?r9
      case y9 => intro W hSw; (try dsimp only at hSw); go_simp; (try with_reducible rfl)
      simp only [List.setIfInBounds_toArray, List.set_cons_zero, List.set_cons_succ]
      refine held_take 9 72 (v := ?v10) rfl rfl (by kernel_rfl) (by kernel_rfl) (by kernel_rfl) (fun _ _ _ h => h) hHeld (Or.inl ⟨by rfl, ?y10⟩) ?r10
      case y10 => intro W hSw; (try dsimp only at hSw); go_simp; (try with_reducible rfl)
      simp only [List.setIfInBounds_toArray, List.set_cons_zero, List.set_cons_succ]
      refine held_take 10 73 (v := ?v11) rfl rfl (by kernel_rfl) (by kernel_rfl) (by kernel_rfl) (fun _ _ _ h => h) hHeld (Or.inl ⟨by rfl, ?y11⟩) ?r11
      case y11 => intro W hSw; (try dsimp only at hSw); go_simp; (try with_reducible rfl)
      simp only [List.setIfInBounds_toArray, List.set_cons_zero, List.set_cons_succ]
      refine held_take 12 75 (v := ?v12) rfl rfl (by kernel_rfl) (by kernel_rfl) (by kernel_rfl) (fun _ _ _ h => h) hHeld (Or.inl ⟨by rfl, ?y12⟩) ?r12
      case y12 => intro W hSw; (try dsimp only at hSw); go_simp; (try with_reducible rfl)
      simp only [List.setIfInBounds_toArray, List.set_cons_zero, List.set_cons_succ]
      refine held_take 13 76 (v := ?v13) rfl rfl (by kernel_rfl) (by kernel_rfl) (by kernel_rfl) (fun _ _ _ h => h) hHeld (Or.inl ⟨by rfl, ?y13⟩) ?r13
      case y13 => intro W hSw; (try dsimp only at hSw); go_simp; (try with_reducible rfl)
      simp only [List.setIfInBounds_toArray, List.set_cons_zero, List.set_cons_succ]
      refine held_take 14 77 (v := ?v14) rfl rfl (by kernel_rfl) (by kernel_rfl) (by kernel_rfl) (fun _ _ _ h => h) hHeld (Or.inl ⟨by rfl, ?y14⟩) ?r14
      case y14 => intro W hSw; (try dsimp only at hSw); go_simp; (try with_reducible rfl)
      simp only [List.setIfInBounds_toArray, List.set_cons_zero, List.set_cons_succ]
      refine held_take 15 78 (v := ?v15) rfl rfl (by kernel_rfl) (by kernel_rfl) (by kernel_rfl) (fun _ _ _ h => h) hHeld (Or.inl ⟨by rfl, ?y15⟩) ?r15
      case y15 => intro W hSw; (try dsimp only at hSw); go_simp; (try with_reducible rfl)
      simp only [List.setIfInBounds_toArray, List.set_cons_zero, List.set_cons_succ]
      refine wpAnyH_ready (rs := [11]) (by kernel_rfl) (by simp) ?_
      refine AllReadyH.cons rfl (fun K hK => ?_) AllReadyH.nil
      go_simp
      refine (HR.out w5.drew (H5.out.below (Below.refl _ w5).drew)).mono ?_
      rintro e w6 ⟨v6, rfl, hown6, hb6, h6⟩
      have hc6 : w6.cell? ⟨q, 0, none⟩ = some (.slice A5 l.length cap5) := (hb6.cell (p := ⟨q, 0, none⟩) (cell_block_lt hc5)).trans hc5
      obtain ⟨T6, A6, cap6, hd6, hl6⟩ := h6.rl
      rw [hc6] at hd6
      injection hd6 with hd6
      injection hd6 with e1 _ e3
      subst e1 e3
      obtain ⟨A7, c7, rfl, hl7, _⟩ := OwnS.parts hown6
      have HSM := Lib.hid (samerows_any w6 l l _ T6 A7 A5 c7 cap5 hl7 hl6)
      have H6 := Lib.hid h6
      refine hK.out _ _ hc6 (fun hHeld => ?_)
      clear hK K hown6 hb6 h6 hl7 hl6
      (try simp only [Act.put, List.setIfInBounds_toArray, List.set_cons_zero, List.set_cons_succ])
      refine wpAnyH_ready (rs := [16]) (by kernel_rfl) (by simp) ?_
      refine AllReadyH.cons rfl (fun K hK => ?_) AllReadyH.nil
      go_simp
      refine HSM.out.mono ?_
      rintro e w7 ⟨d7, m7, rfl, hd7, rfl⟩
      obtain rfl : d7 = true := hd7.2 rfl
      refine hK.out _ _ hHeld (fun hHeld => ?_)
      clear hK K hd7
      (try simp only [Act.put, List.setIfInBounds_toArray, List.set_cons_zero, List.set_cons_succ])
      refine held_take 17 80 (v := ?v16) rfl rfl (by kernel_rfl) (by kernel_rfl) (by kernel_rfl) (fun _ _ _ h => h) hHeld (Or.inl ⟨by rfl, ?y16⟩) ?r16
      case y16 => intro W hSw; (try dsimp only at hSw); go_simp; (try with_reducible rfl)
      simp only [List.setIfInBounds_toArray, List.set_cons_zero, List.set_cons_succ]
      refine held_take 18 4 (v := ?v17) rfl rfl (by kernel_rfl) (by kernel_rfl) (by kernel_rfl) (fun _ _ _ h => h) hHeld (Or.inl ⟨by rfl, ?y17⟩) ?r17
      case y17 => intro W hSw; (try dsimp only at hSw); go_simp; (try with_reducible rfl)
      simp only [List.setIfInBounds_toArray, List.set_cons_zero, List.set_cons_succ]
      refine wpAnyH_done (by kernel_rfl) ?_ _
      go_wp2_with fail
      go_ret
      exact ⟨rfl, below_drewN H6.out.since m7⟩

set_option maxRecDepth 100000 in
theorem lifted (os : Os) (started : os.Started) (H : Type) (enc : TypeId × Value → H) :
    ReturnsInHanded {} Try.checked os 6 .any (Rows.dedupApartSpec.pre6 enc Try.prog Try.f6 Rows.dedupApartRow.domain false) (Rows.dedupApartSpec.post enc Try.prog Try.f6 false true false false) := by
  refine returnsInHanded_of_change (C := Try.checked) own started (by kernel_rfl) Try.func6
    (ChangeSpec.witness6 (enc := enc) (C := Try.checked) false ⟨#[], #[.slice none 0 0, .int .i64 0], []⟩ 8 (by kernel_rfl) (by kernel_rfl) (by kernel_rfl) (by kernel_rfl)) ?_
  intro W base args ds gs before hval0 hW hcnd _
  have hval : ∀ (j : Nat) t v, Try.f6.params[j]? = some t → args[j]? = some v → Value.okWide Try.prog W .any base t v := hval0
  have hW' := hW
  obtain ⟨p, q, hA0, hV, rfl, hfz, hnd⟩ := hW
  have hA : DataW.TrodAll enc Try.prog W 0 (fun _ => true) true Try.f6.params.toList args.toList ds p := hA0
  rw [Try.params6] at hA hval
  obtain ⟨v0, vs0, d0, ds0, p0, q0, hargs, rfl, rfl, h0, r0⟩ := trodAll_cons hA
  obtain ⟨v1, vs1, d1, ds1, p1, q1, rfl, rfl, rfl, h1, r1⟩ := trodAll_cons r0
  obtain ⟨rfl, rfl, rfl⟩ := trodAll_nil r1
  obtain rfl : args = #[v0, v1] := by cases args; simp_all
  obtain ⟨rfl, rfl⟩ := trodVars_none hV
  obtain ⟨a0, len0, cap0, rfl⟩ := okWide_slice Try.underlying44 (hval 0 44 v0 rfl rfl)
  have k0 := h0
  have lt0 : ∀ x ∈ p0, x.block < W.heap.size := by obtain ⟨m, hm⟩ := k0; exact DataW.trod_lt m _ _ _ hm
  obtain ⟨z0, w0⟩ : ∃ zs, IsRow .i64 W a0 len0 cap0 zs := by
    obtain ⟨fuel, hf⟩ := h0
    rcases open_ints Try.underlying44 Try.underlying3 (by kernel_rfl) hf with ⟨hcs, _⟩ | ⟨x, l, c, zs, hcs, _, hl, hm, hz, _, hcell, hwz⟩
    · simp [Value.cells] at hcs
      obtain ⟨rfl, rfl, rfl⟩ := hcs
      exact ⟨[], .inl ⟨rfl, rfl, rfl, rfl⟩⟩
    · simp [Value.cells] at hcs
      obtain ⟨rfl, rfl, rfl⟩ := hcs
      exact ⟨zs, .inr ⟨_, rfl, hl, hm, by simpa using hz, hcell, hwz⟩⟩
  obtain ⟨a1, rfl, rfl, rfl, w1⟩ := open_int Try.underlying3 (hval 1 3 v1 rfl rfl) h1
  clear hA0 hval0
  refine (walk a0 len0 cap0 z0 a1 W w0 w1).mono fun e W' ⟨he, bel⟩ => ?_
  subst he
  exact ⟨_, rfl, _, _, _, [], _, [], hW', trodAll_mk1 (shut_bool Try.underlying4 _), (trodAll_cons_mk (Below.trod laidOut (by kernel_rfl) (of_decide_eq_true (by kernel_rfl)) k0 bel lt0) (trodAll_cons_mk (shut_int Try.underlying3 w1) trodAll_mk0)), rfl, bel.frame _, fun h => by cases h⟩

theorem over : Rows.dedupApartRow.holds Try.pinned (OpenSpec.ofChange Rows.dedupApartSpec) :=
  OpenClaim.holds_of_wide 6 Try.f6 rfl rfl rfl rfl rfl rfl rfl ⟨rfl, rfl, rfl, rfl, rfl⟩ rfl rfl rfl rfl rfl (by kernel_rfl) Try.func6 (by kernel_rfl)
    (of_decide_eq_true (by kernel_rfl)) (by unfold Func.isWrapper; first | (rw [if_pos (by decide +kernel)]; kernel_rfl) | (rw [if_neg (by decide +kernel)]; exact ⟨rfl, rfl⟩))
    (fun os started H enc _ => lifted os started H enc)

theorem proved : Rows.DedupApartSaid := over
#print axioms proved
end Go.Proofs.Ytgjgbelloobdfaa.dedupApart
