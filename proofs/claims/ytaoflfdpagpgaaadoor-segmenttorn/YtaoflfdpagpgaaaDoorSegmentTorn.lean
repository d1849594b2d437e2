/- Proved: for every list l of records and every number n, SegmentTorn(l, n) returns true. -/
import Derived.Test.YtaoflfdpagpgaaaDoorRows
import Derived.WalkKit
import Derived.ProofKit
import Derived.OpenShut
import Derived.ShutString
import Derived.ChangeOld
import Derived.Below
import Derived.LaidMore
import Derived.Stop.Joined
import Derived.SevenTiedAt
import Derived.Test.YtaoflfdpagpgaaaDoorCards
import Derived.Test.YtaoflfdpagpgaaaDoorTie
import Derived.Test.YtaoflfdpagpgaaaDoorCame
import Derived.Test.YtaoflfdpagpgaaaDoorSegTorn
import Derived.Test.YtaoflfdpagpgaaaDoorCrcLaid
namespace Go.Proofs.YtaoflfdpagpgaaaDoor.segmentTorn
open Go.ChangeShapes Go.WideShapes Go.ChangeAt Go.RowKit
open Go.ChangeMaps (open_string shut_string)
set_option linter.unusedVariables false

theorem own : ownKnob Tryd.prog.godebug = none := by kernel_rfl
theorem laidOut : laidOutB Tryd.prog = true := by kernel_rfl

def IsRow (k : IntKind) (w : World) (a : Option Addr) (len cap : Nat) (zs : List Int) : Prop :=
  (a = none ∧ len = 0 ∧ cap = 0 ∧ zs = []) ∨
  ∃ x, a = some x ∧ len ≤ cap ∧ cap ≤ maxLen ∧ zs.length = cap ∧ (∀ i, i < zs.length → w.cell? (x.add i) = some (.int k (zs.getD i 0))) ∧ ∀ n ∈ zs, (Lit.int k n).wf = true

set_option maxHeartbeats 3200000 in
set_option maxRecDepth 4000 in
theorem walk (a0 : Option Addr) (cap0 : Nat) (z0 : List Rec) (a1 : Int) (w : World) (hh : Half w) (w0 : RecsLie w a0 z0 cap0) (w1 : (Lit.int .i64 a1).wf = true) :
    Calls Tryd.prog 5 #[.slice a0 z0.length cap0, .int .i64 a1] w fun e w' => e = .returned (.bool true) ∧ Below w.heap.size w w' := by
  obtain ⟨hr0, hr1⟩ := bounds_i64 w1
  have HACT := Lib.hid w0
  have hcl := w0.2.1
  have hcm := w0.2.2.1
  have h0 := hh.pos
  unfold maxLen at hcm
  have HBG := Lib.hid (fun wA (hb : Below w.heap.size w wA) => big_any w wA a0 z0 cap0 w0 hb)
  have HAL := Lib.hid (alive_any w hh)
  have HH := Lib.hid hh
  clear w0 w1 hh
  go_enter Tryd.func5, Tryd.ntmps5
  go_wp2_with fail
  refine HAL.out.mono ?_
  rintro e wA ⟨rfl, hbel⟩
  have HB := Lib.hid (HBG.out wA hbel)
  have HBEL := Lib.hid hbel
  clear hbel HAL HBG
  go_wp2_with fail
  refine HB.out.mono ?_
  rintro e wB ⟨hwB, r, rfl, hsm⟩
  have HBEL2 : Hid (Below w.heap.size w wB) := Lib.hid (by rw [hwB]; exact HBEL.out)
  have HSM := Lib.hid hsm
  clear HB hsm HBEL hwB wA
  cases r
  · have hlen := Lib.hid (HSM.out rfl).1
    by_cases hneg : a1 < 0
    · have hq : decide (a1 < 0) = true := decide_eq_true hneg
      go_wp2
      go_ret
      exact ⟨rfl, HBEL2.out⟩
    · have hq : decide (a1 < 0) = false := decide_eq_false hneg
      obtain ⟨N0, rfl⟩ : ∃ N0 : Nat, a1 = (N0 : Int) := ⟨a1.toNat, by omega⟩
      clear hneg
      go_wp2_with fail
      clear hq
      go_loopw [7, 8] (fun v iv wr => ∃ i : Nat, iv = .int .i64 i ∧ i ≤ z0.length ∧ OwnR wr w.heap.size v (newG (z0.take i)) ∧ Below w.heap.size w wr) (fun _ iv _ => z0.length - (intOf iv).toNat)
      case atStart => exact ⟨0, rfl, Nat.zero_le _, OwnR.nil, HBEL2.out⟩
      case round =>
        obtain ⟨i, rfl, hi, hown, hbel⟩ := hrel
        have HO := Lib.hid hown
        have HB := Lib.hid hbel
        clear hown
        by_cases hlt : i < z0.length
        · obtain ⟨b, off, rfl, hbl, hat⟩ := HACT.out.more hlt
          obtain ⟨g0, g1, g2, g3, g4⟩ := hat.keep (w' := wr) fun j => hbel.cell hbl
          have HSN := Lib.hid (newG_snoc z0 i hlt)
          have HSK := Lib.hid (newG_skip z0 i hlt)
          obtain ⟨x, hx⟩ : ∃ x, z0[i] = x := ⟨_, rfl⟩
          rw [hx] at g0 g1 g2 g3 g4 HSN HSK
          obtain ⟨xo, xt, xk, xv, xd⟩ := x
          unfold numbered at HSN HSK
          dsimp only at g0 g1 g2 g3 g4 HSN HSK
          have HRT := Lib.hid (fun W => refright_any ⟨(i : Int), xt, xk, xv, xd⟩ W)
          unfold recV at HRT
          dsimp only at HRT
          have hbs := hbel.size
          have HBX := Lib.hid (HB.out.alloc hbs (.cells #[.int .i64 (i : Int), .int .i64 xt, .string xk, .string xv, .bool xd] 38))
          have HOX := Lib.hid (HO.out.alloc (.cells #[.int .i64 (i : Int), .int .i64 xt, .string xk, .string xv, .bool xd] 38))
          clear hat hx hbl hbel
          have hi60 : i ≤ 60 := by have := hlen.out; omega
          have HLB : Hid ((newG (z0.take i)).length + 1 ≤ 1099511627776) := Lib.hid (by
            have := newG_length (z0.take i)
            rw [List.length_take] at this
            omega)
          have hnew : ∀ W, Below (wr.alloc (.cells #[.int .i64 (i : Int), .int .i64 xt, .string xk, .string xv, .bool xd] 38)).heap.size (wr.alloc (.cells #[.int .i64 (i : Int), .int .i64 xt, .string xk, .string xv, .bool xd] 38)) W → ∀ j, W.cell? ⟨wr.heap.size, j, none⟩ = (#[.int .i64 (i : Int), .int .i64 xt, .string xk, .string xv, .bool xd] : Array Value)[j]? := fun W hb j => by
            have : W.heap[wr.heap.size]? = some (.cells #[.int .i64 (i : Int), .int .i64 xt, .string xk, .string xv, .bool xd] 38) := by
              rw [hb.block _ (by simp)]
              show (wr.heap.push _)[wr.heap.size]? = _
              simp
            unfold World.cell?
            rw [this]
            rfl
          have HNW := Lib.hid hnew
          clear hnew
          by_cases hrt : (⟨(i : Int), xt, xk, xv, xd⟩ : Rec).right
          · have HE := Lib.hid (HSN.out hrt)
            rw [decide_eq_true hrt] at HRT
            clear HSN HSK hrt
            go_wp2_with fail
            refine (HRT.out _).mono ?_
            rintro e w2 ⟨rfl, hb2⟩
            have b0 := HNW.out w2 hb2 0
            have b1 := HNW.out w2 hb2 1
            have b2 := HNW.out w2 hb2 2
            have b3 := HNW.out w2 hb2 3
            have b4 := HNW.out w2 hb2 4
            simp only [List.getElem?_toArray, List.getElem?_cons_zero, List.getElem?_cons_succ] at b0 b1 b2 b3 b4
            have HO2 := Lib.hid (HOX.out.below hb2)
            have HB2 := Lib.hid (HBX.out.trans (hb2.mono HBX.out.size))
            have hz2 := HB2.out.size
            clear HRT hb2 HNW HOX HBX HO HB g0 g1 g2 g3 g4
            go_wp2_with (at_builtin; refine wpList_append_rec rfl (.tmp 40) (.tmp 42) rfl w.heap.size _ (newG (z0.take i)) rfl w2 ⟨(i : Int), xt, xk, xv, xd⟩ rfl HO2.out rfl HLB.out hz2 ?_; intro v4 w4 hown4 hb4 _ _; have HO4 := Lib.hid hown4; have HB4 := Lib.hid hb4; clear hown4 hb4)
            go_roundw
            case rel => exact ⟨i + 1, by go_num, hlt, by rw [HE.out]; exact HO4.out, HB2.out.trans HB4.out⟩
            case measure => simp [intOf]; omega
          · have HE := Lib.hid (HSK.out hrt)
            rw [decide_eq_false hrt] at HRT
            clear HSN HSK hrt
            go_wp2_with fail
            refine (HRT.out _).mono ?_
            rintro e w2 ⟨rfl, hb2⟩
            have HO2 := Lib.hid (HOX.out.below hb2)
            have HB2 := Lib.hid (HBX.out.trans (hb2.mono HBX.out.size))
            clear HRT hb2 HNW HOX HBX HO HB g0 g1 g2 g3 g4
            go_wp2_with fail
            go_roundw
            case rel => exact ⟨i + 1, by go_num, hlt, by rw [HE.out]; exact HO2.out, HB2.out⟩
            case measure => simp [intOf]; omega
        · have hil : i = z0.length := by omega
          have HO0 := HO.out
          rw [hil, List.take_length] at HO0
          have HWF : Hid (∀ r ∈ newG z0, r.wf) := Lib.hid (fun r hr => (newG_right z0 r hr).wf)
          obtain ⟨Ag, cg, rfl, pg, hAg⟩ := HO0.parts HWF.out
          have PG := Lib.hid pg
          have hgl := newG_length z0
          have hl60 := hlen.out
          have hqg : ¬ (i : Int) < (z0.length : Int) := by omega
          have HBT := Lib.hid (refbytes_any wr (newG z0) Ag cg pg (by omega))
          obtain ⟨G, hG⟩ : ∃ G, newG z0 = G := ⟨_, rfl⟩
          have hbt := newG_bytes z0 (newG z0).length
          rw [List.take_length] at hbt
          have HTT := Lib.hid (fun n hn (rs : List Rec) (k : Nat) (h : SegIs none ((segF (newG z0)).take n) rs k) => torn_tells z0 n hn h)
          have HGB := Lib.hid (newG_bytes z0)
          have HGR := Lib.hid (newG_right z0)
          rw [hbt] at HBT
          rw [hG] at HBT HTT HGB HGR HWF PG hgl
          rw [hG]
          have hcg := PG.out.2.1
          have hcgm := PG.out.2.2.1
          unfold maxLen at hcgm
          have HSF := Lib.hid (fun j => segF_length (G.take j) fun r hr => HGR.out r (List.mem_of_mem_take hr))
          have HRG := Lib.hid (segF_range G HGR.out)
          obtain ⟨gl, hgle⟩ : ∃ gl, G.length = gl := ⟨_, rfl⟩
          have HGL := Lib.hid hgle
          rw [hgle] at HBT hgl hcg ⊢
          clear pg hG hbt hgle HO0 HO hil
          go_wp2_with fail
          refine HBT.out.mono ?_
          rintro e w2 ⟨v2, rfl, o2, b2⟩
          obtain ⟨A2, c2, rfl, q1, q2⟩ := o2.form
          obtain ⟨M, hM⟩ : ∃ M, (segF G).length = M := ⟨_, rfl⟩
          have hMb : M ≤ 144000 := by
            have := HSF.out G.length
            rw [List.take_length, hM] at this
            have h2 := HGL.out
            omega
          obtain ⟨N, hN⟩ : ∃ N, N0 % (M + 1) = N := ⟨_, rfl⟩
          have hNM : N ≤ M := by have := Nat.mod_lt N0 (show 0 < M + 1 by omega); omega
          have hmz : ¬ ((M : Int) + 1) = 0 := by omega
          have hmod : (N0 : Int).tmod ((M : Int) + 1) = (N : Int) := by
            rw [← hN, show ((M : Int) + 1) = ((M + 1 : Nat) : Int) from rfl, Int.ofNat_tmod]
          have hz2 := HB.out.size
          have B2 := Lib.hid (HB.out.trans (b2.mono hz2))
          have hsc := vsegscan_any A2 ((segF G).take N) c2 w2 (HH.out.below B2.out h0) (o2.lies.take N) (fun c hc => HRG.out c (List.mem_of_mem_take hc)) (by rw [List.length_take]; omega) q2 (by rw [List.length_take]; omega)
          rw [List.length_take, hM, Nat.min_eq_left hNM] at hsc
          have HSC := Lib.hid hsc
          have PG2 := Lib.hid ((PG.out.below b2 (Nat.le_refl _)))
          have HNM := Lib.hid (show N ≤ (segF G).length by rw [hM]; exact hNM)
          have HME := Lib.hid hM
          rw [hM] at q1 ⊢
          unfold maxLen at q2
          have HTT2 := Lib.hid (HTT.out N HNM.out)
          clear hsc o2 b2 HBT hM hN HTT PG HB
          go_wp2_with fail
          refine HSC.out.mono ?_
          rintro e w3 ⟨v3, rs, k, rfl, s3, o3, _, _, _, b3⟩
          clear hmz hmod
          obtain ⟨j, hj, rfl, hk, hkn, hor⟩ := HTT2.out rs k s3
          obtain ⟨A3, c3, rfl, p3, _⟩ := o3.parts fun r hr => (HGR.out r (List.mem_of_mem_take hr)).wf
          have hjl : (G.take j).length = j := by rw [List.length_take]; omega
          have hjg : j ≤ gl := by rw [← HGL.out]; exact hj
          have B3 := Lib.hid (B2.out.trans (b3.mono B2.out.size))
          have PG3 := Lib.hid (PG2.out.below b3 (Nat.le_refl _))
          have P3 := Lib.hid p3
          have hs := samerecs_any w3 (G.take j) A3 Ag c3 cg p3 (PG3.out.take hj)
          have hb4 := fun (W : World) (hb : Below w3.heap.size w3 W) => refbytes_any W (G.take j) A3 c3 (P3.out.below hb (Nat.le_refl _)) (by rw [hjl]; omega)
          have hb5 := fun (W : World) (hb : Below w3.heap.size w3 W) (hlt : j + 1 ≤ G.length) => refbytes_any W (G.take (j + 1)) Ag cg ((PG3.out.below hb (Nat.le_refl _)).take hlt) (by rw [List.length_take]; omega)
          rw [hjl] at hs
          simp only [hjl, HGB.out] at hb4
          have HSR := Lib.hid hs
          have HB4 := Lib.hid hb4
          have HB5 := Lib.hid hb5
          have hc3 := p3.2.1
          have hc3m := p3.2.2.1
          unfold maxLen at hc3m
          rw [hjl] at hc3 ⊢
          have HKE := Lib.hid hk
          have q3 : decide ((N : Int) < (k : Int)) = false := decide_eq_false (by omega)
          have q4 : decide ((gl : Int) < (j : Int)) = false := decide_eq_false (by omega)
          have q5 : decide (gl < j) = false := decide_eq_false (by omega)
          have q6 : decide (N < k) = false := decide_eq_false (by omega)
          have q7 : ((k : Int) != (k : Int)) = false := by simp
          have HOR := Lib.hid hor
          have HJG := Lib.hid hjg
          clear s3 o3 b3 p3 hs hb4 hb5 hk hor hjl HSC HTT2 PG2 B2 hkn hj hNM hMb q1
          go_wp2_with fail
          refine HSR.out.mono ?_
          rintro e w4 ⟨rfl, m4, hw4⟩
          have b34 : Below w3.heap.size w3 w4 := by rw [hw4]; exact below_drewN (Below.refl _ _) m4
          have H4 := Lib.hid (HB4.out w4 b34)
          have B34 := Lib.hid b34
          clear hw4 HSR HB4 b34
          go_wp2_with fail
          refine H4.out.mono ?_
          rintro e w5 ⟨v5, rfl, o5, b5⟩
          obtain ⟨A5, c5, rfl, q8, q9⟩ := o5.form
          have B35 := Lib.hid (B34.out.trans (b5.mono B34.out.size))
          have HK5 := HKE.out
          rw [← HK5]
          clear o5 b5 H4 B34 HK5 q8 q9
          by_cases hjq : j = gl
          · have q10 : ((j : Int) == (gl : Int)) = true := by simp [hjq]
            clear hjq
            go_wp2_with fail
            go_ret
            exact ⟨rfl, B3.out.trans (B35.out.mono B3.out.size)⟩
          · have q10 : ((j : Int) == (gl : Int)) = false := by simp; omega
            have hj1 : j + 1 ≤ gl := by omega
            have hjlt : j + 1 ≤ G.length := by rw [HGL.out]; exact hj1
            have hlong : N < (segF (G.take (j + 1))).length := by
              rcases HOR.out with h | h
              · exact absurd (h.trans HGL.out) hjq
              · exact h
            have h5 := HB5.out w5 B35.out hjlt
            have hj1l : (G.take (j + 1)).length = j + 1 := by rw [List.length_take]; omega
            rw [hj1l, HGB.out] at h5
            obtain ⟨J, hJ⟩ : ∃ J, j + 1 = J := ⟨_, rfl⟩
            obtain ⟨E, hE⟩ : ∃ E, (segF (G.take (j + 1))).length = E := ⟨_, rfl⟩
            rw [hE] at hlong
            have HE5 := Lib.hid hE
            rw [hJ] at h5 hj1
            have hJc : J ≤ cg := Nat.le_trans hj1 hcg
            have q11 : decide ((N : Int) < (E : Int)) = true := decide_eq_true (by omega)
            have hwJ : wrap64 ((j : Int) + 1) = (J : Int) := by unfold wrap64; omega
            have H5 := Lib.hid h5
            clear h5 hjlt hj1l hE hjq
            have q12 : decide (N < E) = true := decide_eq_true hlong
            have HJE := Lib.hid hJ
            clear hJ q3 q4 q5 q6 hc3 hc3m hlong hgl hl60 hi hqg hr0 hr1 hj1 hjg
            go_wp2_with fail
            refine H5.out.mono ?_
            rintro e w6 ⟨v6, rfl, o6, b6⟩
            obtain ⟨A6, c6, rfl, q13, q14⟩ := o6.form
            have B36 := Lib.hid (B35.out.trans (b6.mono B35.out.size))
            have HE6 := HE5.out
            rw [HJE.out] at HE6
            rw [HE6]
            clear o6 b6 H5 q13 q14 HE6
            go_wp2_with fail
            go_ret
            exact ⟨rfl, B3.out.trans (B36.out.mono B3.out.size)⟩
  · go_wp2
    go_ret
    exact ⟨rfl, HBEL2.out⟩

set_option maxRecDepth 100000 in
theorem lifted (os : Os) (started : os.Started) (H : Type) (enc : TypeId × Value → H) :
    ReturnsInHanded {} Tryd.checked os 5 .any (fun w args => (Rows.segmentTornSpec.pre enc Tryd.prog Tryd.f5 [] false w args ∧ laidMetH Tryd.prog laid1 w) ∧ sizedMet enc Tryd.prog Tryd.f5 (OpenSpec.ofChange Rows.segmentTornSpec) false w args) (Rows.segmentTornSpec.post enc Tryd.prog Tryd.f5 false true false false) := by
  refine returnsInHanded_of_change_and (C := Tryd.checked) (X := fun w _ => laidMetH Tryd.prog laid1 w) (fun _ _ _ hh h => h.of_heap hh) own started (by kernel_rfl) Tryd.func5
    (ChangeSpec.witness_shaped (enc := enc) (C := Tryd.checked) (os := os) (X := fun w _ => laidMetH Tryd.prog laid1 w) false (World.doorLaid Tryd.prog 400 os) #[.slice none 0 0, .int .i64 0] 8 rfl (World.shaped_of_RefB (by kernel_rfl) (by kernel_rfl)) (by kernel_rfl) (by kernel_rfl) (by kernel_rfl) (door_met os _)) ?_
  intro W base args ds gs before hval0 hW _ _ hL _
  have hval : ∀ (j : Nat) t v, Tryd.f5.params[j]? = some t → args[j]? = some v → Value.okWide Tryd.prog W .any base t v := hval0
  have hW' := hW
  obtain ⟨p, q, hA0, hV, rfl, hfz, hnd⟩ := hW
  have hA : DataW.TrodAll enc Tryd.prog W 0 (fun _ => true) true Tryd.f5.params.toList args.toList ds p := hA0
  rw [Tryd.params5] at hA hval
  obtain ⟨v0, vs0, d0, ds0, p0, q0, hargs, rfl, rfl, h0, r0⟩ := trodAll_cons hA
  obtain ⟨v1, vs1, d1, ds1, p1, q1, rfl, rfl, rfl, h1, r1⟩ := trodAll_cons r0
  obtain ⟨rfl, rfl, rfl⟩ := trodAll_nil r1
  obtain rfl : args = #[v0, v1] := by cases args; simp_all
  obtain ⟨rfl, rfl⟩ := trodVars_none hV
  have k0 := h0
  have lt0 : ∀ x ∈ p0, x.block < W.heap.size := by obtain ⟨m, hm⟩ := k0; exact DataW.trod_lt m _ _ _ hm
  obtain ⟨a0, cap0, z0, rfl, w0⟩ := recs_came (hval 0 22 v0 rfl rfl) h0
  obtain ⟨a1, rfl, rfl, rfl, w1⟩ := open_int Tryd.underlying3 (hval 1 3 v1 rfl rfl) h1
  clear hA0 hval0
  refine (walk a0 cap0 z0 a1 W (of_laid hL) w0 w1).mono fun e W' ⟨he, bel⟩ => ?_
  subst he
  exact ⟨_, rfl, _, _, _, [], _, [], hW', trodAll_mk1 (shut_bool Tryd.underlying4 _), (trodAll_cons_mk (Below.trod laidOut (by kernel_rfl) (of_decide_eq_true (by kernel_rfl)) k0 bel lt0) (trodAll_cons_mk (shut_int Tryd.underlying3 w1) trodAll_mk0)), rfl, bel.frame _, fun h => by cases h⟩

theorem over : Rows.segmentTornRow.holds Tryd.pinned (OpenSpec.ofChange Rows.segmentTornSpec) :=
  OpenClaim.holds_of_wide 5 Tryd.f5 rfl rfl rfl rfl rfl rfl rfl ⟨rfl, rfl, rfl, rfl, rfl⟩ rfl rfl rfl rfl rfl (by kernel_rfl) Tryd.func5 (by kernel_rfl)
    (of_decide_eq_true (by kernel_rfl)) (by unfold Func.isWrapper; first | (rw [if_pos (by decide +kernel)]; kernel_rfl) | (rw [if_neg (by decide +kernel)]; exact ⟨rfl, rfl⟩))
    (fun os started H enc _ => lifted os started H enc)

theorem proved : Rows.SegmentTornCardSaid :=
  Claim7.holds_tied_plain_at .later [] [.data] true (true, "57e34fe7e6195b37330d53ae7f2fe2cefffe6bf52f7c82621d6670bc05d0138e") false
    over (fun _ h => by cases h) (by kernel_rfl) (fun _ h => by cases h) segmentTorn_row_tie rfl ⟨rfl, rfl⟩ (by kernel_rfl) rfl
    (fun f fn hf hfn => by
      obtain rfl : f = 5 := Option.some.inj ((show Tryd.prog.funcNamed "cooperage/cooperagelaw8.SegmentTorn" = some 5 by kernel_rfl).symm.trans hf) |>.symm
      obtain rfl : fn = Tryd.f5 := (Option.some.inj (Tryd.func5.symm.trans hfn)).symm
      exact ⟨by kernel_rfl, fun j t ht => by
        rw [Tryd.params5] at ht
        have hm : t ∈ [22, 3] := by simpa using Array.mem_of_getElem? ht
        have hall : ([22, 3].all fun u => !Tryd.prog.wantsStandIn u) = true := by kernel_rfl
        exact (show Tryd.prog.wantsStandIn t = false by simpa using List.all_eq_true.1 hall t hm)⟩)
    (by kernel_rfl)
#print axioms proved
end Go.Proofs.YtaoflfdpagpgaaaDoor.segmentTorn
