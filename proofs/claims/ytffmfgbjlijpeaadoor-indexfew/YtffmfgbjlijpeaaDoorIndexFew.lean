/- Proved: for every list l of records and every number every, IndexFew(l, every) returns true. -/
import Derived.Test.YtffmfgbjlijpeaaDoorRows
import Derived.WalkKit
import Derived.ProofKit
import Derived.OpenShut
import Derived.ShutString
import Derived.ChangeOld
import Derived.Below
import Derived.LaidMore
import Derived.Stop.Joined
import Derived.SevenTiedAt
import Derived.Test.YtffmfgbjlijpeaaDoorCards
import Derived.Test.YtffmfgbjlijpeaaDoorTie
import Derived.Test.YtffmfgbjlijpeaaDoorCame
import Derived.Test.YtffmfgbjlijpeaaDoorFewNum
import Derived.Test.YtffmfgbjlijpeaaDoorIxAlive
import Derived.Test.YtffmfgbjlijpeaaDoorCrcLaid
namespace Go.Proofs.YtffmfgbjlijpeaaDoor.indexFew
open Go.ChangeShapes Go.WideShapes Go.ChangeAt Go.RowKit
open Go.ChangeMaps (open_string shut_string)
set_option linter.unusedVariables false

theorem own : ownKnob Tryd.prog.godebug = none := by kernel_rfl
theorem laidOut : laidOutB Tryd.prog = true := by kernel_rfl

def IsRow (k : IntKind) (w : World) (a : Option Addr) (len cap : Nat) (zs : List Int) : Prop :=
  (a = none ∧ len = 0 ∧ cap = 0 ∧ zs = []) ∨
  ∃ x, a = some x ∧ len ≤ cap ∧ cap ≤ maxLen ∧ zs.length = cap ∧ (∀ i, i < zs.length → w.cell? (x.add i) = some (.int k (zs.getD i 0))) ∧ ∀ n ∈ zs, (Lit.int k n).wf = true

set_option maxHeartbeats 3200000 in
set_option maxRecDepth 4000 in
theorem walk (a0 : Option Addr) (cap0 : Nat) (z0 : List Rec) (a1 : Int) (w : World) (hh : Half w) (w0 : RecsLie w a0 z0 cap0) (w1 : (Lit.int .i64 a1).wf = true) :
    Calls Tryd.prog 6 #[.slice a0 z0.length cap0, .int .i64 a1] w fun e w' => e = .returned (.bool true) ∧ Below w.heap.size w w' := by
  obtain ⟨hr0, hr1⟩ := bounds_i64 w1
  have HACT := Lib.hid w0
  have hcl := w0.2.1
  have hcm := w0.2.2.1
  have h0 := hh.pos
  unfold maxLen at hcm
  have HBG := Lib.hid (fun wA (hb : Below w.heap.size w wA) => big_any w wA a0 z0 cap0 w0 hb)
  have HAL := Lib.hid (alive9_any w hh)
  have HH := Lib.hid hh
  clear w0 w1 hh
  go_enter Tryd.func6, Tryd.ntmps6
  go_wp2_with fail
  refine HAL.out.mono ?_
  rintro e wA ⟨rfl, hbel⟩
  have HB := Lib.hid (HBG.out wA hbel)
  have HBEL := Lib.hid hbel
  clear hbel HAL HBG
  go_wp2_with fail
  refine HB.out.mono ?_
  rintro e wB ⟨hwB, r, rfl, hsm⟩
  have HBEL2 : Hid (Below w.heap.size w wB) := Lib.hid (by rw [hwB]; exact HBEL.out)
  have HSM := Lib.hid hsm
  clear HB hsm HBEL hwB wA
  cases r
  · have hlen := Lib.hid (HSM.out rfl).1
    by_cases hlo : a1 < 1
    · have hq : decide (a1 < 1) = true := decide_eq_true hlo
      go_wp2
      go_ret
      exact ⟨rfl, HBEL2.out⟩
    by_cases hhi : 100 < a1
    · have hq : decide (a1 < 1) = false := decide_eq_false hlo
      have hq2 : decide (100 < a1) = true := decide_eq_true hhi
      go_wp2
      go_ret
      exact ⟨rfl, HBEL2.out⟩
    · have hq : decide (a1 < 1) = false := decide_eq_false hlo
      have hq2 : decide (100 < a1) = false := decide_eq_false hhi
      obtain ⟨E, rfl⟩ : ∃ E : Nat, a1 = (E : Int) := ⟨a1.toNat, by omega⟩
      have HE0 : Hid (1 ≤ E ∧ E ≤ 100) := Lib.hid (by omega)
      clear hlo hhi HSM hr0 hr1
      go_wp2_with fail
      clear hq hq2
      go_loopw [7, 8] (fun v iv wr => ∃ i : Nat, iv = .int .i64 i ∧ i ≤ z0.length ∧ OwnR wr w.heap.size v (newG (z0.take i)) ∧ Below w.heap.size w wr) (fun _ iv _ => z0.length - (intOf iv).toNat)
      case atStart => exact ⟨0, rfl, Nat.zero_le _, OwnR.nil, HBEL2.out⟩
      case round =>
        obtain ⟨i, rfl, hi, hown, hbel⟩ := hrel
        have HO := Lib.hid hown
        have HB := Lib.hid hbel
        clear hown
        by_cases hlt : i < z0.length
        · obtain ⟨b, off, rfl, hbl, hat⟩ := HACT.out.more hlt
          obtain ⟨g0, g1, g2, g3, g4⟩ := hat.keep (w' := wr) fun j => hbel.cell hbl
          have HSN := Lib.hid (newG_snoc z0 i hlt)
          have HSK := Lib.hid (newG_skip z0 i hlt)
          obtain ⟨x, hx⟩ : ∃ x, z0[i] = x := ⟨_, rfl⟩
          rw [hx] at g0 g1 g2 g3 g4 HSN HSK
          obtain ⟨xo, xt, xk, xv, xd⟩ := x
          unfold numbered at HSN HSK
          dsimp only at g0 g1 g2 g3 g4 HSN HSK
          have HRT := Lib.hid (fun W => refright_any ⟨(i : Int), xt, xk, xv, xd⟩ W)
          unfold recV at HRT
          dsimp only at HRT
          have hbs := hbel.size
          have HBX := Lib.hid (HB.out.alloc hbs (.cells #[.int .i64 (i : Int), .int .i64 xt, .string xk, .string xv, .bool xd] 35))
          have HOX := Lib.hid (HO.out.alloc (.cells #[.int .i64 (i : Int), .int .i64 xt, .string xk, .string xv, .bool xd] 35))
          clear hat hx hbl hbel
          have hi60 : i ≤ 60 := by have := hlen.out; omega
          have HLB : Hid ((newG (z0.take i)).length + 1 ≤ 1099511627776) := Lib.hid (by
            have := newG_length (z0.take i)
            rw [List.length_take] at this
            omega)
          have hnew : ∀ W, Below (wr.alloc (.cells #[.int .i64 (i : Int), .int .i64 xt, .string xk, .string xv, .bool xd] 35)).heap.size (wr.alloc (.cells #[.int .i64 (i : Int), .int .i64 xt, .string xk, .string xv, .bool xd] 35)) W → ∀ j, W.cell? ⟨wr.heap.size, j, none⟩ = (#[.int .i64 (i : Int), .int .i64 xt, .string xk, .string xv, .bool xd] : Array Value)[j]? := fun W hb j => by
            have : W.heap[wr.heap.size]? = some (.cells #[.int .i64 (i : Int), .int .i64 xt, .string xk, .string xv, .bool xd] 35) := by
              rw [hb.block _ (by simp)]
              show (wr.heap.push _)[wr.heap.size]? = _
              simp
            unfold World.cell?
            rw [this]
            rfl
          have HNW := Lib.hid hnew
          clear hnew
          by_cases hrt : (⟨(i : Int), xt, xk, xv, xd⟩ : Rec).right
          · have HE := Lib.hid (HSN.out hrt)
            rw [decide_eq_true hrt] at HRT
            clear HSN HSK hrt
            go_wp2_with fail
            refine (HRT.out _).mono ?_
            rintro e w2 ⟨rfl, hb2⟩
            have b0 := HNW.out w2 hb2 0
            have b1 := HNW.out w2 hb2 1
            have b2 := HNW.out w2 hb2 2
            have b3 := HNW.out w2 hb2 3
            have b4 := HNW.out w2 hb2 4
            simp only [List.getElem?_toArray, List.getElem?_cons_zero, List.getElem?_cons_succ] at b0 b1 b2 b3 b4
            have HO2 := Lib.hid (HOX.out.below hb2)
            have HB2 := Lib.hid (HBX.out.trans (hb2.mono HBX.out.size))
            have hz2 := HB2.out.size
            clear HRT hb2 HNW HOX HBX HO HB g0 g1 g2 g3 g4
            go_wp2_with (at_builtin; refine wpList_append_rec rfl (.tmp 43) (.tmp 45) rfl w.heap.size _ (newG (z0.take i)) rfl w2 ⟨(i : Int), xt, xk, xv, xd⟩ rfl HO2.out rfl HLB.out hz2 ?_; intro v4 w4 hown4 hb4 _ _; have HO4 := Lib.hid hown4; have HB4 := Lib.hid hb4; clear hown4 hb4)
            go_roundw
            case rel => exact ⟨i + 1, by go_num, hlt, by rw [HE.out]; exact HO4.out, HB2.out.trans HB4.out⟩
            case measure => simp [intOf]; omega
          · have HE := Lib.hid (HSK.out hrt)
            rw [decide_eq_false hrt] at HRT
            clear HSN HSK hrt
            go_wp2_with fail
            refine (HRT.out _).mono ?_
            rintro e w2 ⟨rfl, hb2⟩
            have HO2 := Lib.hid (HOX.out.below hb2)
            have HB2 := Lib.hid (HBX.out.trans (hb2.mono HBX.out.size))
            clear HRT hb2 HNW HOX HBX HO HB g0 g1 g2 g3 g4
            go_wp2_with fail
            go_roundw
            case rel => exact ⟨i + 1, by go_num, hlt, by rw [HE.out]; exact HO2.out, HB2.out⟩
            case measure => simp [intOf]; omega
        · have hil : i = z0.length := by omega
          have HO0 := HO.out
          rw [hil, List.take_length] at HO0
          have HWF : Hid (∀ r ∈ newG z0, r.wf) := Lib.hid (fun r hr => (newG_right z0 r hr).wf)
          obtain ⟨Ag, cg, rfl, pg, hAg⟩ := HO0.parts HWF.out
          have hgl := newG_length z0
          have hl60 := hlen.out
          have hqg : ¬ (i : Int) < (z0.length : Int) := by omega
          have hbs := HB.out.size
          have HV := Lib.hid (vmake_any wr (HH.out.below HB.out h0) (newG z0) Ag cg pg (E : Int) (by have := HE0.out; omega) (by omega))
          have hgr := newG_right z0
          have hev : evN (E : Int) = E := by unfold evN; have := HE0.out; rw [if_neg (by omega)]; omega
          have hgd : goods (newG z0) = newG z0 := goods_all (newG_right z0)
          rw [hev, hgd] at HV
          have PG := Lib.hid pg
          obtain ⟨G, hG⟩ : ∃ G, newG z0 = G := ⟨_, rfl⟩
          rw [hG] at HV PG hgr hgl ⊢
          obtain ⟨MS, hMS⟩ : ∃ MS, makeM E G = MS := ⟨_, rfl⟩
          rw [hMS] at HV
          obtain ⟨f1, f2⟩ := few_facts G hgr E HE0.out.1 MS hMS
          have hcg := PG.out.2.1
          have hcgm := PG.out.2.2.1
          unfold maxLen at hcgm
          obtain ⟨gl, hgle⟩ : ∃ gl, G.length = gl := ⟨_, rfl⟩
          obtain ⟨K, hKe⟩ : ∃ K, MS.length = K := ⟨_, rfl⟩
          have HGL := Lib.hid hgle
          have HKL := Lib.hid hKe
          have F2 := Lib.hid f2
          rw [hKe, hgle] at f1
          rw [hgle] at HV hgl hcg ⊢
          have hgl60 : gl ≤ 60 := by omega
          clear pg hG hMS hgr hgle hKe HO0 HO hil f2 hev hgd hgl hlen hl60 hAg HWF
          go_wp2_with fail
          clear hqg
          refine HV.out.mono ?_
          rintro e w2 ⟨v2, rfl, o2, b2⟩
          obtain ⟨A2, c2, rfl, p2, _⟩ := OwnS.parts o2
          have hq1 := p2.2.1
          have hq2 := p2.2.2
          unfold maxLen at hq2
          rw [HKL.out] at hq1 ⊢
          have hK60 : K ≤ 60 := by
            rw [f1]
            have hE := HE0.out
            have h1 : (gl + E - 1) / E ≤ 60 := by
              rw [← Nat.lt_succ_iff, Nat.div_lt_iff_lt_mul (by omega)]
              have := Nat.mul_le_mul_left 61 hE.1
              omega
            exact h1
          have hdiv : ((gl : Int) + (E : Int) - 1).tdiv (E : Int) = (K : Int) := by
            have hE := HE0.out
            rw [f1, show ((gl : Int) + (E : Int) - 1) = ((gl + E - 1 : Nat) : Int) by omega, ← Int.ofNat_tdiv]
          have hEz : ¬ (E : Int) = 0 := by have := HE0.out; omega
          have B2 := Lib.hid (HB.out.trans (b2.mono hbs))
          have PG2 := Lib.hid (PG.out.below b2 (Nat.le_refl _))
          have P2 := Lib.hid p2
          have hEb := HE0.out
          have hkk : ((K : Int) != (K : Int)) = false := by simp
          clear p2 o2 b2 HV PG HB hbs f1
          go_wp2_with fail
          generalize wr = wC at *
          go_loopw [11] (fun iv wr => ∃ i m : Nat, iv = .int .i64 i ∧ i ≤ K ∧ wr = w2.drewN m) (fun iv _ => K - (intOf iv).toNat)
          case atStart => exact ⟨0, 0, rfl, Nat.zero_le _, rfl⟩
          case round =>
            obtain ⟨i, m, rfl, hi, rfl⟩ := hrel
            by_cases hlt : i < K
            · have hltM : i < MS.length := by rw [HKL.out]; exact hlt
              obtain ⟨h', e1, e2, e3⟩ := F2.out i hltM
              obtain ⟨bg, og, rfl, z1, r0, z2, z3, z4, z5⟩ := PG2.out.more h'
              clear z1 z2 z3 z4 z5
              have hQl : i * E < gl := by rw [← HGL.out]; exact h'
              obtain ⟨r, hr⟩ : ∃ r, G[i * E] = r := ⟨_, rfl⟩
              rw [hr] at r0 e1
              obtain ⟨x, hx⟩ : ∃ x, MS[i] = x := ⟨_, rfl⟩
              obtain ⟨b2, o2, rfl, _, _, a0, a1, a2⟩ := imark_cells P2.out hltM x hx
              have HW := Lib.hid (fun n => World.drewN_drewN w2 m n)
              rw [← e1, hx] at r0
              obtain ⟨Q, hQ⟩ : ∃ Q, i * E = Q := ⟨_, rfl⟩
              rw [hQ] at r0 hQl
              obtain ⟨xo, xt, xp⟩ := x
              dsimp only at a0 a1 a2 r0
              have q1 : (xo != xo) = false := by simp
              have hgl0 : (Q : Int) < (gl : Int) := by omega
              have hik : (i : Int) < (K : Int) := by omega
              have r0' : (w2.drewN m).cell? ⟨bg, og + Q * 5, none⟩ = some (.int .i64 xo) := r0
              have a0' : (w2.drewN m).cell? ⟨b2, o2 + i * 3, none⟩ = some (.int .i64 xo) := a0
              by_cases hi0 : i = 0
              · obtain ⟨e4, e5⟩ := e2 hi0
                rw [hx] at e4 e5
                dsimp only at e4 e5
                subst e4 e5
                have a1' : (w2.drewN m).cell? ⟨b2, o2 + i * 3 + 1, none⟩ = some (.int .i64 (-1099511627777)) := a1
                have a2' : (w2.drewN m).cell? ⟨b2, o2 + i * 3 + 2, none⟩ = some (.int .i64 0) := a2
                have q2 : decide (0 < (i : Int)) = false := decide_eq_false (by omega)
                have q2' : decide (0 < i) = false := decide_eq_false (by omega)
                have q5 : ((i : Int) == 0) = true := by simp [hi0]
                have q5' : (i == 0) = true := by simp [hi0]
                have hwm : (i : Int) * (E : Int) = (Q : Int) := by rw [← hQ]; simp
                have hw : wrap64 ((i : Int) * (E : Int)) = (Q : Int) := by rw [hwm]; unfold wrap64; omega
                have hw2 := (IntWalk.i64_left ((i : Int) * (E : Int))).trans hw
                have HI := Lib.hid hi0
                clear a0 a1 a2 r0 hx hr e1 e2 e3 h' hltM hQ hwm hi0
                generalize w2.drewN m = W0 at *
                go_wp2_with fail
                simp only [List.append]
                go_quiet (fail)
                go_wp2
                go_roundw
                case rel => exact ⟨i + 1, m + nq, by go_num, by omega, HW.out nq⟩
                case measure => simp [intOf]; omega
              · obtain ⟨j, hj⟩ : ∃ j, i = j + 1 := ⟨i - 1, by omega⟩
                have hltJ : j < MS.length := by omega
                obtain ⟨e4, e5⟩ := e3 j hj
                obtain ⟨y, hy⟩ : ∃ y, MS[j] = y := ⟨_, rfl⟩
                obtain ⟨b3, o3, hbb, z1, z2, d0, d1, d2⟩ := imark_cells P2.out hltJ y hy
                injection hbb with hbb
                injection hbb with hb1 hb2 hb3
                subst hb1 hb2
                clear z1 z2 hb3
                rw [hx, hy] at e4 e5
                obtain ⟨yo, yt, yp⟩ := y
                dsimp only at d0 d1 d2 e4 e5
                have a1' : (w2.drewN m).cell? ⟨b2, o2 + i * 3 + 1, none⟩ = some (.int .i64 xt) := a1
                have a2' : (w2.drewN m).cell? ⟨b2, o2 + i * 3 + 2, none⟩ = some (.int .i64 xp) := a2
                have d0' : (w2.drewN m).cell? ⟨b2, o2 + j * 3, none⟩ = some (.int .i64 yo) := d0
                have d1' : (w2.drewN m).cell? ⟨b2, o2 + j * 3 + 1, none⟩ = some (.int .i64 yt) := d1
                have d2' : (w2.drewN m).cell? ⟨b2, o2 + j * 3 + 2, none⟩ = some (.int .i64 yp) := d2
                have q2 : decide (0 < (i : Int)) = true := decide_eq_true (by omega)
                have q2' : decide (0 < i) = true := decide_eq_true (by omega)
                have q3 : decide (xp ≤ yp) = false := decide_eq_false (by omega)
                have q4 : decide (xt < yt) = false := decide_eq_false (by omega)
                have q5 : ((i : Int) == 0) = false := by simp; omega
                have q5' : (i == 0) = false := by simp; omega
                have hjk : (j : Int) < (K : Int) := by omega
                have hwm : (i : Int) * (E : Int) = (Q : Int) := by rw [← hQ]; simp
                have hwj : wrap64 ((i : Int) - 1) = (j : Int) := by unfold wrap64; omega
                have hw : wrap64 ((i : Int) * (E : Int)) = (Q : Int) := by rw [hwm]; unfold wrap64; omega
                have hw2 := (IntWalk.i64_left ((i : Int) * (E : Int))).trans hw
                have hw3 := (IntWalk.i64_left ((i : Int) - 1)).trans hwj
                have HI := Lib.hid hj
                clear a0 a1 a2 d0 d1 d2 r0 hx hy hr e1 e2 e3 e4 e5 h' hltM hltJ hQ hwm hi0 hj
                generalize w2.drewN m = W0 at *
                go_wp2_with fail
                simp only [List.append]
                go_quiet (fail)
                go_wp2
                go_roundw
                case rel => exact ⟨i + 1, m + nq, by go_num, by omega, HW.out nq⟩
                case measure => simp [intOf]; omega
            · have hiK : i = K := by omega
              subst hiK
              have hfin : Below w.heap.size w (w2.drewN m) := below_drewN B2.out m
              go_wp2
              go_ret
              exact ⟨rfl, hfin⟩
  · go_wp2
    go_ret
    exact ⟨rfl, HBEL2.out⟩

set_option maxRecDepth 100000 in
theorem lifted (os : Os) (started : os.Started) (H : Type) (enc : TypeId × Value → H) :
    ReturnsInHanded {} Tryd.checked os 6 .any (fun w args => (Rows.indexFewSpec.pre enc Tryd.prog Tryd.f6 [] false w args ∧ laidMetH Tryd.prog laid1 w) ∧ sizedMet enc Tryd.prog Tryd.f6 (OpenSpec.ofChange Rows.indexFewSpec) false w args) (Rows.indexFewSpec.post enc Tryd.prog Tryd.f6 false true false false) := by
  refine returnsInHanded_of_change_and (C := Tryd.checked) (X := fun w _ => laidMetH Tryd.prog laid1 w) (fun _ _ _ hh h => h.of_heap hh) own started (by kernel_rfl) Tryd.func6
    (ChangeSpec.witness_shaped (enc := enc) (C := Tryd.checked) (os := os) (X := fun w _ => laidMetH Tryd.prog laid1 w) false (World.doorLaid Tryd.prog 400 os) #[.slice none 0 0, .int .i64 0] 8 rfl (World.shaped_of_RefB (by kernel_rfl) (by kernel_rfl)) (by kernel_rfl) (by kernel_rfl) (by kernel_rfl) (door_met os _)) ?_
  intro W base args ds gs before hval0 hW _ _ hL _
  have hval : ∀ (j : Nat) t v, Tryd.f6.params[j]? = some t → args[j]? = some v → Value.okWide Tryd.prog W .any base t v := hval0
  have hW' := hW
  obtain ⟨p, q, hA0, hV, rfl, hfz, hnd⟩ := hW
  have hA : DataW.TrodAll enc Tryd.prog W 0 (fun _ => true) true Tryd.f6.params.toList args.toList ds p := hA0
  rw [Tryd.params6] at hA hval
  obtain ⟨v0, vs0, d0, ds0, p0, q0, hargs, rfl, rfl, h0, r0⟩ := trodAll_cons hA
  obtain ⟨v1, vs1, d1, ds1, p1, q1, rfl, rfl, rfl, h1, r1⟩ := trodAll_cons r0
  obtain ⟨rfl, rfl, rfl⟩ := trodAll_nil r1
  obtain rfl : args = #[v0, v1] := by cases args; simp_all
  obtain ⟨rfl, rfl⟩ := trodVars_none hV
  have k0 := h0
  have lt0 : ∀ x ∈ p0, x.block < W.heap.size := by obtain ⟨m, hm⟩ := k0; exact DataW.trod_lt m _ _ _ hm
  obtain ⟨a0, cap0, z0, rfl, w0⟩ := recs_came (hval 0 22 v0 rfl rfl) h0
  obtain ⟨a1, rfl, rfl, rfl, w1⟩ := open_int Tryd.underlying3 (hval 1 3 v1 rfl rfl) h1
  clear hA0 hval0
  refine (walk a0 cap0 z0 a1 W (of_laid hL) w0 w1).mono fun e W' ⟨he, bel⟩ => ?_
  subst he
  exact ⟨_, rfl, _, _, _, [], _, [], hW', trodAll_mk1 (shut_bool Tryd.underlying4 _), (trodAll_cons_mk (Below.trod laidOut (by kernel_rfl) (of_decide_eq_true (by kernel_rfl)) k0 bel lt0) (trodAll_cons_mk (shut_int Tryd.underlying3 w1) trodAll_mk0)), rfl, bel.frame _, fun h => by cases h⟩

theorem over : Rows.indexFewRow.holds Tryd.pinned (OpenSpec.ofChange Rows.indexFewSpec) :=
  OpenClaim.holds_of_wide 6 Tryd.f6 rfl rfl rfl rfl rfl rfl rfl ⟨rfl, rfl, rfl, rfl, rfl⟩ rfl rfl rfl rfl rfl (by kernel_rfl) Tryd.func6 (by kernel_rfl)
    (of_decide_eq_true (by kernel_rfl)) (by unfold Func.isWrapper; first | (rw [if_pos (by decide +kernel)]; kernel_rfl) | (rw [if_neg (by decide +kernel)]; exact ⟨rfl, rfl⟩))
    (fun os started H enc _ => lifted os started H enc)

theorem proved : Rows.IndexFewCardSaid :=
  Claim7.holds_tied_plain_at .later [] [.data] true (true, "cd441d64ee8463f8884ecdcc991c73fc74c9d8fee24340197352aeb24f58c16e") false
    over (fun _ h => by cases h) (by kernel_rfl) (fun _ h => by cases h) indexFew_row_tie rfl ⟨rfl, rfl⟩ (by kernel_rfl) rfl
    (fun f fn hf hfn => by
      obtain rfl : f = 6 := Option.some.inj ((show Tryd.prog.funcNamed "cooperage/cooperagelaw9.IndexFew" = some 6 by kernel_rfl).symm.trans hf) |>.symm
      obtain rfl : fn = Tryd.f6 := (Option.some.inj (Tryd.func6.symm.trans hfn)).symm
      exact ⟨by kernel_rfl, fun j t ht => by
        rw [Tryd.params6] at ht
        have hm : t ∈ [22, 3] := by simpa using Array.mem_of_getElem? ht
        have hall : ([22, 3].all fun u => !Tryd.prog.wantsStandIn u) = true := by kernel_rfl
        exact (show Tryd.prog.wantsStandIn t = false by simpa using List.all_eq_true.1 hall t hm)⟩)
    (by kernel_rfl)
#print axioms proved
end Go.Proofs.YtffmfgbjlijpeaaDoor.indexFew
