/- Proved: for every list l of records, list of gaps, point, time, grace and choice, CleanLess returns true. -/
import Derived.Test.YtjblhfhfappmoaaRows
import Derived.WalkKit
import Derived.ProofKit
import Derived.OpenShut
import Derived.ShutString
import Derived.ChangeOld
import Derived.Below
import Derived.Test.YtjblhfhfappmoaaCame
import Derived.Test.YtjblhfhfappmoaaClnAlive
import Derived.Test.YtjblhfhfappmoaaCleanRise
import Derived.Test.YtjblhfhfappmoaaSegBig
import Derived.Test.YtjblhfhfappmoaaLessNum
import Derived.Test.YtjblhfhfappmoaaRKeep
namespace Go.Proofs.Ytjblhfhfappmoaa.cleanLess
open Go.ChangeShapes Go.WideShapes Go.ChangeAt Go.RowKit
open Go.ChangeMaps (open_string shut_string)
set_option linter.unusedVariables false

theorem own : ownKnob Try.prog.godebug = none := by kernel_rfl
theorem laidOut : laidOutB Try.prog = true := by kernel_rfl

def IsRow (k : IntKind) (w : World) (a : Option Addr) (len cap : Nat) (zs : List Int) : Prop :=
  (a = none ∧ len = 0 ∧ cap = 0 ∧ zs = []) ∨
  ∃ x, a = some x ∧ len ≤ cap ∧ cap ≤ maxLen ∧ zs.length = cap ∧ (∀ i, i < zs.length → w.cell? (x.add i) = some (.int k (zs.getD i 0))) ∧ ∀ n ∈ zs, (Lit.int k n).wf = true

set_option maxHeartbeats 12800000 in
set_option maxRecDepth 8000 in
theorem walk (a0 : Option Addr) (cap0 : Nat) (z0 : List Rec) (a1 : Option Addr) (len1 cap1 : Nat) (z1 : List Int) (a2 : Int) (a3 : Int) (a4 : Int) (a5 : Bool) (w : World) (w0 : RecsLie w a0 z0 cap0) (w1 : IsRow .i64 w a1 len1 cap1 z1) (w2 : (Lit.int .i64 a2).wf = true) (w3 : (Lit.int .i64 a3).wf = true) (w4 : (Lit.int .i64 a4).wf = true) :
    Calls Try.prog 5 #[.slice a0 z0.length cap0, .slice a1 len1 cap1, .int .i64 a2, .int .i64 a3, .int .i64 a4, .bool a5] w fun e w' => e = .returned (.bool true) ∧ Below w.heap.size w w' := by
  have HAL := Lib.hid (alive13_any w)
  obtain ⟨gs, rfl, hg1, hg2, hgl, _, _⟩ := row_came w1
  have b2 := bounds_i64 w2
  have b3 := bounds_i64 w3
  have b4 := bounds_i64 w4
  have HL := Lib.hid w0
  have HGL := Lib.hid hgl
  have hcl := w0.2.1
  have hcm := w0.2.2.1
  unfold maxLen at hcm
  have HG := Lib.hid (And.intro hg1 hg2)
  have hg3 := hg2
  unfold maxLen at hg3
  have HBD := Lib.hid (And.intro b2 (And.intro b3 b4))
  clear w0 w1 w2 w3 w4 b2 b3 b4 hg2 hgl
  go_enter Try.func5, Try.ntmps5
  go_wp2_with fail
  refine HAL.out.mono ?_
  rintro e w1 ⟨rfl, hb1⟩
  have HB1 := Lib.hid hb1
  have HBIG := Lib.hid (big_any w w1 a0 z0 cap0 HL.out hb1)
  clear HAL hb1
  go_wp2_with fail
  refine HBIG.out.mono ?_
  rintro e w2 ⟨rfl, r, rfl, hsm⟩
  clear HBIG
  cases r with
  | true =>
    clear hsm
    go_wp2_with fail
    go_ret
    exact ⟨rfl, HB1.out⟩
  | false =>
    have hs := hsm rfl
    have hz : z0.length ≤ 60 := hs.1
    clear hsm hs
    by_cases hgz : gs.length < z0.length
    · have q0 : decide (gs.length < z0.length) = true := decide_eq_true (hgz)
      go_wp2_with fail
      go_ret
      exact ⟨rfl, HB1.out⟩
    have q0 : decide (gs.length < z0.length) = false := decide_eq_false (hgz)
    by_cases h3a : a3 < -1125899906842624
    · have q1 : decide (a3 < -1125899906842624) = true := decide_eq_true (h3a)
      go_wp2_with fail
      go_ret
      exact ⟨rfl, HB1.out⟩
    have q1 : decide (a3 < -1125899906842624) = false := decide_eq_false (h3a)
    by_cases h3b : 1125899906842624 < a3
    · have q2 : decide (1125899906842624 < a3) = true := decide_eq_true (h3b)
      go_wp2_with fail
      go_ret
      exact ⟨rfl, HB1.out⟩
    have q2 : decide (1125899906842624 < a3) = false := decide_eq_false (h3b)
    by_cases h4a : a4 < 0
    · have q3 : decide (a4 < 0) = true := decide_eq_true (h4a)
      go_wp2_with fail
      go_ret
      exact ⟨rfl, HB1.out⟩
    have q3 : decide (a4 < 0) = false := decide_eq_false (h4a)
    by_cases h4b : 1125899906842624 < a4
    · have q4 : decide (1125899906842624 < a4) = true := decide_eq_true (h4b)
      go_wp2_with fail
      go_ret
      exact ⟨rfl, HB1.out⟩
    have q4 : decide (1125899906842624 < a4) = false := decide_eq_false (h4b)
    have hgle : z0.length ≤ gs.length := by omega
    have HNG : Hid ((-1125899906842624 ≤ a3 ∧ a3 ≤ 1125899906842624) ∧ (0 ≤ a4 ∧ a4 ≤ 1125899906842624)) := Lib.hid (by omega)
    have HR := Lib.hid (rise_any w2 z0 a0 cap0 (HL.out.below HB1.out (Nat.le_refl _)) gs a1 cap1 ((HGL.out.below HB1.out).more HB1.out.size) hg1 HG.out.2 hgle (by omega))
    have HRW := Lib.hid (rise_wf 0 z0 gs (by omega) (by omega) HL.out.2.2.2)
    have HRO := Lib.hid (rise_over 0 z0 gs).1
    have hrl := rise_length 0 z0 gs hgle
    have hrz : (riseL 0 z0 gs).length ≤ 60 := by omega
    clear hrl
    obtain ⟨R, hR⟩ : ∃ R, riseL 0 z0 gs = R := ⟨_, rfl⟩
    rw [hR] at HR HRW HRO hrz
    clear hR hgz hgle h3a h3b h4a h4b
    go_wp2_with fail
    refine HR.out.mono ?_
    rintro e w3 ⟨v3, rfl, ho3, hb3⟩
    obtain ⟨B, c, rfl, hl3, _⟩ := ho3.parts HRW.out
    have HB3 := Lib.hid (HB1.out.trans (hb3.mono HB1.out.size))
    have HL3 := Lib.hid hl3
    have HKW : Hid (∀ r ∈ keepL a2 a3 a4 a5 R, r.wf) := Lib.hid fun r hr => HRW.out r (keep_sub _ r hr)
    have HKL := Lib.hid (keep_length (point := a2) (now := a3) (grace := a4) (dead := a5) R)
    have HK := Lib.hid (vkeep13_any w3 R B c hl3 a2 a3 a4 a5 HBD.out.1 HBD.out.2.1 HBD.out.2.2 (by omega))
    have hc3 := hl3.2.1
    have hc4 := hl3.2.2.1
    unfold maxLen at hc4
    clear ho3 hb3 hl3 HR HB1
    go_wp2_with fail
    refine HK.out.mono ?_
    rintro e w5 ⟨v5, rfl, ho5, hb5⟩
    obtain ⟨B5, c5, rfl, hl5, _⟩ := ho5.parts HKW.out
    have HB5 := Lib.hid (HB3.out.trans (hb5.mono HB3.out.size))
    have HL5 := Lib.hid (HL3.out.below hb5 (Nat.le_refl _))
    have HLK := Lib.hid hl5
    have hc7 := hl5.2.1
    have hc8 := hl5.2.2.1
    unfold maxLen at hc8
    have HE : Hid ((keepL a2 a3 a4 a5 R).drop 0 = keepL a2 a3 a4 a5 (R.drop 0)) := Lib.hid rfl
    have hkl := HKL.out
    clear ho5 hb5 hl5 HK HB3 HL3 HKW HKL
    obtain ⟨K, hK⟩ : ∃ K, keepL a2 a3 a4 a5 R = K := ⟨_, rfl⟩
    rw [hK] at hc7 HE hkl HLK ⊢
    clear hK
    go_wp2_with fail
    go_loopw [17, 18] (fun av iv wr => ∃ (j i : Nat), av = .int .i64 j ∧ iv = .int .i64 i ∧ j ≤ K.length ∧ i ≤ R.length ∧ K.drop j = keepL a2 a3 a4 a5 (R.drop i) ∧ Below w5.heap.size w5 wr) (fun _ iv _ => R.length - (intOf iv).toNat)
    case atStart => exact ⟨0, 0, rfl, rfl, Nat.zero_le _, Nat.zero_le _, HE.out, Below.refl _ _⟩
    case round =>
      generalize wr = wo at *
      obtain ⟨j, i, rfl, rfl, hj, hi, hE, hbel⟩ := hrel
      have HB := Lib.hid hbel
      clear HE
      by_cases hlt : i < R.length
      · have HLT := Lib.hid hlt
        have p1 : decide (i < R.length) = true := decide_eq_true hlt
        have hbs := hbel.size
        obtain ⟨b, off, rfl, hbl, hat⟩ := HL5.out.more hlt
        obtain ⟨x0, x1, x2, x3, x4⟩ := hat.keep (w' := wo) fun q => hbel.cell hbl
        have HRW1 := Lib.hid (HRW.out _ (List.getElem_mem hlt))
        obtain ⟨G, hG⟩ : ∃ G, goneP a2 a3 a4 a5 (R[i]'hlt) (R.drop (i + 1)) = G := ⟨_, rfl⟩
        cases G with
        | false =>
          obtain ⟨hj2, hk, hd⟩ := less_stay hE hlt hG
          have p2 : decide (j < K.length) = true := decide_eq_true hj2
          obtain ⟨b2, o2, rfl, hbl2, hat2⟩ := HLK.out.more hj2
          rw [hk] at hat2
          obtain ⟨y0, y1, y2, y3, y4⟩ := hat2.keep (w' := wo) fun q => hbel.cell hbl2
          have HD := Lib.hid hd
          have HJ := Lib.hid hj2
          obtain ⟨r, hr⟩ : ∃ r, R[i]'hlt = r := ⟨_, rfl⟩
          rw [hr] at x0 x1 x2 x3 x4 y0 y1 y2 y3 y4
          obtain ⟨ro, rt, rk, rv, rd⟩ := r
          dsimp only at x0 x1 x2 x3 x4 y0 y1 y2 y3 y4
          have hq := fun W => rec_eql_same W ro rt rk rv rd
          clear hr hat hat2 hbel hE hG hbl hbl2 hk hd HRW1
          go_wp2_with fail
          go_quiet (fail)
          go_wp2
          go_roundw
          case rel => exact ⟨j + 1, i + 1, by go_num, by go_num, HJ.out, HLT.out, HD.out, below_more HB.out nq⟩
          case measure => simp [intOf]; omega
        | true =>
          obtain ⟨hd, hne⟩ := less_gone HRO.out hE hlt hG
          have HD := Lib.hid hd
          have HNE := Lib.hid hne
          clear hE hd hne
          obtain ⟨r, hr⟩ : ∃ r, R[i]'hlt = r := ⟨_, rfl⟩
          rw [hr] at x0 x1 x2 x3 x4 hG HNE HRW1
          obtain ⟨ro, rt, rk, rv, rd⟩ := r
          dsimp only at x0 x1 x2 x3 x4 HNE
          unfold goneP at hG
          dsimp only at hG
          rw [Bool.and_eq_true, decide_eq_true_eq] at hG
          have hro := hG.1
          have HW := Lib.hid hG.2
          have HBC := Lib.hid (And.intro hbl hbs)
          clear hr hat hG hbl
          by_cases hj2 : j < K.length
          · have p2 : decide (j < K.length) = true := decide_eq_true hj2
            obtain ⟨b2, o2, rfl, hbl2, hat2⟩ := HLK.out.more hj2
            obtain ⟨y0, y1, y2, y3, y4⟩ := hat2.keep (w' := wo) fun q => hbel.cell hbl2
            have hne := HNE.out hj2
            obtain ⟨u, hu⟩ : ∃ u, K[j]'hj2 = u := ⟨_, rfl⟩
            rw [hu] at y0 y1 y2 y3 y4 hne
            obtain ⟨uo, ut, uk, uv, ud⟩ := u
            dsimp only at y0 y1 y2 y3 y4 hne
            have hq := fun W => rec_eql_apart W uo ut uk uv ud ro rt rk rv rd hne
            clear hu hat2 hbl2 hbel HNE hne
            go_wp2_with fail
            go_quiet (fail)
            clear hq y0 y1 y2 y3 y4
            have HB2 := Lib.hid (below_more HB.out nq)
            have u0 : (wo.drewN nq).cell? ⟨b, off + i * 5, none⟩ = some (.int .i64 ro) := x0
            have u1 : (wo.drewN nq).cell? ⟨b, off + i * 5 + 1, none⟩ = some (.int .i64 rt) := x1
            have u2 : (wo.drewN nq).cell? ⟨b, off + i * 5 + 2, none⟩ = some (.string rk) := x2
            have u3 : (wo.drewN nq).cell? ⟨b, off + i * 5 + 3, none⟩ = some (.string rv) := x3
            have u4 : (wo.drewN nq).cell? ⟨b, off + i * 5 + 4, none⟩ = some (.bool rd) := x4
            have HBC2 := Lib.hid (And.intro HBC.out.1 HB2.out.size)
            clear x0 x1 x2 x3 x4 HBC hbs HB
            generalize wo.drewN nq = W0 at *
            have hb0 : Below W0.heap.size W0 (W0.alloc (.cells #[.int .i64 ro, .int .i64 rt, .string rk, .string rv, .bool rd] 32)) := (Below.refl _ _).alloc (Nat.le_refl _) _
            have hw0 : (W0.alloc (.cells #[.int .i64 ro, .int .i64 rt, .string rk, .string rv, .bool rd] 32)).heap[W0.heap.size]? = some (.cells #[.int .i64 ro, .int .i64 rt, .string rk, .string rv, .bool rd] 32) := heap_alloc_new W0 _
            have HW0 := Lib.hid (And.intro hb0 hw0)
            clear hb0 hw0
            by_cases t1 : rt < -1125899906842624
            · have q5 : decide (rt < -1125899906842624) = true := decide_eq_true t1
              clear HW HD
              go_wp2_with fail
              go_ret
              exact ⟨rfl, HB5.out.trans ((HB2.out.trans (HW0.out.1.mono HBC2.out.2)).mono HB5.out.size)⟩
            have q5 : decide (rt < -1125899906842624) = false := decide_eq_false t1
            by_cases t2 : 1125899906842624 < rt
            · have q6 : decide (1125899906842624 < rt) = true := decide_eq_true t2
              clear HW HD
              go_wp2_with fail
              go_ret
              exact ⟨rfl, HB5.out.trans ((HB2.out.trans (HW0.out.1.mono HBC2.out.2)).mono HB5.out.size)⟩
            have q6 : decide (1125899906842624 < rt) = false := decide_eq_false t2
            have e2 : IntKind.i64.wrap (a3 - rt) = a3 - rt := by have := HNG.out; exact IntWalk.i64_in _ (by omega)
            cases rd with
            | false =>
              have HY : Hid ((false || overP a2 rk (R.drop (i + 1))) = true) := Lib.hid (by have := HW.out; rw [Bool.false_and, Bool.false_and, Bool.or_false] at this; exact this)
              clear HW
              go_wp2_with fail
              go_loopw [20, 21] (fun wv kv wx => ∃ (bb : Bool) (k : Nat), wv = .bool bb ∧ kv = .int .i64 k ∧ i + 1 ≤ k ∧ k ≤ R.length ∧ (bb || overP a2 rk (R.drop k)) = true ∧ Below W0.heap.size W0 wx ∧ wx.heap[W0.heap.size]? = some (.cells #[.int .i64 ro, .int .i64 rt, .string rk, .string rv, .bool false] 32)) (fun _ kv _ => R.length - (intOf kv).toNat)
              case atStart => exact ⟨_, i + 1, rfl, by go_num, Nat.le_refl _, HLT.out, HY.out, HW0.out.1, HW0.out.2⟩
              case round =>
                obtain ⟨bb, k, rfl, rfl, hk1, hk2, hov, hbx, hox⟩ := hrel
                obtain ⟨c0, c1, c2, c3, c4⟩ := rec_load (r := ⟨ro, rt, rk, rv, false⟩) hox
                dsimp only at c0 c1 c2 c3 c4
                have HOV := Lib.hid hov
                have HBX := Lib.hid (And.intro hbx hox)
                clear hov hox hbx HY
                have HR : ∀ nq, Below W0.heap.size W0 (wr.drewN nq) ∧ (wr.drewN nq).heap[W0.heap.size]? = some (.cells #[.int .i64 ro, .int .i64 rt, .string rk, .string rv, .bool false] 32) := fun nq => ⟨below_more HBX.out.1 nq, HBX.out.2⟩
                have HR := Lib.hid HR
                by_cases hk : k < R.length
                · have e1 : decide (k < R.length) = true := decide_eq_true hk
                  cases bb with
                  | true =>
                    go_wp2_with fail
                    go_quiet (fail)
                    go_wp2
                    go_roundw
                    case rel => exact ⟨true, k + 1, rfl, by go_num, by omega, by omega, rfl, (HR.out nq).1, (HR.out nq).2⟩
                    case measure => simp [intOf]; omega
                  | false =>
                    obtain ⟨b3, o3, he3, hbl3, hat3⟩ := HL5.out.more hk
                    obtain ⟨rfl, rfl⟩ : b = b3 ∧ off = o3 := by injection he3 with he3; injection he3 with t1 t2; exact ⟨t1, t2⟩
                    obtain ⟨d0, d1, d2, d3, d4⟩ := hat3.keep (w' := wr) fun q => (HB2.out.trans (HBX.out.1.mono HBC2.out.2)).cell hbl3
                    have HS := Lib.hid (over_drop (point := a2) (k := rk) hk)
                    obtain ⟨u, hu⟩ : ∃ u, R[k]'hk = u := ⟨_, rfl⟩
                    rw [hu] at d0 d1 d2 d3 d4 HS
                    obtain ⟨uo, ut, uk, uv, ud⟩ := u
                    dsimp only at d0 d1 d2 d3 d4 HS
                    clear hu hat3 hbl3 he3
                    by_cases hkk : uk = rk
                    · subst hkk
                      have s1 : (uk.toList == uk.toList) = true := by simp
                      by_cases huo : uo < a2
                      · have s2 : decide (uo < a2) = true := decide_eq_true huo
                        clear HOV HS
                        go_wp2_with fail
                        go_quiet (fail)
                        go_wp2
                        go_roundw
                        case rel => exact ⟨true, k + 1, rfl, by go_num, by omega, by omega, rfl, (HR.out nq).1, (HR.out nq).2⟩
                        case measure => simp [intOf]; omega
                      · have s2 : decide (uo < a2) = false := decide_eq_false huo
                        have HF : Hid ((false || overP a2 uk (R.drop (k + 1))) = true) := Lib.hid (by have := HOV.out; rw [HS.out, s2, Bool.and_false] at this; exact this)
                        clear HOV HS
                        go_wp2_with fail
                        go_quiet (fail)
                        go_wp2
                        go_roundw
                        case rel => exact ⟨false, k + 1, rfl, by go_num, by omega, by omega, HF.out, (HR.out nq).1, (HR.out nq).2⟩
                        case measure => simp [intOf]; omega
                    · have s1 : (uk.toList == rk.toList) = false := text_ne hkk
                      have HF : Hid ((false || overP a2 rk (R.drop (k + 1))) = true) := Lib.hid (by have := HOV.out; rw [HS.out, decide_eq_false hkk, Bool.false_and] at this; exact this)
                      clear HOV HS
                      go_wp2_with fail
                      go_quiet (fail)
                      go_wp2
                      go_roundw
                      case rel => exact ⟨false, k + 1, rfl, by go_num, by omega, by omega, HF.out, (HR.out nq).1, (HR.out nq).2⟩
                      case measure => simp [intOf]; omega
                · have e1 : decide (k < R.length) = false := decide_eq_false hk
                  have hkr : k = R.length := by omega
                  obtain rfl : bb = true := by have := HOV.out; rw [hkr, List.drop_length] at this; simpa [overP] using this
                  have s3 : decide (a2 ≤ ro) = false := decide_eq_false (by omega)
                  clear HOV hkr
                  go_wp2_with fail
                  go_roundw
                  case rel => exact ⟨j, i + 1, rfl, by go_num, hj, HLT.out, HD.out, HB2.out.trans (HBX.out.1.mono HBC2.out.2)⟩
                  case measure => simp [intOf]; omega
            | true =>
              cases a5 with
              | false =>
                have HY : Hid ((false || overP a2 rk (R.drop (i + 1))) = true) := Lib.hid (by have := HW.out; rw [Bool.true_and, Bool.false_and, Bool.or_false] at this; exact this)
                clear HW
                go_wp2_with fail
                go_loopw [20, 21] (fun wv kv wx => ∃ (bb : Bool) (k : Nat), wv = .bool bb ∧ kv = .int .i64 k ∧ i + 1 ≤ k ∧ k ≤ R.length ∧ (bb || overP a2 rk (R.drop k)) = true ∧ Below W0.heap.size W0 wx ∧ wx.heap[W0.heap.size]? = some (.cells #[.int .i64 ro, .int .i64 rt, .string rk, .string rv, .bool true] 32)) (fun _ kv _ => R.length - (intOf kv).toNat)
                case atStart => exact ⟨_, i + 1, rfl, by go_num, Nat.le_refl _, HLT.out, HY.out, HW0.out.1, HW0.out.2⟩
                case round =>
                  obtain ⟨bb, k, rfl, rfl, hk1, hk2, hov, hbx, hox⟩ := hrel
                  obtain ⟨c0, c1, c2, c3, c4⟩ := rec_load (r := ⟨ro, rt, rk, rv, true⟩) hox
                  dsimp only at c0 c1 c2 c3 c4
                  have HOV := Lib.hid hov
                  have HBX := Lib.hid (And.intro hbx hox)
                  clear hov hox hbx HY
                  have HR : ∀ nq, Below W0.heap.size W0 (wr.drewN nq) ∧ (wr.drewN nq).heap[W0.heap.size]? = some (.cells #[.int .i64 ro, .int .i64 rt, .string rk, .string rv, .bool true] 32) := fun nq => ⟨below_more HBX.out.1 nq, HBX.out.2⟩
                  have HR := Lib.hid HR
                  by_cases hk : k < R.length
                  · have e1 : decide (k < R.length) = true := decide_eq_true hk
                    cases bb with
                    | true =>
                      go_wp2_with fail
                      go_quiet (fail)
                      go_wp2
                      go_roundw
                      case rel => exact ⟨true, k + 1, rfl, by go_num, by omega, by omega, rfl, (HR.out nq).1, (HR.out nq).2⟩
                      case measure => simp [intOf]; omega
                    | false =>
                      obtain ⟨b3, o3, he3, hbl3, hat3⟩ := HL5.out.more hk
                      obtain ⟨rfl, rfl⟩ : b = b3 ∧ off = o3 := by injection he3 with he3; injection he3 with t1 t2; exact ⟨t1, t2⟩
                      obtain ⟨d0, d1, d2, d3, d4⟩ := hat3.keep (w' := wr) fun q => (HB2.out.trans (HBX.out.1.mono HBC2.out.2)).cell hbl3
                      have HS := Lib.hid (over_drop (point := a2) (k := rk) hk)
                      obtain ⟨u, hu⟩ : ∃ u, R[k]'hk = u := ⟨_, rfl⟩
                      rw [hu] at d0 d1 d2 d3 d4 HS
                      obtain ⟨uo, ut, uk, uv, ud⟩ := u
                      dsimp only at d0 d1 d2 d3 d4 HS
                      clear hu hat3 hbl3 he3
                      by_cases hkk : uk = rk
                      · subst hkk
                        have s1 : (uk.toList == uk.toList) = true := by simp
                        by_cases huo : uo < a2
                        · have s2 : decide (uo < a2) = true := decide_eq_true huo
                          clear HOV HS
                          go_wp2_with fail
                          go_quiet (fail)
                          go_wp2
                          go_roundw
                          case rel => exact ⟨true, k + 1, rfl, by go_num, by omega, by omega, rfl, (HR.out nq).1, (HR.out nq).2⟩
                          case measure => simp [intOf]; omega
                        · have s2 : decide (uo < a2) = false := decide_eq_false huo
                          have HF : Hid ((false || overP a2 uk (R.drop (k + 1))) = true) := Lib.hid (by have := HOV.out; rw [HS.out, s2, Bool.and_false] at this; exact this)
                          clear HOV HS
                          go_wp2_with fail
                          go_quiet (fail)
                          go_wp2
                          go_roundw
                          case rel => exact ⟨false, k + 1, rfl, by go_num, by omega, by omega, HF.out, (HR.out nq).1, (HR.out nq).2⟩
                          case measure => simp [intOf]; omega
                      · have s1 : (uk.toList == rk.toList) = false := text_ne hkk
                        have HF : Hid ((false || overP a2 rk (R.drop (k + 1))) = true) := Lib.hid (by have := HOV.out; rw [HS.out, decide_eq_false hkk, Bool.false_and] at this; exact this)
                        clear HOV HS
                        go_wp2_with fail
                        go_quiet (fail)
                        go_wp2
                        go_roundw
                        case rel => exact ⟨false, k + 1, rfl, by go_num, by omega, by omega, HF.out, (HR.out nq).1, (HR.out nq).2⟩
                        case measure => simp [intOf]; omega
                  · have e1 : decide (k < R.length) = false := decide_eq_false hk
                    have hkr : k = R.length := by omega
                    obtain rfl : bb = true := by have := HOV.out; rw [hkr, List.drop_length] at this; simpa [overP] using this
                    have s3 : decide (a2 ≤ ro) = false := decide_eq_false (by omega)
                    clear HOV hkr
                    go_wp2_with fail
                    go_roundw
                    case rel => exact ⟨j, i + 1, rfl, by go_num, hj, HLT.out, HD.out, HB2.out.trans (HBX.out.1.mono HBC2.out.2)⟩
                    case measure => simp [intOf]; omega
              | true =>
                have HY : Hid ((decide (a4 < a3 - rt) || overP a2 rk (R.drop (i + 1))) = true) := Lib.hid (by have := HW.out; rw [Bool.true_and, Bool.true_and, Bool.or_comm] at this; exact this)
                clear HW
                go_wp2_with fail
                go_loopw [20, 21] (fun wv kv wx => ∃ (bb : Bool) (k : Nat), wv = .bool bb ∧ kv = .int .i64 k ∧ i + 1 ≤ k ∧ k ≤ R.length ∧ (bb || overP a2 rk (R.drop k)) = true ∧ Below W0.heap.size W0 wx ∧ wx.heap[W0.heap.size]? = some (.cells #[.int .i64 ro, .int .i64 rt, .string rk, .string rv, .bool true] 32)) (fun _ kv _ => R.length - (intOf kv).toNat)
                case atStart => exact ⟨_, i + 1, rfl, by go_num, Nat.le_refl _, HLT.out, HY.out, HW0.out.1, HW0.out.2⟩
                case round =>
                  obtain ⟨bb, k, rfl, rfl, hk1, hk2, hov, hbx, hox⟩ := hrel
                  obtain ⟨c0, c1, c2, c3, c4⟩ := rec_load (r := ⟨ro, rt, rk, rv, true⟩) hox
                  dsimp only at c0 c1 c2 c3 c4
                  have HOV := Lib.hid hov
                  have HBX := Lib.hid (And.intro hbx hox)
                  clear hov hox hbx HY
                  have HR : ∀ nq, Below W0.heap.size W0 (wr.drewN nq) ∧ (wr.drewN nq).heap[W0.heap.size]? = some (.cells #[.int .i64 ro, .int .i64 rt, .string rk, .string rv, .bool true] 32) := fun nq => ⟨below_more HBX.out.1 nq, HBX.out.2⟩
                  have HR := Lib.hid HR
                  by_cases hk : k < R.length
                  · have e1 : decide (k < R.length) = true := decide_eq_true hk
                    cases bb with
                    | true =>
                      go_wp2_with fail
                      go_quiet (fail)
                      go_wp2
                      go_roundw
                      case rel => exact ⟨true, k + 1, rfl, by go_num, by omega, by omega, rfl, (HR.out nq).1, (HR.out nq).2⟩
                      case measure => simp [intOf]; omega
                    | false =>
                      obtain ⟨b3, o3, he3, hbl3, hat3⟩ := HL5.out.more hk
                      obtain ⟨rfl, rfl⟩ : b = b3 ∧ off = o3 := by injection he3 with he3; injection he3 with t1 t2; exact ⟨t1, t2⟩
                      obtain ⟨d0, d1, d2, d3, d4⟩ := hat3.keep (w' := wr) fun q => (HB2.out.trans (HBX.out.1.mono HBC2.out.2)).cell hbl3
                      have HS := Lib.hid (over_drop (point := a2) (k := rk) hk)
                      obtain ⟨u, hu⟩ : ∃ u, R[k]'hk = u := ⟨_, rfl⟩
                      rw [hu] at d0 d1 d2 d3 d4 HS
                      obtain ⟨uo, ut, uk, uv, ud⟩ := u
                      dsimp only at d0 d1 d2 d3 d4 HS
                      clear hu hat3 hbl3 he3
                      by_cases hkk : uk = rk
                      · subst hkk
                        have s1 : (uk.toList == uk.toList) = true := by simp
                        by_cases huo : uo < a2
                        · have s2 : decide (uo < a2) = true := decide_eq_true huo
                          clear HOV HS
                          go_wp2_with fail
                          go_quiet (fail)
                          go_wp2
                          go_roundw
                          case rel => exact ⟨true, k + 1, rfl, by go_num, by omega, by omega, rfl, (HR.out nq).1, (HR.out nq).2⟩
                          case measure => simp [intOf]; omega
                        · have s2 : decide (uo < a2) = false := decide_eq_false huo
                          have HF : Hid ((false || overP a2 uk (R.drop (k + 1))) = true) := Lib.hid (by have := HOV.out; rw [HS.out, s2, Bool.and_false] at this; exact this)
                          clear HOV HS
                          go_wp2_with fail
                          go_quiet (fail)
                          go_wp2
                          go_roundw
                          case rel => exact ⟨false, k + 1, rfl, by go_num, by omega, by omega, HF.out, (HR.out nq).1, (HR.out nq).2⟩
                          case measure => simp [intOf]; omega
                      · have s1 : (uk.toList == rk.toList) = false := text_ne hkk
                        have HF : Hid ((false || overP a2 rk (R.drop (k + 1))) = true) := Lib.hid (by have := HOV.out; rw [HS.out, decide_eq_false hkk, Bool.false_and] at this; exact this)
                        clear HOV HS
                        go_wp2_with fail
                        go_quiet (fail)
                        go_wp2
                        go_roundw
                        case rel => exact ⟨false, k + 1, rfl, by go_num, by omega, by omega, HF.out, (HR.out nq).1, (HR.out nq).2⟩
                        case measure => simp [intOf]; omega
                  · have e1 : decide (k < R.length) = false := decide_eq_false hk
                    have hkr : k = R.length := by omega
                    obtain rfl : bb = true := by have := HOV.out; rw [hkr, List.drop_length] at this; simpa [overP] using this
                    have s3 : decide (a2 ≤ ro) = false := decide_eq_false (by omega)
                    clear HOV hkr
                    go_wp2_with fail
                    go_roundw
                    case rel => exact ⟨j, i + 1, rfl, by go_num, hj, HLT.out, HD.out, HB2.out.trans (HBX.out.1.mono HBC2.out.2)⟩
                    case measure => simp [intOf]; omega
          · have p2 : decide (j < K.length) = false := decide_eq_false hj2
            clear hbel HNE
            go_wp2_with fail
            go_quiet (fail)
            have HB2 := Lib.hid (below_more HB.out nq)
            have u0 : (wo.drewN nq).cell? ⟨b, off + i * 5, none⟩ = some (.int .i64 ro) := x0
            have u1 : (wo.drewN nq).cell? ⟨b, off + i * 5 + 1, none⟩ = some (.int .i64 rt) := x1
            have u2 : (wo.drewN nq).cell? ⟨b, off + i * 5 + 2, none⟩ = some (.string rk) := x2
            have u3 : (wo.drewN nq).cell? ⟨b, off + i * 5 + 3, none⟩ = some (.string rv) := x3
            have u4 : (wo.drewN nq).cell? ⟨b, off + i * 5 + 4, none⟩ = some (.bool rd) := x4
            have HBC2 := Lib.hid (And.intro HBC.out.1 HB2.out.size)
            clear x0 x1 x2 x3 x4 HBC hbs HB
            generalize wo.drewN nq = W0 at *
            have hb0 : Below W0.heap.size W0 (W0.alloc (.cells #[.int .i64 ro, .int .i64 rt, .string rk, .string rv, .bool rd] 32)) := (Below.refl _ _).alloc (Nat.le_refl _) _
            have hw0 : (W0.alloc (.cells #[.int .i64 ro, .int .i64 rt, .string rk, .string rv, .bool rd] 32)).heap[W0.heap.size]? = some (.cells #[.int .i64 ro, .int .i64 rt, .string rk, .string rv, .bool rd] 32) := heap_alloc_new W0 _
            have HW0 := Lib.hid (And.intro hb0 hw0)
            clear hb0 hw0
            by_cases t1 : rt < -1125899906842624
            · have q5 : decide (rt < -1125899906842624) = true := decide_eq_true t1
              clear HW HD
              go_wp2_with fail
              go_ret
              exact ⟨rfl, HB5.out.trans ((HB2.out.trans (HW0.out.1.mono HBC2.out.2)).mono HB5.out.size)⟩
            have q5 : decide (rt < -1125899906842624) = false := decide_eq_false t1
            by_cases t2 : 1125899906842624 < rt
            · have q6 : decide (1125899906842624 < rt) = true := decide_eq_true t2
              clear HW HD
              go_wp2_with fail
              go_ret
              exact ⟨rfl, HB5.out.trans ((HB2.out.trans (HW0.out.1.mono HBC2.out.2)).mono HB5.out.size)⟩
            have q6 : decide (1125899906842624 < rt) = false := decide_eq_false t2
            have e2 : IntKind.i64.wrap (a3 - rt) = a3 - rt := by have := HNG.out; exact IntWalk.i64_in _ (by omega)
            cases rd with
            | false =>
              have HY : Hid ((false || overP a2 rk (R.drop (i + 1))) = true) := Lib.hid (by have := HW.out; rw [Bool.false_and, Bool.false_and, Bool.or_false] at this; exact this)
              clear HW
              go_wp2_with fail
              go_loopw [20, 21] (fun wv kv wx => ∃ (bb : Bool) (k : Nat), wv = .bool bb ∧ kv = .int .i64 k ∧ i + 1 ≤ k ∧ k ≤ R.length ∧ (bb || overP a2 rk (R.drop k)) = true ∧ Below W0.heap.size W0 wx ∧ wx.heap[W0.heap.size]? = some (.cells #[.int .i64 ro, .int .i64 rt, .string rk, .string rv, .bool false] 32)) (fun _ kv _ => R.length - (intOf kv).toNat)
              case atStart => exact ⟨_, i + 1, rfl, by go_num, Nat.le_refl _, HLT.out, HY.out, HW0.out.1, HW0.out.2⟩
              case round =>
                obtain ⟨bb, k, rfl, rfl, hk1, hk2, hov, hbx, hox⟩ := hrel
                obtain ⟨c0, c1, c2, c3, c4⟩ := rec_load (r := ⟨ro, rt, rk, rv, false⟩) hox
                dsimp only at c0 c1 c2 c3 c4
                have HOV := Lib.hid hov
                have HBX := Lib.hid (And.intro hbx hox)
                clear hov hox hbx HY
                have HR : ∀ nq, Below W0.heap.size W0 (wr.drewN nq) ∧ (wr.drewN nq).heap[W0.heap.size]? = some (.cells #[.int .i64 ro, .int .i64 rt, .string rk, .string rv, .bool false] 32) := fun nq => ⟨below_more HBX.out.1 nq, HBX.out.2⟩
                have HR := Lib.hid HR
                by_cases hk : k < R.length
                · have e1 : decide (k < R.length) = true := decide_eq_true hk
                  cases bb with
                  | true =>
                    go_wp2_with fail
                    go_quiet (fail)
                    go_wp2
                    go_roundw
                    case rel => exact ⟨true, k + 1, rfl, by go_num, by omega, by omega, rfl, (HR.out nq).1, (HR.out nq).2⟩
                    case measure => simp [intOf]; omega
                  | false =>
                    obtain ⟨b3, o3, he3, hbl3, hat3⟩ := HL5.out.more hk
                    obtain ⟨rfl, rfl⟩ : b = b3 ∧ off = o3 := by injection he3 with he3; injection he3 with t1 t2; exact ⟨t1, t2⟩
                    obtain ⟨d0, d1, d2, d3, d4⟩ := hat3.keep (w' := wr) fun q => (HB2.out.trans (HBX.out.1.mono HBC2.out.2)).cell hbl3
                    have HS := Lib.hid (over_drop (point := a2) (k := rk) hk)
                    obtain ⟨u, hu⟩ : ∃ u, R[k]'hk = u := ⟨_, rfl⟩
                    rw [hu] at d0 d1 d2 d3 d4 HS
                    obtain ⟨uo, ut, uk, uv, ud⟩ := u
                    dsimp only at d0 d1 d2 d3 d4 HS
                    clear hu hat3 hbl3 he3
                    by_cases hkk : uk = rk
                    · subst hkk
                      have s1 : (uk.toList == uk.toList) = true := by simp
                      by_cases huo : uo < a2
                      · have s2 : decide (uo < a2) = true := decide_eq_true huo
                        clear HOV HS
                        go_wp2_with fail
                        go_quiet (fail)
                        go_wp2
                        go_roundw
                        case rel => exact ⟨true, k + 1, rfl, by go_num, by omega, by omega, rfl, (HR.out nq).1, (HR.out nq).2⟩
                        case measure => simp [intOf]; omega
                      · have s2 : decide (uo < a2) = false := decide_eq_false huo
                        have HF : Hid ((false || overP a2 uk (R.drop (k + 1))) = true) := Lib.hid (by have := HOV.out; rw [HS.out, s2, Bool.and_false] at this; exact this)
                        clear HOV HS
                        go_wp2_with fail
                        go_quiet (fail)
                        go_wp2
                        go_roundw
                        case rel => exact ⟨false, k + 1, rfl, by go_num, by omega, by omega, HF.out, (HR.out nq).1, (HR.out nq).2⟩
                        case measure => simp [intOf]; omega
                    · have s1 : (uk.toList == rk.toList) = false := text_ne hkk
                      have HF : Hid ((false || overP a2 rk (R.drop (k + 1))) = true) := Lib.hid (by have := HOV.out; rw [HS.out, decide_eq_false hkk, Bool.false_and] at this; exact this)
                      clear HOV HS
                      go_wp2_with fail
                      go_quiet (fail)
                      go_wp2
                      go_roundw
                      case rel => exact ⟨false, k + 1, rfl, by go_num, by omega, by omega, HF.out, (HR.out nq).1, (HR.out nq).2⟩
                      case measure => simp [intOf]; omega
                · have e1 : decide (k < R.length) = false := decide_eq_false hk
                  have hkr : k = R.length := by omega
                  obtain rfl : bb = true := by have := HOV.out; rw [hkr, List.drop_length] at this; simpa [overP] using this
                  have s3 : decide (a2 ≤ ro) = false := decide_eq_false (by omega)
                  clear HOV hkr
                  go_wp2_with fail
                  go_roundw
                  case rel => exact ⟨j, i + 1, rfl, by go_num, hj, HLT.out, HD.out, HB2.out.trans (HBX.out.1.mono HBC2.out.2)⟩
                  case measure => simp [intOf]; omega
            | true =>
              cases a5 with
              | false =>
                have HY : Hid ((false || overP a2 rk (R.drop (i + 1))) = true) := Lib.hid (by have := HW.out; rw [Bool.true_and, Bool.false_and, Bool.or_false] at this; exact this)
                clear HW
                go_wp2_with fail
                go_loopw [20, 21] (fun wv kv wx => ∃ (bb : Bool) (k : Nat), wv = .bool bb ∧ kv = .int .i64 k ∧ i + 1 ≤ k ∧ k ≤ R.length ∧ (bb || overP a2 rk (R.drop k)) = true ∧ Below W0.heap.size W0 wx ∧ wx.heap[W0.heap.size]? = some (.cells #[.int .i64 ro, .int .i64 rt, .string rk, .string rv, .bool true] 32)) (fun _ kv _ => R.length - (intOf kv).toNat)
                case atStart => exact ⟨_, i + 1, rfl, by go_num, Nat.le_refl _, HLT.out, HY.out, HW0.out.1, HW0.out.2⟩
                case round =>
                  obtain ⟨bb, k, rfl, rfl, hk1, hk2, hov, hbx, hox⟩ := hrel
                  obtain ⟨c0, c1, c2, c3, c4⟩ := rec_load (r := ⟨ro, rt, rk, rv, true⟩) hox
                  dsimp only at c0 c1 c2 c3 c4
                  have HOV := Lib.hid hov
                  have HBX := Lib.hid (And.intro hbx hox)
                  clear hov hox hbx HY
                  have HR : ∀ nq, Below W0.heap.size W0 (wr.drewN nq) ∧ (wr.drewN nq).heap[W0.heap.size]? = some (.cells #[.int .i64 ro, .int .i64 rt, .string rk, .string rv, .bool true] 32) := fun nq => ⟨below_more HBX.out.1 nq, HBX.out.2⟩
                  have HR := Lib.hid HR
                  by_cases hk : k < R.length
                  · have e1 : decide (k < R.length) = true := decide_eq_true hk
                    cases bb with
                    | true =>
                      go_wp2_with fail
                      go_quiet (fail)
                      go_wp2
                      go_roundw
                      case rel => exact ⟨true, k + 1, rfl, by go_num, by omega, by omega, rfl, (HR.out nq).1, (HR.out nq).2⟩
                      case measure => simp [intOf]; omega
                    | false =>
                      obtain ⟨b3, o3, he3, hbl3, hat3⟩ := HL5.out.more hk
                      obtain ⟨rfl, rfl⟩ : b = b3 ∧ off = o3 := by injection he3 with he3; injection he3 with t1 t2; exact ⟨t1, t2⟩
                      obtain ⟨d0, d1, d2, d3, d4⟩ := hat3.keep (w' := wr) fun q => (HB2.out.trans (HBX.out.1.mono HBC2.out.2)).cell hbl3
                      have HS := Lib.hid (over_drop (point := a2) (k := rk) hk)
                      obtain ⟨u, hu⟩ : ∃ u, R[k]'hk = u := ⟨_, rfl⟩
                      rw [hu] at d0 d1 d2 d3 d4 HS
                      obtain ⟨uo, ut, uk, uv, ud⟩ := u
                      dsimp only at d0 d1 d2 d3 d4 HS
                      clear hu hat3 hbl3 he3
                      by_cases hkk : uk = rk
                      · subst hkk
                        have s1 : (uk.toList == uk.toList) = true := by simp
                        by_cases huo : uo < a2
                        · have s2 : decide (uo < a2) = true := decide_eq_true huo
                          clear HOV HS
                          go_wp2_with fail
                          go_quiet (fail)
                          go_wp2
                          go_roundw
                          case rel => exact ⟨true, k + 1, rfl, by go_num, by omega, by omega, rfl, (HR.out nq).1, (HR.out nq).2⟩
                          case measure => simp [intOf]; omega
                        · have s2 : decide (uo < a2) = false := decide_eq_false huo
                          have HF : Hid ((false || overP a2 uk (R.drop (k + 1))) = true) := Lib.hid (by have := HOV.out; rw [HS.out, s2, Bool.and_false] at this; exact this)
                          clear HOV HS
                          go_wp2_with fail
                          go_quiet (fail)
                          go_wp2
                          go_roundw
                          case rel => exact ⟨false, k + 1, rfl, by go_num, by omega, by omega, HF.out, (HR.out nq).1, (HR.out nq).2⟩
                          case measure => simp [intOf]; omega
                      · have s1 : (uk.toList == rk.toList) = false := text_ne hkk
                        have HF : Hid ((false || overP a2 rk (R.drop (k + 1))) = true) := Lib.hid (by have := HOV.out; rw [HS.out, decide_eq_false hkk, Bool.false_and] at this; exact this)
                        clear HOV HS
                        go_wp2_with fail
                        go_quiet (fail)
                        go_wp2
                        go_roundw
                        case rel => exact ⟨false, k + 1, rfl, by go_num, by omega, by omega, HF.out, (HR.out nq).1, (HR.out nq).2⟩
                        case measure => simp [intOf]; omega
                  · have e1 : decide (k < R.length) = false := decide_eq_false hk
                    have hkr : k = R.length := by omega
                    obtain rfl : bb = true := by have := HOV.out; rw [hkr, List.drop_length] at this; simpa [overP] using this
                    have s3 : decide (a2 ≤ ro) = false := decide_eq_false (by omega)
                    clear HOV hkr
                    go_wp2_with fail
                    go_roundw
                    case rel => exact ⟨j, i + 1, rfl, by go_num, hj, HLT.out, HD.out, HB2.out.trans (HBX.out.1.mono HBC2.out.2)⟩
                    case measure => simp [intOf]; omega
              | true =>
                have HY : Hid ((decide (a4 < a3 - rt) || overP a2 rk (R.drop (i + 1))) = true) := Lib.hid (by have := HW.out; rw [Bool.true_and, Bool.true_and, Bool.or_comm] at this; exact this)
                clear HW
                go_wp2_with fail
                go_loopw [20, 21] (fun wv kv wx => ∃ (bb : Bool) (k : Nat), wv = .bool bb ∧ kv = .int .i64 k ∧ i + 1 ≤ k ∧ k ≤ R.length ∧ (bb || overP a2 rk (R.drop k)) = true ∧ Below W0.heap.size W0 wx ∧ wx.heap[W0.heap.size]? = some (.cells #[.int .i64 ro, .int .i64 rt, .string rk, .string rv, .bool true] 32)) (fun _ kv _ => R.length - (intOf kv).toNat)
                case atStart => exact ⟨_, i + 1, rfl, by go_num, Nat.le_refl _, HLT.out, HY.out, HW0.out.1, HW0.out.2⟩
                case round =>
                  obtain ⟨bb, k, rfl, rfl, hk1, hk2, hov, hbx, hox⟩ := hrel
                  obtain ⟨c0, c1, c2, c3, c4⟩ := rec_load (r := ⟨ro, rt, rk, rv, true⟩) hox
                  dsimp only at c0 c1 c2 c3 c4
                  have HOV := Lib.hid hov
                  have HBX := Lib.hid (And.intro hbx hox)
                  clear hov hox hbx HY
                  have HR : ∀ nq, Below W0.heap.size W0 (wr.drewN nq) ∧ (wr.drewN nq).heap[W0.heap.size]? = some (.cells #[.int .i64 ro, .int .i64 rt, .string rk, .string rv, .bool true] 32) := fun nq => ⟨below_more HBX.out.1 nq, HBX.out.2⟩
                  have HR := Lib.hid HR
                  by_cases hk : k < R.length
                  · have e1 : decide (k < R.length) = true := decide_eq_true hk
                    cases bb with
                    | true =>
                      go_wp2_with fail
                      go_quiet (fail)
                      go_wp2
                      go_roundw
                      case rel => exact ⟨true, k + 1, rfl, by go_num, by omega, by omega, rfl, (HR.out nq).1, (HR.out nq).2⟩
                      case measure => simp [intOf]; omega
                    | false =>
                      obtain ⟨b3, o3, he3, hbl3, hat3⟩ := HL5.out.more hk
                      obtain ⟨rfl, rfl⟩ : b = b3 ∧ off = o3 := by injection he3 with he3; injection he3 with t1 t2; exact ⟨t1, t2⟩
                      obtain ⟨d0, d1, d2, d3, d4⟩ := hat3.keep (w' := wr) fun q => (HB2.out.trans (HBX.out.1.mono HBC2.out.2)).cell hbl3
                      have HS := Lib.hid (over_drop (point := a2) (k := rk) hk)
                      obtain ⟨u, hu⟩ : ∃ u, R[k]'hk = u := ⟨_, rfl⟩
                      rw [hu] at d0 d1 d2 d3 d4 HS
                      obtain ⟨uo, ut, uk, uv, ud⟩ := u
                      dsimp only at d0 d1 d2 d3 d4 HS
                      clear hu hat3 hbl3 he3
                      by_cases hkk : uk = rk
                      · subst hkk
                        have s1 : (uk.toList == uk.toList) = true := by simp
                        by_cases huo : uo < a2
                        · have s2 : decide (uo < a2) = true := decide_eq_true huo
                          clear HOV HS
                          go_wp2_with fail
                          go_quiet (fail)
                          go_wp2
                          go_roundw
                          case rel => exact ⟨true, k + 1, rfl, by go_num, by omega, by omega, rfl, (HR.out nq).1, (HR.out nq).2⟩
                          case measure => simp [intOf]; omega
                        · have s2 : decide (uo < a2) = false := decide_eq_false huo
                          have HF : Hid ((false || overP a2 uk (R.drop (k + 1))) = true) := Lib.hid (by have := HOV.out; rw [HS.out, s2, Bool.and_false] at this; exact this)
                          clear HOV HS
                          go_wp2_with fail
                          go_quiet (fail)
                          go_wp2
                          go_roundw
                          case rel => exact ⟨false, k + 1, rfl, by go_num, by omega, by omega, HF.out, (HR.out nq).1, (HR.out nq).2⟩
                          case measure => simp [intOf]; omega
                      · have s1 : (uk.toList == rk.toList) = false := text_ne hkk
                        have HF : Hid ((false || overP a2 rk (R.drop (k + 1))) = true) := Lib.hid (by have := HOV.out; rw [HS.out, decide_eq_false hkk, Bool.false_and] at this; exact this)
                        clear HOV HS
                        go_wp2_with fail
                        go_quiet (fail)
                        go_wp2
                        go_roundw
                        case rel => exact ⟨false, k + 1, rfl, by go_num, by omega, by omega, HF.out, (HR.out nq).1, (HR.out nq).2⟩
                        case measure => simp [intOf]; omega
                  · have e1 : decide (k < R.length) = false := decide_eq_false hk
                    have hkr : k = R.length := by omega
                    obtain rfl : bb = true := by have := HOV.out; rw [hkr, List.drop_length] at this; simpa [overP] using this
                    have s3 : decide (a2 ≤ ro) = false := decide_eq_false (by omega)
                    clear HOV hkr
                    go_wp2_with fail
                    go_roundw
                    case rel => exact ⟨j, i + 1, rfl, by go_num, hj, HLT.out, HD.out, HB2.out.trans (HBX.out.1.mono HBC2.out.2)⟩
                    case measure => simp [intOf]; omega
      · obtain rfl : i = R.length := by omega
        have hjk : j = K.length := by
          rw [List.drop_length] at hE
          have := List.drop_eq_nil_iff.mp (hE.trans (by rfl))
          omega
        subst hjk
        have p1 : decide (R.length < R.length) = false := decide_eq_false (by omega)
        have p2 : ((K.length : Int) == (K.length : Int)) = true := by simp
        clear hE hbel
        go_wp2_with fail
        go_ret
        exact ⟨rfl, HB5.out.trans (HB.out.mono HB5.out.size)⟩

set_option maxRecDepth 100000 in
theorem lifted (os : Os) (started : os.Started) (H : Type) (enc : TypeId × Value → H) :
    ReturnsInHanded {} Try.checked os 5 .any (Rows.cleanLessSpec.pre6 enc Try.prog Try.f5 Rows.cleanLessRow.domain false) (Rows.cleanLessSpec.post enc Try.prog Try.f5 false true false false) := by
  refine returnsInHanded_of_change (C := Try.checked) own started (by kernel_rfl) Try.func5
    (ChangeSpec.witness6 (enc := enc) (C := Try.checked) false ⟨#[], #[.slice none 0 0, .slice none 0 0, .int .i64 0, .int .i64 0, .int .i64 0, .bool false], []⟩ 8 (by kernel_rfl) (by kernel_rfl) (by kernel_rfl) (by kernel_rfl)) ?_
  intro W base args ds gs before hval0 hW hcnd _
  have hval : ∀ (j : Nat) t v, Try.f5.params[j]? = some t → args[j]? = some v → Value.okWide Try.prog W .any base t v := hval0
  have hW' := hW
  obtain ⟨p, q, hA0, hV, rfl, hfz, hnd⟩ := hW
  have hA : DataW.TrodAll enc Try.prog W 0 (fun _ => true) true Try.f5.params.toList args.toList ds p := hA0
  rw [Try.params5] at hA hval
  obtain ⟨v0, vs0, d0, ds0, p0, q0, hargs, rfl, rfl, h0, r0⟩ := trodAll_cons hA
  obtain ⟨v1, vs1, d1, ds1, p1, q1, rfl, rfl, rfl, h1, r1⟩ := trodAll_cons r0
  obtain ⟨v2, vs2, d2, ds2, p2, q2, rfl, rfl, rfl, h2, r2⟩ := trodAll_cons r1
  obtain ⟨v3, vs3, d3, ds3, p3, q3, rfl, rfl, rfl, h3, r3⟩ := trodAll_cons r2
  obtain ⟨v4, vs4, d4, ds4, p4, q4, rfl, rfl, rfl, h4, r4⟩ := trodAll_cons r3
  obtain ⟨v5, vs5, d5, ds5, p5, q5, rfl, rfl, rfl, h5, r5⟩ := trodAll_cons r4
  obtain ⟨rfl, rfl, rfl⟩ := trodAll_nil r5
  obtain rfl : args = #[v0, v1, v2, v3, v4, v5] := by cases args; simp_all
  obtain ⟨rfl, rfl⟩ := trodVars_none hV
  have k0 := h0
  have lt0 : ∀ x ∈ p0, x.block < W.heap.size := by obtain ⟨m, hm⟩ := k0; exact DataW.trod_lt m _ _ _ hm
  obtain ⟨a0, cap0, z0, rfl, w0⟩ := recs_came (hval 0 22 v0 rfl rfl) h0
  obtain ⟨a1, len1, cap1, rfl⟩ := okWide_slice Try.underlying29 (hval 1 29 v1 rfl rfl)
  have k1 := h1
  have lt1 : ∀ x ∈ p1, x.block < W.heap.size := by obtain ⟨m, hm⟩ := k1; exact DataW.trod_lt m _ _ _ hm
  obtain ⟨z1, w1⟩ : ∃ zs, IsRow .i64 W a1 len1 cap1 zs := by
    obtain ⟨fuel, hf⟩ := h1
    rcases open_ints Try.underlying29 Try.underlying3 (by kernel_rfl) hf with ⟨hcs, _⟩ | ⟨x, l, c, zs, hcs, _, hl, hm, hz, _, hcell, hwz⟩
    · simp [Value.cells] at hcs
      obtain ⟨rfl, rfl, rfl⟩ := hcs
      exact ⟨[], .inl ⟨rfl, rfl, rfl, rfl⟩⟩
    · simp [Value.cells] at hcs
      obtain ⟨rfl, rfl, rfl⟩ := hcs
      exact ⟨zs, .inr ⟨_, rfl, hl, hm, by simpa using hz, hcell, hwz⟩⟩
  obtain ⟨a2, rfl, rfl, rfl, w2⟩ := open_int Try.underlying3 (hval 2 3 v2 rfl rfl) h2
  obtain ⟨a3, rfl, rfl, rfl, w3⟩ := open_int Try.underlying3 (hval 3 3 v3 rfl rfl) h3
  obtain ⟨a4, rfl, rfl, rfl, w4⟩ := open_int Try.underlying3 (hval 4 3 v4 rfl rfl) h4
  obtain ⟨a5, rfl, rfl, rfl⟩ := open_bool Try.underlying4 (hval 5 4 v5 rfl rfl) h5
  clear hA0 hval0
  refine (walk a0 cap0 z0 a1 len1 cap1 z1 a2 a3 a4 a5 W w0 w1 w2 w3 w4).mono fun e W' ⟨he, bel⟩ => ?_
  subst he
  exact ⟨_, rfl, _, _, _, [], _, [], hW', trodAll_mk1 (shut_bool Try.underlying4 _), (trodAll_cons_mk (Below.trod laidOut (by kernel_rfl) (of_decide_eq_true (by kernel_rfl)) k0 bel lt0) (trodAll_cons_mk (Below.trod laidOut (by kernel_rfl) (of_decide_eq_true (by kernel_rfl)) k1 bel lt1) (trodAll_cons_mk (shut_int Try.underlying3 w2) (trodAll_cons_mk (shut_int Try.underlying3 w3) (trodAll_cons_mk (shut_int Try.underlying3 w4) (trodAll_cons_mk (shut_bool Try.underlying4 _) trodAll_mk0)))))), rfl, bel.frame _, fun h => by cases h⟩

theorem over : Rows.cleanLessRow.holds Try.pinned (OpenSpec.ofChange Rows.cleanLessSpec) :=
  OpenClaim.holds_of_wide 5 Try.f5 rfl rfl rfl rfl rfl rfl rfl ⟨rfl, rfl, rfl, rfl, rfl⟩ rfl rfl rfl rfl rfl (by kernel_rfl) Try.func5 (by kernel_rfl)
    (of_decide_eq_true (by kernel_rfl)) (by unfold Func.isWrapper; first | (rw [if_pos (by decide +kernel)]; kernel_rfl) | (rw [if_neg (by decide +kernel)]; exact ⟨rfl, rfl⟩))
    (fun os started H enc _ => lifted os started H enc)

theorem proved : Rows.CleanLessSaid := over
#print axioms proved
end Go.Proofs.Ytjblhfhfappmoaa.cleanLess
