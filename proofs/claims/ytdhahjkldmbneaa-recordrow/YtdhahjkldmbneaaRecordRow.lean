/- Proved: for every list of records l and every at and bit, RecordRow(l, at, bit) returns true: the right ones, written one behind the other by record.Put, are read one by one by record.Get, and no byte is left; and the first one's bytes with one bit turned are read as another record, or none; for lists of at most 20, keys of at most 200 bytes and values of at most 300. Conditions: none. -/
import Derived.Test.YtdhahjkldmbneaaRows
import Derived.WalkKit
import Derived.ProofKit
import Derived.OpenShut
import Derived.ShutString
import Derived.ChangeOld
import Derived.Below
import Derived.Deep.QuietTactic
import Derived.BigQuiet
import Derived.StillTailTactics
import Derived.Test.YtdhahjkldmbneaaRecAlive
import Derived.Test.YtdhahjkldmbneaaRecsOwn
import Derived.Test.YtdhahjkldmbneaaRecRow
import Derived.Test.YtdhahjkldmbneaaRRecPut
import Derived.Test.YtdhahjkldmbneaaCrcNum
namespace Go.Proofs.Ytdhahjkldmbneaa.recordRow
open Go.ChangeShapes Go.WideShapes Go.ChangeAt Go.RowKit
open Go.ChangeMaps (open_string shut_string)
set_option linter.unusedVariables false

theorem own : ownKnob Try.prog.godebug = none := by kernel_rfl
theorem laidOut : laidOutB Try.prog = true := by kernel_rfl

def IsRow (k : IntKind) (w : World) (a : Option Addr) (len cap : Nat) (zs : List Int) : Prop :=
  (a = none ∧ len = 0 ∧ cap = 0 ∧ zs = []) ∨
  ∃ x, a = some x ∧ len ≤ cap ∧ cap ≤ maxLen ∧ zs.length = cap ∧ (∀ i, i < zs.length → w.cell? (x.add i) = some (.int k (zs.getD i 0))) ∧ ∀ n ∈ zs, (Lit.int k n).wf = true

set_option maxRecDepth 100000 in
set_option maxHeartbeats 8000000 in
theorem walk (a0 : Option Addr) (cap0 : Nat) (z0 : List Rec) (a1 : Int) (a2 : Int) (w : World) (w0 : RecsLie w a0 z0 cap0) (w1 : (Lit.int .i64 a1).wf = true) (w2 : (Lit.int .i64 a2).wf = true) :
    Calls Try.prog 6 #[.slice a0 z0.length cap0, .int .i64 a1, .int .i64 a2] w fun e w' => e = .returned (.bool true) ∧ Below w.heap.size w w' := by
  obtain ⟨hn0, hn1⟩ := bounds_i64 w1
  by_cases h20 : (20 : Int) < (z0.length : Int)
  · clear w1 w2
    go_enter Try.func6, Try.ntmps6
    go_wp2_with fail
    refine (alive_any _).mono ?_
    rintro e w1 ⟨rfl, hb1⟩
    go_wp2
    go_ret
    exact ⟨rfl, hb1⟩
  by_cases hneg : a1 < 0
  · clear w1 w2
    go_enter Try.func6, Try.ntmps6
    go_wp2_with fail
    refine (alive_any _).mono ?_
    rintro e w1 ⟨rfl, hb1⟩
    go_wp2
    go_ret
    exact ⟨rfl, hb1⟩
  have HW0 := Lib.hid w0
  have HW2 := Lib.hid w2
  clear w0 w1 w2
  go_enter Try.func6, Try.ntmps6
  go_wp2_with fail
  refine (alive_any _).mono ?_
  rintro e w1 ⟨rfl, hb1⟩
  have HB1 := Lib.hid hb1
  have HL1 := Lib.hid (HW0.out.below hb1 (Nat.le_refl _))
  clear hb1
  go_wp2_with fail
  go_loopw [8, 9, 10] (fun bv gv iv wr => ∃ (i : Nat) (A : Option Addr) (c : Nat), iv = .int .i64 (i : Int) ∧ i ≤ z0.length ∧ bv = .slice A (rowB (goods (z0.take i))).length c ∧ (rowB (goods (z0.take i))).length ≤ c ∧ c ≤ maxLen ∧ (A = none → c = 0) ∧ Lies .u8 wr wr.heap.size A (rowB (goods (z0.take i))) ∧ OwnR wr w1.heap.size gv (goods (z0.take i)) ∧ Below w1.heap.size w1 wr ∧ ∀ x, A = some x → gv.ownBlock ≠ some x.block) (fun _ _ iv _ => z0.length - (intOf iv).toNat)
  case atStart => exact ⟨0, none, 0, rfl, Nat.zero_le _, rfl, by simp [rowB, goods], by unfold maxLen; omega, fun _ => rfl, by simp only [List.take_zero]; exact Lies.nil, by simp only [List.take_zero]; exact OwnR.nil, Below.refl _ _, fun _ h => by cases h⟩
  case round =>
    obtain ⟨i, A, c, rfl, hi, rfl, hc, hcm, hA, hl, hown, hbel, hne⟩ := hrel
    by_cases hlt : (i : Int) < (z0.length : Int)
    · have hltn : i < z0.length := by omega
      have hlr := HL1.out.below hbel (Nat.le_refl _)
      obtain ⟨b, off, rfl, hbb, hcells⟩ := hlr.1 (by rintro rfl; simp at hltn)
      have hrec := hcells i hltn
      have hwf := hlr.2.2.2 _ (List.getElem_mem hltn)
      have hput := rowB_put z0 i hltn
      obtain ⟨r, hre⟩ : ∃ r, z0[i] = r := ⟨_, rfl⟩
      rw [hre] at hrec hwf hput
      obtain ⟨c0, c1, c2, c3, c4⟩ := hrec
      obtain ⟨ys, hys⟩ : ∃ ys, rowB (goods (z0.take i)) = ys := ⟨_, rfl⟩
      rw [hys] at hput hc hl ⊢
      have HYS := Lib.hid hys
      have HPUT := Lib.hid hput
      have HRE := Lib.hid hre
      have HN := Lib.hid hne
      have HA := Lib.hid hA
      clear hys hput hre hne hA hcells
      have hbw : Below w.heap.size w wr := HB1.out.trans (hbel.mono HB1.out.size)
      by_cases hv : (300 : Int) < (r.val.size : Int)
      · go_wp2
        go_ret
        exact ⟨rfl, hbw⟩
      by_cases hk : (200 : Int) < (r.key.size : Int)
      · go_wp2
        go_ret
        exact ⟨rfl, hbw⟩
      have dv := decide_eq_false hv
      have dk := decide_eq_false hk
      have hglen : (goods (z0.take i)).length ≤ 20 := by have := goods_length (z0.take i); rw [List.length_take] at this; omega
      have hyl : ys.length ≤ 46000 := by have := rowB_length (goods (z0.take i)) (fun r hr => goods_right hr); rw [HYS.out] at this; omega
      obtain ⟨zs, hzs⟩ : ∃ zs, ys ++ putR r = zs := ⟨_, rfl⟩
      have hP := rput2_any A ys c r wr hwf hl hc hcm HA.out (by omega)
      rw [hzs] at hP
      unfold recV at hP
      have HP := Lib.hid hP
      have HZS := Lib.hid hzs
      clear hP hzs hl
      go_wp2_with fail
      refine HP.out.mono ?_
      rintro e w2 ⟨A2, c2', rfl, hc2, hm2, hn2, hl2, hb2, hnew⟩
      have HNEW := Lib.hid hnew
      have HN2 := Lib.hid hn2
      have hr2 : RecAt w2 b (off + i * 5) r := RecAt.keep ⟨c0, c1, c2, c3, c4⟩ fun j => hb2.cell hbb
      have hown2 := hown.below hb2
      have hbb2 : b < w2.heap.size := by have := hb2.size; omega
      clear c0 c1 c2 c3 c4 HP hnew hn2
      obtain ⟨d0, d1, d2, d3, d4⟩ := hr2
      have hR := refright_any r w2
      unfold recV at hR
      obtain ⟨ok, hok⟩ : ∃ ok, decide r.right = ok := ⟨_, rfl⟩
      rw [hok] at hR
      have HR := Lib.hid hR
      have HOK := Lib.hid hok
      clear hR hok
      go_wp2_with fail
      refine HR.out.mono ?_
      rintro e w3 ⟨rfl, hb3⟩
      have hr3 : RecAt w3 b (off + i * 5) r := RecAt.keep ⟨d0, d1, d2, d3, d4⟩ fun j => hb3.cell hbb2
      have hown3 := hown2.below hb3
      have hl3 := (hl2.below hb3).more hb3.size
      have hb13 : Below w1.heap.size w1 w3 := hbel.trans ((hb2.mono hbel.size).trans (hb3.mono (by have := hbel.size; have := hb2.size; omega)))
      clear d0 d1 d2 d3 d4 HR hown2 hl2
      obtain ⟨e0, e1, e2, e3, e4⟩ := hr3
      have hz2 := hb2.size
      have hz3 := hb3.size
      have hne2 : ∀ x, A2 = some x → u9.ownBlock ≠ some x.block := by
        intro x hx hg
        rcases HNEW.out with ⟨rfl, _⟩ | hn
        · exact HN.out x hx hg
        · have := hn x hx
          have := (hown.lt _ hg).2
          omega
      have HNE2 := Lib.hid hne2
      clear hne2 HNEW HN
      cases ok with
      | false =>
        have hnr : ¬ r.right := of_decide_eq_false HOK.out
        go_wp2
        go_roundw
        case rel =>
          have hgs : goods (z0.take (i + 1)) = goods (z0.take i) := goods_skip z0 i hltn (by rw [HRE.out]; exact hnr)
          have hrb : rowB (goods (z0.take (i + 1))) = zs := by rw [← HPUT.out, HZS.out]
          refine ⟨i + 1, A2, c2', by go_num, by omega, by rw [hrb], by rw [hrb]; exact hc2, hm2, HN2.out, by rw [hrb]; exact hl3, by rw [hgs]; exact hown3, hb13, HNE2.out⟩
        case measure => simp [intOf]; omega
      | true =>
        have hrr : r.right := of_decide_eq_true HOK.out
        have HRR := Lib.hid hrr
        clear hrr
        go_wp2_with (at_builtin; (refine wpList_append_rec rfl (.tmp 66) (.tmp 71) rfl w1.heap.size u9 (goods (z0.take i)) rfl w3 r rfl hown3 rfl (by omega) hb13.size ?_; intro v4 w4 hown4 hb4 hgr4 hob4; have HG4 := Lib.hid hgr4; have HO4 := Lib.hid hob4; clear hgr4 hob4))
        go_roundw
        case rel =>
          have hgs : goods (z0.take (i + 1)) = goods (z0.take i) ++ [r] := by rw [goods_snoc z0 i hltn (by rw [HRE.out]; exact HRR.out), HRE.out]
          have hrb : rowB (goods (z0.take (i + 1))) = zs := by rw [← HPUT.out, HZS.out]
          have hzne : zs ≠ [] := by
            have := (recL_length r HRR.out).1
            rw [← HZS.out, putR_right HRR.out]
            intro hh
            have := congrArg List.length hh
            rw [List.length_append, List.length_nil] at this
            omega
          obtain ⟨bz, oz, hAz, hbz, _⟩ := hl3 hzne
          have hl4 : Lies .u8 w4 w4.heap.size A2 zs := ((hl3.alloc (Nat.le_refl _) _).grown HG4.out (by simp) (fun x hx hg => HNE2.out x hx hg)).more (by have := HG4.out.size; simp at this; omega)
          refine ⟨i + 1, A2, c2', by go_num, by omega, by rw [hrb], by rw [hrb]; exact hc2, hm2, HN2.out, by rw [hrb]; exact hl4, by rw [hgs]; exact hown4, hb13.trans hb4, ?_⟩
          intro x hx hg
          rcases HO4.out with ho | ho
          · exact HNE2.out x hx (by rw [← ho]; exact hg)
          · rw [ho] at hg
            rw [hAz] at hx
            injection hx with hx
            subst hx
            simp at hg
            omega
        case measure => simp [intOf]; omega
    · obtain rfl : i = z0.length := by omega
      rw [List.take_length] at hc hl hown ⊢
      clear hlt hi
      obtain ⟨gs, hgs⟩ : ∃ gs, goods z0 = gs := ⟨_, rfl⟩
      have hgl : gs.length ≤ 20 := by have := goods_length z0; rw [← hgs]; omega
      have hgr : ∀ r ∈ gs, r.right := fun r hr => goods_right (by rw [hgs]; exact hr)
      rw [hgs] at hc hl hown ⊢
      have hyl := rowB_length gs hgr
      have hyr := rowB_range gs hgr
      obtain ⟨ys, hys⟩ : ∃ ys, rowB gs = ys := ⟨_, rfl⟩
      rw [hys] at hc hl hyl hyr ⊢
      have HYS := Lib.hid hys
      have HGR := Lib.hid hgr
      have HYR := Lib.hid hyr
      have HNE := Lib.hid hne
      have HA := Lib.hid hA
      clear hys hgr hyr hne hA hgs
      obtain ⟨G, gc, rfl, hgG, hgn⟩ := hown.parts (fun r hr => (HGR.out r hr).wf)
      have HGG := Lib.hid hgG
      have HGN := Lib.hid hgn
      have HL := Lib.hid hl
      have hbw : Below w.heap.size w wr := HB1.out.trans (hbel.mono HB1.out.size)
      have HBW := Lib.hid hbw
      clear hgG hgn hl hown hbel hbw HB1 HL1 HW0
      generalize wr = wA at *
      go_wp2_with fail
      go_loopw [11, 12] (fun kv iv wx => ∃ i : Nat, kv = .int .i64 ((rowB (gs.take i)).length : Nat) ∧ iv = .int .i64 (i : Int) ∧ i ≤ gs.length ∧ Below wA.heap.size wA wx) (fun _ iv _ => gs.length - (intOf iv).toNat)
      case atStart => exact ⟨0, rfl, rfl, Nat.zero_le _, Below.refl _ _⟩
      case round =>
        obtain ⟨i, rfl, rfl, hi, hbx⟩ := hrel
        by_cases hlt : (i : Int) < (gs.length : Int)
        · have hltn : i < gs.length := by omega
          obtain ⟨k, hk⟩ : ∃ k, (rowB (gs.take i)).length = k := ⟨_, rfl⟩
          rw [hk]
          have hdr := rowB_drop gs i hltn
          have hrr := HGR.out _ (List.getElem_mem hltn)
          have hsp := rowB_split gs i hltn
          obtain ⟨g, hg⟩ : ∃ g, gs[i] = g := ⟨_, rfl⟩
          rw [hg] at hdr hrr hsp
          have hgl2 := recL_length g hrr
          have hkl : k + (recL g).length ≤ ys.length := by
            have := congrArg List.length hsp
            rw [HYS.out, List.length_append, List.length_append, hk] at this
            omega
          rw [HYS.out, hk] at hdr
          have hgp := getRec_put g (rowB (gs.drop (i + 1))) hrr
          rw [← hdr] at hgp
          have hsn := rowB_snoc gs i hltn
          have hsl : (rowB (gs.take (i + 1))).length = k + (recL g).length := by rw [hsn, List.length_append, hk, hg]
          obtain ⟨n, hn⟩ : ∃ n, (recL g).length = n := ⟨_, rfl⟩
          rw [hn] at hgl2 hkl hgp hsl
          have hck : ¬ c = k := by omega
          have hkz : ¬ (ys.length : Int) < (k : Int) := by omega
          have hkz2 : (k : Int) ≤ (ys.length : Int) := by omega
          obtain ⟨bB, oB, hAB, -, -⟩ := HL.out.at_ (j := 0) (by omega)
          subst hAB
          have hlx := ((HL.out.below hbx).more hbx.size).cut (n := k) hc
          rw [if_neg hck, Option.map_some, add_lit] at hlx
          have hget := rget_any (some ⟨bB, oB + k, none⟩) (ys.drop k) (c - k) wr hlx (fun x hx => HYR.out x (List.mem_of_mem_drop hx)) (by rw [List.length_drop]; omega) (by omega)
          rw [hgp, List.length_drop] at hget
          have HGET := Lib.hid hget
          have HSL := Lib.hid hsl
          obtain ⟨bG, oG, hAG, hbG, hcG⟩ := (HGG.out.below hbx (Nat.le_refl _)).1 (by rintro rfl; simp at hltn)
          subst hAG
          have hrec := hcG i hltn
          rw [hg] at hrec
          clear hget hsl hsn hgp hdr hsp hg hk hn hlx hcG hrr
          go_wp2_with fail
          refine HGET.out.mono ?_
          rintro e w5 ⟨rfl, hb5⟩
          unfold recV
          have hrec5 : RecAt w5 bG (oG + i * 5) g := hrec.keep fun j => hb5.cell hbG
          have hbG5 : bG < w5.heap.size := by have := hb5.size; omega
          have hz5 := hb5.size
          obtain ⟨e0, e1, e2, e3, e4⟩ := hrec5
          have hbA : Below wA.heap.size wA w5 := hbx.trans (hb5.mono hbx.size)
          have HBA := Lib.hid hbA
          have hn1z : ¬ (n : Int) < 1 := by omega
          have dn := decide_eq_false hn1z
          have HNUM := Lib.hid (fun W => (num_any 0 W).mono fun e w' h => (⟨h.1, h.2.symm⟩ : e = .returned (.int .i64 0) ∧ w' = W))
          clear hbA hb5 HGET hrec
          go_wp2_with fail
          go_quiet (first | (go_at_call 15; refine Calls.quiet_of_same (HNUM.out _)))
          go_wp2
          go_roundw
          case rel =>
            refine ⟨i + 1, ?_, by go_num, by omega, ?_⟩
            · rw [HSL.out]; go_num
            · have hb9 := HBA.out.alloc HBA.out.size (.cells #[.int .i64 g.off, .int .i64 g.time, .string g.key, .string g.val, .bool g.dead] 24)
              exact ⟨hb9.os, hb9.tape, hb9.output, hb9.size, hb9.block⟩
          case measure => simp [intOf]; omega
        · obtain rfl : i = gs.length := by omega
          rw [List.take_length, HYS.out]
          have hyy : ((ys.length : Int) == (ys.length : Int)) = true := by simp
          have hyn : ((ys.length : Int) != (ys.length : Int)) = false := by simp
          have hbw2 : Below w.heap.size w wr := HBW.out.trans (hbx.mono HBW.out.size)
          by_cases hg0 : gs = []
          · subst hg0
            go_wp2
            go_ret
            exact ⟨rfl, hbw2⟩
          · have hgp : 0 < gs.length := List.length_pos_iff.2 hg0
            have hgz : ((gs.length : Int) == 0) = false := by simpa using hg0
            have hgz2 : (gs.length == 0) = false := by simpa using hg0
            obtain ⟨bG, oG, hAG, hbG, hcG⟩ := (HGG.out.below hbx (Nat.le_refl _)).1 hg0
            subst hAG
            have hrec := hcG 0 hgp
            have hrr := HGR.out _ (List.getElem_mem hgp)
            obtain ⟨g, hg⟩ : ∃ g, gs[0] = g := ⟨_, rfl⟩
            rw [hg, Nat.zero_mul, Nat.add_zero] at hrec
            rw [hg] at hrr
            have hput := refputrec_any none [] 0 g wr Lies.nil (Nat.le_refl _) (fun _ => rfl) (by simp)
            rw [List.nil_append, putR_right hrr] at hput
            have hlen := recL_length g hrr
            have hrng := recL_range g hrr
            obtain ⟨xs, hxs⟩ : ∃ xs, recL g = xs := ⟨_, rfl⟩
            rw [hxs] at hput hlen hrng
            unfold recV at hput
            have HXS := Lib.hid hxs
            have HPUT := Lib.hid hput
            have HRNG := Lib.hid hrng
            obtain ⟨e0, e1, e2, e3, e4⟩ := hrec
            clear hput hxs hrng hcG hg hrr
            have hgzz : (0 : Int) < (gs.length : Int) := by omega
            go_wp2_with fail
            refine HPUT.out.mono ?_
            rintro e w6 ⟨v6, rfl, hown6, hb6⟩
            have hrec6 : RecAt w6 bG oG g := RecAt.keep ⟨e0, e1, e2, e3, e4⟩ fun j => hb6.cell hbG
            have hbG6 : bG < wr.heap.size := hbG
            clear e0 e1 e2 e3 e4 HPUT
            obtain ⟨gB, cB, rfl, hgb, hgl3, hcc, hcm2⟩ := hown6.spot (by omega)
            obtain ⟨k, hk⟩ : ∃ k : Nat, a1.tmod (xs.length : Int) = (k : Int) ∧ k < xs.length := by
              rw [Int.tmod_eq_emod_of_nonneg (by omega)]
              have e1 := Int.emod_nonneg a1 (show (xs.length : Int) ≠ 0 by omega)
              have e2 := Int.emod_lt_of_pos a1 (show 0 < (xs.length : Int) by omega)
              exact ⟨(a1 % (xs.length : Int)).toNat, by omega, by omega⟩
            obtain ⟨hk, hkl⟩ := hk
            have hbit := i64_and7 a2
            obtain ⟨m, hm8, hm7⟩ : ∃ m : Nat, a2 % 8 = (m : Int) ∧ m ≤ 7 := ⟨(a2 % 8).toNat, by omega, by omega⟩
            rw [hm8] at hbit
            have hne : ¬ xs = [] := by rintro rfl; simp at hkl
            obtain ⟨hq0, hq1⟩ := HRNG.out _ (List.getElem_mem hkl)
            have hcell := hown6.cellAt hkl
            have hfr := hown6.thaw k
            obtain ⟨q, hq⟩ : ∃ q, xs[k] = q := ⟨_, rfl⟩
            rw [hq] at hcell hq0 hq1
            have HQ := Lib.hid hq
            clear hq hm8
            go_wp2_with fail
            obtain ⟨y, hxor, hy, hyq⟩ := turn_bit q ⟨hq0, hq1⟩ m hm7
            have HX := Lib.hid hxor
            clear hxor
            go_still_tail 18, (by kernel_rfl)
            rw [HX.out]
            have hown7 : Own .u8 5 w6.drew wr.heap.size (.slice (some ⟨gB, 0, none⟩) xs.length cB) xs := hown6
            have hb7 : Below wr.heap.size wr w6.drew := hb6.drew
            have hrec7 : RecAt w6.drew bG oG g := hrec6
            change wpList _ _ _ _ _ w6.drew
            have hcell2 : w6.drew.cell? ⟨gB, k, none⟩ = some (.int .u8 q) := hcell
            have hfr2 : w6.drew.frozen? ⟨gB, k, none⟩ = false := hfr
            clear hown6 hb6 hrec6 hcell hfr hgl3
            generalize w6.drew = w7 at *
            go_wp2_with fail
            have hown8 := hown7.set k y
            have hb78 : Below wr.heap.size w7 (w7.setCell ⟨gB, k, none⟩ (.int .u8 y)) := (Below.refl _ _).setCell (p := ⟨gB, k, none⟩) hgb _
            have hrec8 : RecAt (w7.setCell ⟨gB, k, none⟩ (.int .u8 y)) bG oG g := hrec7.keep fun j => hb78.cell hbG6
            have hb8 := hb7.trans hb78
            have hset : IsBytes (xs.set k y) := fun c hc => by
              rcases List.mem_or_eq_of_mem_set hc with h | rfl
              · exact HRNG.out c h
              · exact hy
            have hsne : xs.set k y ≠ recL g := by
              rw [HXS.out]
              intro hh
              have h1 : (xs.set k y)[k]'(by rw [List.length_set]; exact hkl) = xs[k] := by simp only [hh]
              rw [List.getElem_set_self, HQ.out] at h1
              exact hyq h1
            have hother := fun (q : Rec) (n : Int) => other_bytes (r := g) (q := q) (n := n) hset (by rw [List.length_set, HXS.out]) hsne
            clear hown7 hb7 hrec7 hcell2 hfr2 hb78
            generalize w7.setCell ⟨gB, k, none⟩ (.int .u8 y) = w8 at *
            have hget := rget_any (some ⟨gB, 0, none⟩) (xs.set k y) cB w8 (Own.lies hown8) hset (by rw [List.length_set]; omega) hcm2
            rw [List.length_set] at hget
            obtain ⟨qr, nn, f, hgr⟩ : ∃ a b c, getRec (xs.set k y) = (a, b, c) := ⟨_, _, _, rfl⟩
            rw [hgr] at hget
            rw [hgr] at hother
            refine hget.mono ?_
            rintro e w9 ⟨rfl, hb9⟩
            unfold recV
            have hz9 := hb9.size
            have hz8 := hb8.size
            have hrec9 : RecAt w9 bG oG g := hrec8.keep fun j => hb9.cell (by show bG < _; omega)
            have hbG9 : bG < w9.heap.size := by omega
            have hbw9 : Below w.heap.size w w9 := hbw2.trans ((hb8.mono hbw2.size).trans (hb9.mono (by have := hbw2.size; omega)))
            have HB9 := Lib.hid hbw9
            obtain ⟨e0, e1, e2, e3, e4⟩ := hrec9
            have HNUM := Lib.hid (fun W => (num_any f W).mono fun e w' h => (⟨h.1, h.2.symm⟩ : e = .returned (.int .i64 f) ∧ w' = W))
            have HOT := Lib.hid hother
            clear hget hgr hother hb9 hb8 hbw9 hown8 hrec8
            by_cases hf : f = 0
            · subst hf
              have hqg := HOT.out qr nn rfl
              have HQG := Lib.hid hqg
              have HB10 := Lib.hid (HB9.out.alloc HB9.out.size (.cells #[.int .i64 qr.off, .int .i64 qr.time, .string qr.key, .string qr.val, .bool qr.dead] 24))
              clear hqg HOT
              obtain ⟨qo, qt, qk, qv, qd⟩ := qr
              obtain ⟨go, gt, gk, gv, gd⟩ := g
              simp only at e0 e1 e2 e3 e4 HB10 ⊢
              by_cases h1 : qo = go
              · subst h1
                by_cases h2 : qt = gt
                · subst h2
                  by_cases h3 : qk = gk
                  · subst h3
                    by_cases h4 : qv = gv
                    · subst h4
                      by_cases h5 : qd = gd
                      · subst h5
                        exact absurd rfl HQG.out
                      · have b5 : (qd == gd) = false := by simpa using h5
                        go_wp2_with fail
                        go_quiet (first | (go_at_call 15; refine Calls.quiet_of_same (HNUM.out _)))
                        go_wp2
                        go_ret
                        exact ⟨rfl, ⟨HB10.out.os, HB10.out.tape, HB10.out.output, HB10.out.size, HB10.out.block⟩⟩
                    · have b4 : (qv.toList == gv.toList) = false := text_ne h4
                      go_wp2_with fail
                      go_quiet (first | (go_at_call 15; refine Calls.quiet_of_same (HNUM.out _)))
                      go_wp2
                      go_ret
                      exact ⟨rfl, ⟨HB10.out.os, HB10.out.tape, HB10.out.output, HB10.out.size, HB10.out.block⟩⟩
                  · have b3 : (qk.toList == gk.toList) = false := text_ne h3
                    go_wp2_with fail
                    go_quiet (first | (go_at_call 15; refine Calls.quiet_of_same (HNUM.out _)))
                    go_wp2
                    go_ret
                    exact ⟨rfl, ⟨HB10.out.os, HB10.out.tape, HB10.out.output, HB10.out.size, HB10.out.block⟩⟩
                · have b2 : (qt == gt) = false := by simpa using h2
                  go_wp2_with fail
                  go_quiet (first | (go_at_call 15; refine Calls.quiet_of_same (HNUM.out _)))
                  go_wp2
                  go_ret
                  exact ⟨rfl, ⟨HB10.out.os, HB10.out.tape, HB10.out.output, HB10.out.size, HB10.out.block⟩⟩
              · have b1 : (qo == go) = false := by simpa using h1
                go_wp2_with fail
                go_quiet (first | (go_at_call 15; refine Calls.quiet_of_same (HNUM.out _)))
                go_wp2
                go_ret
                exact ⟨rfl, ⟨HB10.out.os, HB10.out.tape, HB10.out.output, HB10.out.size, HB10.out.block⟩⟩
            · have hfb : (f != 0) = true := by simpa using hf
              clear HOT
              go_wp2_with fail
              go_quiet (first | (go_at_call 15; refine Calls.quiet_of_same (HNUM.out _)))
              go_wp2
              go_ret
              have hb10 := HB9.out.alloc HB9.out.size (.cells #[.int .i64 qr.off, .int .i64 qr.time, .string qr.key, .string qr.val, .bool qr.dead] 24)
              exact ⟨rfl, ⟨hb10.os, hb10.tape, hb10.output, hb10.size, hb10.block⟩⟩

set_option maxRecDepth 100000 in
theorem lifted (os : Os) (started : os.Started) (H : Type) (enc : TypeId × Value → H) :
    ReturnsInHanded {} Try.checked os 6 .any (Rows.recordRowSpec.pre6 enc Try.prog Try.f6 Rows.recordRowRow.domain false) (Rows.recordRowSpec.post enc Try.prog Try.f6 false true false false) := by
  refine returnsInHanded_of_change (C := Try.checked) own started (by kernel_rfl) Try.func6
    (ChangeSpec.witness6 (enc := enc) (C := Try.checked) false ⟨#[], #[.slice none 0 0, .int .i64 0, .int .i64 0], []⟩ 8 (by kernel_rfl) (by kernel_rfl) (by kernel_rfl) (by kernel_rfl)) ?_
  intro W base args ds gs before hval0 hW hcnd _
  have hval : ∀ (j : Nat) t v, Try.f6.params[j]? = some t → args[j]? = some v → Value.okWide Try.prog W .any base t v := hval0
  have hW' := hW
  obtain ⟨p, q, hA0, hV, rfl, hfz, hnd⟩ := hW
  have hA : DataW.TrodAll enc Try.prog W 0 (fun _ => true) true Try.f6.params.toList args.toList ds p := hA0
  rw [Try.params6] at hA hval
  obtain ⟨v0, vs0, d0, ds0, p0, q0, hargs, rfl, rfl, h0, r0⟩ := trodAll_cons hA
  obtain ⟨v1, vs1, d1, ds1, p1, q1, rfl, rfl, rfl, h1, r1⟩ := trodAll_cons r0
  obtain ⟨v2, vs2, d2, ds2, p2, q2, rfl, rfl, rfl, h2, r2⟩ := trodAll_cons r1
  obtain ⟨rfl, rfl, rfl⟩ := trodAll_nil r2
  obtain rfl : args = #[v0, v1, v2] := by cases args; simp_all
  obtain ⟨rfl, rfl⟩ := trodVars_none hV
  have k0 := h0
  have lt0 : ∀ x ∈ p0, x.block < W.heap.size := by obtain ⟨m, hm⟩ := k0; exact DataW.trod_lt m _ _ _ hm
  obtain ⟨a0, cap0, z0, rfl, w0⟩ := recs_came (hval 0 38 v0 rfl rfl) h0
  obtain ⟨a1, rfl, rfl, rfl, w1⟩ := open_int Try.underlying3 (hval 1 3 v1 rfl rfl) h1
  obtain ⟨a2, rfl, rfl, rfl, w2⟩ := open_int Try.underlying3 (hval 2 3 v2 rfl rfl) h2
  clear hA0 hval0
  refine (walk a0 cap0 z0 a1 a2 W w0 w1 w2).mono fun e W' ⟨he, bel⟩ => ?_
  subst he
  exact ⟨_, rfl, _, _, _, [], _, [], hW', trodAll_mk1 (shut_bool Try.underlying4 _), (trodAll_cons_mk (Below.trod laidOut (by kernel_rfl) (of_decide_eq_true (by kernel_rfl)) k0 bel lt0) (trodAll_cons_mk (shut_int Try.underlying3 w1) (trodAll_cons_mk (shut_int Try.underlying3 w2) trodAll_mk0))), rfl, bel.frame _, fun h => by cases h⟩

theorem over : Rows.recordRowRow.holds Try.pinned (OpenSpec.ofChange Rows.recordRowSpec) :=
  OpenClaim.holds_of_wide 6 Try.f6 rfl rfl rfl rfl rfl rfl rfl ⟨rfl, rfl, rfl, rfl, rfl⟩ rfl rfl rfl rfl rfl (by kernel_rfl) Try.func6 (by kernel_rfl)
    (of_decide_eq_true (by kernel_rfl)) (by unfold Func.isWrapper; first | (rw [if_pos (by decide +kernel)]; kernel_rfl) | (rw [if_neg (by decide +kernel)]; exact ⟨rfl, rfl⟩))
    (fun os started H enc _ => lifted os started H enc)

theorem proved : Rows.RecordRowSaid := over
#print axioms proved
end Go.Proofs.Ytdhahjkldmbneaa.recordRow
