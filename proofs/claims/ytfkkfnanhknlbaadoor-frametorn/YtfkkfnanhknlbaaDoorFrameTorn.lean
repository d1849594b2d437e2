/- For every list of slices of bytes, nil too, each nil or not, and every int the law FrameTorn answers true, and its arguments read as before; where the program's table lies as the program's own text lays it (the card ties that). -/
import Derived.Test.YtfkkfnanhknlbaaDoorRows
import Derived.WalkKit
import Derived.ProofKit
import Derived.OpenShut
import Derived.ShutString
import Derived.ChangeOld
import Derived.Below
import Derived.LaidMore
import Derived.Stop.Joined
import Derived.SevenTiedAt
import Derived.Test.YtfkkfnanhknlbaaDoorCards
import Derived.Test.YtfkkfnanhknlbaaDoorTie
import Derived.Test.YtfkkfnanhknlbaaDoorPiecesCame
import Derived.Test.YtfkkfnanhknlbaaDoorFrAlive
import Derived.Test.YtfkkfnanhknlbaaDoorRFrPut
import Derived.Test.YtfkkfnanhknlbaaDoorVFrAll
import Derived.Test.YtfkkfnanhknlbaaDoorCrcLaid
namespace Go.Proofs.YtfkkfnanhknlbaaDoor.frameTorn
open Go.ChangeShapes Go.WideShapes Go.ChangeAt Go.RowKit
open Go.ChangeMaps (open_string shut_string)
set_option linter.unusedVariables false

theorem own : ownKnob Tryd.prog.godebug = none := by kernel_rfl
theorem laidOut : laidOutB Tryd.prog = true := by kernel_rfl

def IsRow (k : IntKind) (w : World) (a : Option Addr) (len cap : Nat) (zs : List Int) : Prop :=
  (a = none ∧ len = 0 ∧ cap = 0 ∧ zs = []) ∨
  ∃ x, a = some x ∧ len ≤ cap ∧ cap ≤ maxLen ∧ zs.length = cap ∧ (∀ i, i < zs.length → w.cell? (x.add i) = some (.int k (zs.getD i 0))) ∧ ∀ n ∈ zs, (Lit.int k n).wf = true

set_option maxRecDepth 4000 in
set_option maxHeartbeats 1600000 in
theorem walk (a0 : Option Addr) (cap0 : Nat) (z0 : List (List Int)) (a1 : Int) (w : World) (hh : Half w) (w0 : PiecesLie w a0 z0 ∧ z0.length ≤ cap0 ∧ cap0 ≤ maxLen ∧ ∀ q ∈ z0, IsBytes q) (w1 : (Lit.int .i64 a1).wf = true) :
    Calls Tryd.prog 5 #[.slice a0 z0.length cap0, .int .i64 a1] w fun e w' => e = .returned (.bool true) ∧ Below w.heap.size w w' := by
  obtain ⟨hl, hc, hm, hby⟩ := w0
  obtain ⟨at0, at1⟩ := bounds_i64 w1
  clear w1
  by_cases hz : z0.length < 1
  · have h1 : decide ((z0.length : Int) < 1) = true := decide_eq_true (by omega)
    have h1' : (z0.length : Int) < 1 := by omega
    clear hz
    go_enter Tryd.func5, Tryd.ntmps5
    go_wp2_with fail
    refine (alive_any w hh).mono ?_
    rintro e w1 ⟨rfl, hbel⟩
    go_wp2
    go_ret
    exact ⟨rfl, hbel⟩
  have h1 : decide ((z0.length : Int) < 1) = false := decide_eq_false (by omega)
  have h1' : ¬ (z0.length : Int) < 1 := by omega
  by_cases h20 : 20 < z0.length
  · have h2 : decide ((20 : Int) < (z0.length : Int)) = true := decide_eq_true (by omega)
    go_enter Tryd.func5, Tryd.ntmps5
    go_wp2_with fail
    refine (alive_any w hh).mono ?_
    rintro e w1 ⟨rfl, hbel⟩
    go_wp2
    go_ret
    exact ⟨rfl, hbel⟩
  have h2 : decide ((20 : Int) < (z0.length : Int)) = false := decide_eq_false (by omega)
  by_cases hneg : a1 < 1
  · have h3 : decide (a1 < 1) = true := decide_eq_true (by omega)
    clear hz
    go_enter Tryd.func5, Tryd.ntmps5
    go_wp2_with fail
    refine (alive_any w hh).mono ?_
    rintro e w1 ⟨rfl, hbel⟩
    go_wp2
    go_ret
    exact ⟨rfl, hbel⟩
  have h3 : decide (a1 < 1) = false := decide_eq_false (by omega)
  obtain ⟨i0, hi0, hz0, hz1, hz2⟩ := info_parts byte_info
  go_enter Tryd.func5, Tryd.ntmps5
  go_wp2_with fail
  refine (alive_any w hh).mono ?_
  rintro e w1 ⟨rfl, hb1⟩
  have hl1 := hl.below hb1
  have hh1 := hh.below hb1 hh.pos
  clear hl hh
  go_wp2_with fail
  go_loopw [6, 7, 8] (fun bv lv iv wr => ∃ (k L : Nat), iv = .int .i64 k ∧ k ≤ z0.length ∧ lv = .int .i64 L ∧ (0 < k → L = (rowF (z0.take (k - 1))).length) ∧ (∀ p ∈ z0.take k, p.length ≤ 100) ∧ Own .u8 5 wr w1.heap.size bv (rowF (z0.take k)) ∧ Below w1.heap.size w1 wr)
    (fun _ _ iv _ => z0.length - (intOf iv).toNat)
  case atStart => exact ⟨0, 0, rfl, Nat.zero_le _, rfl, fun h => absurd h (by omega), fun p hp => by simp at hp, Own.nil, Below.refl _ _⟩
  case round =>
    obtain ⟨k, L, rfl, hk, rfl, hL, hsm, hown, hbr⟩ := hrel
    have HL := Lib.hid hL
    have HSM := Lib.hid hsm
    clear hL hsm
    by_cases hlt : k < z0.length
    · have hlr := hl1.below hbr
      obtain ⟨b, off, rfl, hbl, hcs⟩ := hlr (by rintro rfl; simp at hlt)
      obtain ⟨Ai, ci, hcell, hli, hpi, hmi, hni⟩ := hcs k hlt
      have hbp : IsBytes z0[k] := hby _ (List.getElem_mem hlt)
      have hsn := rowF_snoc z0 k hlt
      have hpe : z0.take (k + 1) = z0.take k ++ [z0[k]] := List.take_succ_eq_append_getElem hlt
      obtain ⟨p, hp⟩ : ∃ p, z0[k] = p := ⟨_, rfl⟩
      rw [hp] at hcell hli hpi hbp hsn hpe
      have HSN := Lib.hid hsn
      have HPE := Lib.hid hpe
      have HNI := Lib.hid hni
      clear hcs hlr hp hsn hpe hni
      by_cases h100 : 100 < p.length
      · have h4 : decide ((100 : Int) < (p.length : Int)) = true := decide_eq_true (by omega)
        go_wp2
        go_ret
        exact ⟨rfl, hb1.trans (hbr.mono hb1.size)⟩
      have h4 : decide ((100 : Int) < (p.length : Int)) = false := decide_eq_false (by omega)
      have hrl := rowF_length _ HSM.out
      have hlk : (z0.take k).length = k := by rw [List.length_take]; omega
      rw [hlk] at hrl
      obtain ⟨A0, c0, rfl, hc0, hm0⟩ := hown.form
      have hput := reffput_any none [] 0 Ai p ci wr Lies.nil (Nat.le_refl _) (fun _ => rfl) hli hpi HNI.out (by simp) (by omega) hbp
      rw [List.nil_append] at hput
      have HPUT := Lib.hid hput
      have hfl := frameL_length p
      have hpl := putL_length (p.length : Int)
      obtain ⟨fs, hfs⟩ : ∃ fs, frameL p = fs := ⟨_, rfl⟩
      rw [hfs] at HPUT hfl HSN
      obtain ⟨xs, hxs⟩ : ∃ xs, rowF (z0.take k) = xs := ⟨_, rfl⟩
      have HXS := Lib.hid hxs
      rw [hxs] at hown hrl HSN
      have hfl2 : fs.length ≤ 200 := by omega
      have hbd : xs.length + fs.length ≤ 1099511627776 := by omega
      rw [hxs]
      clear hput hfs hfl hpl hxs hlk hrl
      go_wp2_with fail
      refine HPUT.out.mono ?_
      rintro e w2 ⟨v2, rfl, o2, hb2⟩
      clear HPUT
      obtain ⟨A2, c2, rfl, hc2, hm2, hl2⟩ := o2.parts
      have hA2 : Hid (A2 = none → c2 = 0) := Lib.hid fun h => by
        subst h
        rcases o2.2 with ⟨h2, h3⟩ | ⟨g, cap, cur, h2, _⟩
        · injection h2
        · cases h2
      have hown2 := hown.below hb2
      have hbr2 := hbr.trans (hb2.mono hbr.size)
      clear o2 hown
      go_wp2_with (at_builtin; refine wpList_append_ints rfl (.tmp 46) (.tmp 51) 22 rfl w1.heap.size 5 .u8 i0 1 Tryd.underlying22 hi0 hz0 hz1 hz2 (by decide) (.slice A0 xs.length c0) xs rfl hown2 w2.heap.size A2 fs.length c2 fs rfl rfl hc2 hl2 hbd hbr2.size hA2.out ?_; intro v3 w3 hown3 hgr3 _; have hb3 : Below w1.heap.size w1 w3 := hbr2.trans (hown2.grown_below hgr3 hbr2.size); clear hgr3 hown2)
      go_roundw
      case rel =>
        refine ⟨k + 1, xs.length, rfl, by omega, rfl, fun _ => by rw [Nat.add_sub_cancel, HXS.out], fun q hq => ?_, ?_, hb3⟩
        · rw [HPE.out] at hq
          rcases List.mem_append.1 hq with h | h
          · exact HSM.out q h
          · simp only [List.mem_singleton] at h
            subst h
            omega
        · rw [HSN.out]
          exact hown3
      case measure => simp [intOf]; omega
    · have hkE : k = z0.length := by omega
      have hL := HL.out (by omega)
      have hsm := HSM.out
      rw [hkE, List.take_length] at hsm hown
      rw [hkE] at hL
      have hkz : ¬ (k : Int) < (z0.length : Int) := by omega
      obtain ⟨n, hn⟩ : ∃ n, z0.length = n + 1 := ⟨z0.length - 1, by omega⟩
      rw [hn, Nat.add_sub_cancel] at hL
      have hsn := rowF_snoc z0 n (by omega)
      rw [← hn, List.take_length] at hsn
      have hfl := frameL_length (z0[n]'(by omega))
      have hpl := (putL_length ((z0[n]'(by omega)).length : Int)).1
      have hzl := congrArg List.length hsn
      rw [List.length_append, ← hL] at hzl
      have hs2 : ∀ p ∈ z0, p.length ≤ 16777216 := fun p hp => by have := hsm p hp; omega
      have hrl := rowF_length z0 hsm
      have hzb : IsBytes (rowF z0) := rowF_range z0 fun p hp => ⟨hby p hp, hs2 p hp⟩
      have HW := Lib.hid (all_whole z0 hs2)
      have hT := fun m => all_torn z0 n m hs2 hn
      rw [← hL] at hT
      obtain ⟨zs, hzs⟩ : ∃ zs, rowF z0 = zs := ⟨_, rfl⟩
      rw [hzs] at hown hzl hrl hzb HW hT
      obtain ⟨D, hD⟩ : ∃ D, zs.length = L + D ∧ 5 ≤ D := ⟨zs.length - L, by omega, by omega⟩
      obtain ⟨hD, hD5⟩ := hD
      obtain ⟨r, hr⟩ : ∃ r : Nat, (a1 - 1).tmod (D : Int) = (r : Int) ∧ r < D := by
        rw [Int.tmod_eq_emod_of_nonneg (by omega)]
        have e1 := Int.emod_nonneg (a1 - 1) (show (D : Int) ≠ 0 by omega)
        have e2 := Int.emod_lt_of_pos (a1 - 1) (show 0 < (D : Int) by omega)
        exact ⟨((a1 - 1) % (D : Int)).toNat, by omega, by omega⟩
      obtain ⟨hr, hrD⟩ := hr
      obtain ⟨m, hmE⟩ : ∃ m : Nat, (zs.length : Int) - 1 - (r : Int) = (m : Int) ∧ L ≤ m ∧ m < zs.length := ⟨zs.length - 1 - r, by omega, by omega, by omega⟩
      obtain ⟨hmE, hmL, hmz⟩ := hmE
      have e1 : (zs.length : Int) - (L : Int) = (D : Int) := by omega
      have hD0 : ¬ D = 0 := by omega
      have HT := Lib.hid (hT m hmL hmz)
      have hz400 : zs.length ≤ 4000 := by omega
      have hz5 : 0 < zs.length := by omega
      have hlr := hl1.below hbr
      have hhr := hh1.below hbr hh1.pos
      have HNN := Lib.hid hn
      clear hn hkE hL hsm hsn hfl hpl hzl hs2 hrl hT hzs hD HL HSM hl1
      obtain ⟨g, c, rfl, hgb, hgl, hcc, hcm⟩ := hown.spot hz5
      have hlz := Own.lies hown
      have G1 := Lib.hid (fall_any (some ⟨g, 0, none⟩) zs c wr hhr hlz hzb hcc hcm (by omega))
      clear hown
      go_wp2_with fail
      refine G1.out.mono ?_
      rintro e w4 ⟨v4, ps, k4, rfl, ha4, o4, hb4⟩
      clear G1
      obtain ⟨hps, hk4⟩ := ha4.one HW.out
      rw [hk4]
      rw [hps] at o4
      clear hps hk4 ha4 HW
      have hlz4 := ((hlz.below hb4).more hb4.size).take m
      have hh4 := hhr.below hb4 hhr.pos
      have hzm : (zs.take m).length = m := by rw [List.length_take]; omega
      have g2 := fall_any (some ⟨g, 0, none⟩) (zs.take m) c w4 hh4 hlz4 (fun q hq => hzb q (List.mem_of_mem_take hq)) (by omega) hcm (by omega)
      rw [hzm] at g2
      have G2 := Lib.hid g2
      have hmc : m ≤ c := by omega
      have hmc2 : (m : Int) ≤ (c : Int) := by omega
      clear g2 hzm hlz hlz4
      go_wp2_with fail
      refine G2.out.mono ?_
      rintro e w5 ⟨v5, qs, k5, rfl, ha5, o5, hb5⟩
      clear G2
      obtain ⟨hqs, hk5⟩ := ha5.one HT.out
      rw [hk5]
      rw [hqs] at o5
      clear hqs hk5 ha5 HT
      have hnn := HNN.out
      have hln : (z0.take n).length = n := by rw [List.length_take]; omega
      have hl5 := (hlr.below hb4).below hb5
      obtain ⟨A4, c4, rfl, hc4, hm4, l4⟩ := (o4.below hb5).parts
      obtain ⟨A5, c5, rfl, hc5, hm5, l5⟩ := o5.parts
      obtain ⟨b, off, rfl, _, _⟩ := hl5 (by rintro rfl; simp at hz)
      have S1 := Lib.hid (same_any A4 (some ⟨b, off, none⟩) c4 cap0 z0 w5 l4 hl5 (by omega))
      have s2 := fun q => same_any A5 (some ⟨b, off, none⟩) c5 cap0 (z0.take n) (w5.drewN q) l5 (hl5.take n) (by rw [hln]; omega)
      rw [hln] at s2
      have S2 := Lib.hid s2
      have b3 := hb1.trans (hbr.mono hb1.size)
      have b4 := b3.trans (hb4.mono b3.size)
      have b5 := b4.trans (hb5.mono b4.size)
      have hzz : ((zs.length : Int) == (zs.length : Int)) = true := by simp
      have hLL : ((L : Int) == (L : Int)) = true := by simp
      have hn1 : (z0.length : Int) - 1 = (n : Int) := by omega
      have hnc : n ≤ cap0 := by omega
      have hnc2 : (n : Int) ≤ (cap0 : Int) := by omega
      rw [hln]
      clear s2 l4 l5 hl5 o4 o5 hlr hb1 hbr hb4 hb5 b3 b4 hln hhr hh4 hh1 hzb hnn
      go_wp2_with fail
      refine S1.out.mono ?_
      rintro e w6 ⟨rfl, m6, rfl⟩
      go_wp2_with fail
      refine (S2.out m6).mono ?_
      rintro e w6 ⟨rfl, m7, rfl⟩
      go_wp2
      go_ret
      exact ⟨rfl, ⟨b5.os, b5.tape, b5.output, b5.size, b5.block⟩⟩

set_option maxRecDepth 100000 in
theorem lifted (os : Os) (started : os.Started) (H : Type) (enc : TypeId × Value → H) :
    ReturnsInHanded {} Tryd.checked os 5 .any (fun w args => (Rows.frameTornSpec.pre enc Tryd.prog Tryd.f5 [] false w args ∧ laidMetH Tryd.prog laid1 w) ∧ sizedMet enc Tryd.prog Tryd.f5 (OpenSpec.ofChange Rows.frameTornSpec) false w args) (Rows.frameTornSpec.post enc Tryd.prog Tryd.f5 false true false false) := by
  refine returnsInHanded_of_change_and (C := Tryd.checked) (X := fun w _ => laidMetH Tryd.prog laid1 w) (fun _ _ _ hh h => h.of_heap hh) own started (by kernel_rfl) Tryd.func5
    (ChangeSpec.witness_shaped (enc := enc) (C := Tryd.checked) (os := os) (X := fun w _ => laidMetH Tryd.prog laid1 w) false (World.doorLaid Tryd.prog 400 os) #[.slice none 0 0, .int .i64 0] 8 rfl (World.shaped_of_RefB (by kernel_rfl) (by kernel_rfl)) (by kernel_rfl) (by kernel_rfl) (by kernel_rfl) (door_met os _)) ?_
  intro W base args ds gs before hval0 hW _ _ hL _
  have hval : ∀ (j : Nat) t v, Tryd.f5.params[j]? = some t → args[j]? = some v → Value.okWide Tryd.prog W .any base t v := hval0
  have hW' := hW
  obtain ⟨p, q, hA0, hV, rfl, hfz, hnd⟩ := hW
  have hA : DataW.TrodAll enc Tryd.prog W 0 (fun _ => true) true Tryd.f5.params.toList args.toList ds p := hA0
  rw [Tryd.params5] at hA hval
  obtain ⟨v0, vs0, d0, ds0, p0, q0, hargs, rfl, rfl, h0, r0⟩ := trodAll_cons hA
  obtain ⟨v1, vs1, d1, ds1, p1, q1, rfl, rfl, rfl, h1, r1⟩ := trodAll_cons r0
  obtain ⟨rfl, rfl, rfl⟩ := trodAll_nil r1
  obtain rfl : args = #[v0, v1] := by cases args; simp_all
  obtain ⟨rfl, rfl⟩ := trodVars_none hV
  have k0 := h0
  have lt0 : ∀ x ∈ p0, x.block < W.heap.size := by obtain ⟨m, hm⟩ := k0; exact DataW.trod_lt m _ _ _ hm
  obtain ⟨a0, cap0, z0, rfl, w0⟩ := pieces_came (hval 0 32 v0 rfl rfl) h0
  obtain ⟨a1, rfl, rfl, rfl, w1⟩ := open_int Tryd.underlying3 (hval 1 3 v1 rfl rfl) h1
  clear hA0 hval0
  refine (walk a0 cap0 z0 a1 W (of_laid hL) w0 w1).mono fun e W' ⟨he, bel⟩ => ?_
  subst he
  exact ⟨_, rfl, _, _, _, [], _, [], hW', trodAll_mk1 (shut_bool Tryd.underlying4 _), (trodAll_cons_mk (Below.trod laidOut (by kernel_rfl) (of_decide_eq_true (by kernel_rfl)) k0 bel lt0) (trodAll_cons_mk (shut_int Tryd.underlying3 w1) trodAll_mk0)), rfl, bel.frame _, fun h => by cases h⟩

theorem over : Rows.frameTornRow.holds Tryd.pinned (OpenSpec.ofChange Rows.frameTornSpec) :=
  OpenClaim.holds_of_wide 5 Tryd.f5 rfl rfl rfl rfl rfl rfl rfl ⟨rfl, rfl, rfl, rfl, rfl⟩ rfl rfl rfl rfl rfl (by kernel_rfl) Tryd.func5 (by kernel_rfl)
    (of_decide_eq_true (by kernel_rfl)) (by unfold Func.isWrapper; first | (rw [if_pos (by decide +kernel)]; kernel_rfl) | (rw [if_neg (by decide +kernel)]; exact ⟨rfl, rfl⟩))
    (fun os started H enc _ => lifted os started H enc)

theorem proved : Rows.FrameTornCardSaid :=
  Claim7.holds_tied_plain_at .later [] [.data] true (true, "9e107c22ca914675d5dce9c957400d25d739763ef1521b3ddb2c86944bce0472") false
    over (fun _ h => by cases h) (by kernel_rfl) (fun _ h => by cases h) frameTorn_row_tie rfl ⟨rfl, rfl⟩ (by kernel_rfl) rfl
    (fun f fn hf hfn => by
      obtain rfl : f = 5 := Option.some.inj ((show Tryd.prog.funcNamed "cooperage/cooperagelaw5.FrameTorn" = some 5 by kernel_rfl).symm.trans hf) |>.symm
      obtain rfl : fn = Tryd.f5 := (Option.some.inj (Tryd.func5.symm.trans hfn)).symm
      exact ⟨by kernel_rfl, fun j t ht => by
        rw [Tryd.params5] at ht
        have hm : t ∈ [32, 3] := by simpa using Array.mem_of_getElem? ht
        have hall : ([32, 3].all fun u => !Tryd.prog.wantsStandIn u) = true := by kernel_rfl
        exact (show Tryd.prog.wantsStandIn t = false by simpa using List.all_eq_true.1 hall t hm)⟩)
    (by kernel_rfl)
#print axioms proved
end Go.Proofs.YtfkkfnanhknlbaaDoor.frameTorn
