/- For every three slices of bytes, nil too, the law FramePuts answers true, and its arguments read as before; where the program's table lies as the program's own text lays it (the card ties that). -/
import Derived.Test.YtfkkfnanhknlbaaDoorRows
import Derived.WalkKit
import Derived.ProofKit
import Derived.OpenShut
import Derived.ShutString
import Derived.ChangeOld
import Derived.Below
import Derived.LaidMore
import Derived.Stop.Joined
import Derived.SevenTiedAt
import Derived.Test.YtfkkfnanhknlbaaDoorCards
import Derived.Test.YtfkkfnanhknlbaaDoorTie
import Derived.Test.YtfkkfnanhknlbaaDoorCame
import Derived.Test.YtfkkfnanhknlbaaDoorFrAlive
import Derived.Test.YtfkkfnanhknlbaaDoorRFrPut
import Derived.Test.YtfkkfnanhknlbaaDoorVFrGet
import Derived.Test.YtfkkfnanhknlbaaDoorCrcLaid
namespace Go.Proofs.YtfkkfnanhknlbaaDoor.framePuts
open Go.ChangeShapes Go.WideShapes Go.ChangeAt Go.RowKit
open Go.ChangeMaps (open_string shut_string)
set_option linter.unusedVariables false

theorem own : ownKnob Tryd.prog.godebug = none := by kernel_rfl
theorem laidOut : laidOutB Tryd.prog = true := by kernel_rfl

/-- WHAT THE WALK IS TOLD OF A SLICE OF INTEGERS THAT CAME IN: it is nil; or it leads to a row of 'cap' cells, the numbers 'zs' (the first 'len' are its elements, the rest its spare room), each fitting its kind. -/
def IsRow (k : IntKind) (w : World) (a : Option Addr) (len cap : Nat) (zs : List Int) : Prop :=
  (a = none ∧ len = 0 ∧ cap = 0 ∧ zs = []) ∨
  ∃ x, a = some x ∧ len ≤ cap ∧ cap ≤ maxLen ∧ zs.length = cap ∧ (∀ i, i < zs.length → w.cell? (x.add i) = some (.int k (zs.getD i 0))) ∧ ∀ n ∈ zs, (Lit.int k n).wf = true

set_option maxRecDepth 4000 in
set_option maxHeartbeats 1600000 in
theorem walk (a0 : Option Addr) (len0 cap0 : Nat) (z0 : List Int) (a1 : Option Addr) (len1 cap1 : Nat) (z1 : List Int) (a2 : Option Addr) (len2 cap2 : Nat) (z2 : List Int) (w : World) (hh : Half w) (w0 : IsRow .u8 w a0 len0 cap0 z0) (w1 : IsRow .u8 w a1 len1 cap1 z1) (w2 : IsRow .u8 w a2 len2 cap2 z2) :
    Calls Tryd.prog 3 #[.slice a0 len0 cap0, .slice a1 len1 cap1, .slice a2 len2 cap2] w fun e w' => e = .returned (.bool true) ∧ Below w.heap.size w w' := by
  obtain ⟨xs, rfl, hc, hm, hl, hwf, hn⟩ := row_came w0
  obtain ⟨ps, rfl, hcp, hmp, hlp, hwfp, hnp⟩ := row_came w1
  obtain ⟨ms, rfl, hc', hm', hl', hwf', hn'⟩ := row_came w2
  have hby : IsBytes xs := fun n hn => bounds_u8 (hwf n hn)
  have hbp : IsBytes ps := fun n hn => bounds_u8 (hwfp n hn)
  have hby' : IsBytes ms := fun n hn => bounds_u8 (hwf' n hn)
  clear w0 w1 w2 hwf hwf' hwfp
  by_cases h200 : 200 < xs.length
  · have h1 : decide ((200 : Int) < (xs.length : Int)) = true := decide_eq_true (by omega)
    go_enter Tryd.func3, Tryd.ntmps3
    go_wp2_with fail
    refine (alive_any w hh).mono ?_
    rintro e w1 ⟨rfl, hbel⟩
    go_wp2
    go_ret
    exact ⟨rfl, hbel⟩
  have h1 : decide ((200 : Int) < (xs.length : Int)) = false := decide_eq_false (by omega)
  by_cases h500 : 500 < ps.length
  · have h2 : decide ((500 : Int) < (ps.length : Int)) = true := decide_eq_true (by omega)
    go_enter Tryd.func3, Tryd.ntmps3
    go_wp2_with fail
    refine (alive_any w hh).mono ?_
    rintro e w1 ⟨rfl, hbel⟩
    go_wp2
    go_ret
    exact ⟨rfl, hbel⟩
  have h2 : decide ((500 : Int) < (ps.length : Int)) = false := decide_eq_false (by omega)
  by_cases h200' : 200 < ms.length
  · have h3 : decide ((200 : Int) < (ms.length : Int)) = true := decide_eq_true (by omega)
    go_enter Tryd.func3, Tryd.ntmps3
    go_wp2_with fail
    refine (alive_any w hh).mono ?_
    rintro e w1 ⟨rfl, hbel⟩
    go_wp2
    go_ret
    exact ⟨rfl, hbel⟩
  have h3 : decide ((200 : Int) < (ms.length : Int)) = false := decide_eq_false (by omega)
  have HN := Lib.hid hn
  have HNP := Lib.hid hnp
  have HN' := Lib.hid hn'
  clear hn hn' hnp
  obtain ⟨i0, hi0, hz0, hz1, hz2⟩ := info_parts byte_info
  have hgf := getFr_frame ps ms (by omega)
  have hpl := frameL_length ps
  have hH := putL_length (ps.length : Int)
  have hfb := frameL_range ps hbp (by omega)
  obtain ⟨fs, hfs⟩ : ∃ fs, frameL ps = fs := ⟨_, rfl⟩
  rw [hfs] at hgf hpl hfb
  have HFS := Lib.hid hfs
  have HGF := Lib.hid hgf
  have HFB := Lib.hid hfb
  have fl1 : 1 ≤ fs.length := by omega
  have fl2 : fs.length ≤ 600 := by omega
  clear hfs hgf hpl hH hfb
  go_enter Tryd.func3, Tryd.ntmps3
  go_wp2_with fail
  refine (alive_any w hh).mono ?_
  rintro e w1 ⟨rfl, hbel⟩
  have hl1 := (hl.below hbel).more hbel.size
  have hlp1 := (hlp.below hbel).more hbel.size
  have hh1 := hh.below hbel hh.pos
  go_wp2_with (at_builtin; refine wpList_append_ints rfl (.const (.slice none 0 0)) (.tmp 31) 22 rfl w1.heap.size 5 .u8 i0 1 Tryd.underlying22 hi0 hz0 hz1 hz2 (by decide) (.slice none 0 0) [] rfl Own.nil w1.heap.size a0 xs.length cap0 xs rfl rfl hc hl1 (by simp; omega) (Nat.le_refl _) HN.out ?_; intro v1 w2 hown hgr hob)
  rw [List.nil_append] at hown
  have hbel2 : Below w1.heap.size w1 w2 := (Own.nil (k := .u8) (e := 5) (w := w1) (base := w1.heap.size)).grown_below hgr (Nat.le_refl _)
  obtain ⟨A, c, rfl, hc2, hm2, hlo⟩ := hown.parts
  have hlp2 := (hlp1.below hbel2).more hbel2.size
  have hh2 := hh1.below hbel2 hh1.pos
  clear hgr hown hob
  have hput := fput_any A xs c a1 ps cap1 w2 hh2 hlo hc2 hlp2 hcp HNP.out (by omega) (by omega) hbp
  rw [HFS.out] at hput
  have HPUT := Lib.hid hput
  clear hput
  go_wp2_with fail
  refine HPUT.out.mono ?_
  rintro e w3 ⟨v3, rfl, hown3, hbel3⟩
  clear HPUT
  obtain ⟨zs, hzs⟩ : ∃ zs, xs ++ fs = zs := ⟨_, rfl⟩
  rw [hzs] at hown3
  have hzl : zs.length = xs.length + fs.length := by rw [← hzs, List.length_append]
  have hzd : zs.drop xs.length = fs := by rw [← hzs, List.drop_left]
  obtain ⟨A3, c3, rfl, hc3, hm3, hl3⟩ := hown3.parts
  clear hown3
  have HZ := Lib.hid hzs
  have HZL := Lib.hid hzl
  have HZD := Lib.hid hzd
  have zl1 : xs.length + 1 ≤ zs.length := by omega
  have zl2 : zs.length ≤ xs.length + 600 := by omega
  clear hzs hzl hzd
  have b13 : Below w1.heap.size w1 w3 := hbel2.trans (hbel3.mono hbel2.size)
  have lb3 := (hl1.below b13).more b13.size
  have lp3 := (hlp1.below b13).more b13.size
  have cvz : ∀ (W : World) (B : Nat) (X : Option Addr) (ys : List Int) (d : Nat), Lies .u8 W B X ys → (convert 22 9 (.slice X ys.length d)).run Tryd.prog W = .ok (.string (textOf ys)) W := fun W B X ys d h => conv_bytes 22 9 5 Tryd.underlying22 Tryd.underlying5 Tryd.underlying9 h d
  have CV := Lib.hid cvz
  clear cvz
  have cv1 := CV.out w3.drew _ A3 zs c3 hl3
  have hrp := reffput_any a0 xs cap0 a1 ps cap1 w3.drew lb3 hc HN.out lp3 hcp HNP.out (by omega) (by omega) hbp
  rw [HFS.out, HZ.out] at hrp
  have HRP := Lib.hid hrp
  clear hrp hlo hlp2 hbel2 hbel3 hh2
  have hlt : decide ((zs.length : Int) < (xs.length : Int)) = false := by simp; omega
  have hT : ((textOf zs).toList != (textOf zs).toList) = false := by simp
  go_wp2_with fail
  refine wp_region_held_drew (S := fun W => (convert 22 9 (.slice A3 zs.length c3)).run Tryd.prog W = .ok (.string (textOf zs)) W) (by kernel_rfl) cv1 (fun hHeld => ?_)
  refine held_take 0 35 (v := ?v0) rfl rfl (by kernel_rfl) (by kernel_rfl) (by kernel_rfl) (fun _ _ _ h => h) hHeld (Or.inl ⟨by rfl, ?y0⟩) ?r0
  case y0 => intro w hSw; (try dsimp only at hSw); go_simp; (try with_reducible rfl)
  simp only [List.setIfInBounds_toArray, List.set_cons_zero, List.set_cons_succ]
  refine held_take 1 36 (v := ?v1) rfl rfl (by kernel_rfl) (by kernel_rfl) (by kernel_rfl) (fun _ _ _ h => h) hHeld (Or.inl ⟨by rfl, ?y1⟩) ?r1
  case y1 => intro w hSw; (try dsimp only at hSw); go_simp; (try with_reducible rfl)
  simp only [List.setIfInBounds_toArray, List.set_cons_zero, List.set_cons_succ]
  refine held_take 2 37 (v := ?v2) rfl rfl (by kernel_rfl) (by kernel_rfl) (by kernel_rfl) (fun _ _ _ h => h) hHeld (Or.inl ⟨by rfl, ?y2⟩) ?r2
  case y2 => intro w hSw; (try dsimp only at hSw); go_simp; (try with_reducible rfl)
  simp only [List.setIfInBounds_toArray, List.set_cons_zero, List.set_cons_succ]
  refine held_take 3 38 (v := ?v3) rfl rfl (by kernel_rfl) (by kernel_rfl) (by kernel_rfl) (fun _ _ _ h => h) hHeld (Or.inl ⟨by rfl, ?y3⟩) ?r3
  case y3 => intro w hSw; (try dsimp only at hSw); go_simp; (try with_reducible rfl)
  simp only [List.setIfInBounds_toArray, List.set_cons_zero, List.set_cons_succ]
  refine wpAnyH_ready (rs := [4]) (by kernel_rfl) (by simp) ?_
  refine AllReadyH.cons rfl (fun K hK => ?_) AllReadyH.nil
  go_simp
  refine HRP.out.mono ?_
  rintro e w4 ⟨v4, rfl, hown4, hbel4⟩
  have hb4 : Below w3.heap.size w3 w4 := below_undrew hbel4
  obtain ⟨A4, c4, rfl, _, _, hl4⟩ := hown4.parts
  have cv2 := CV.out w4 _ A4 zs c4 hl4
  have cv3 := CV.out w4 _ A3 zs c3 (hl3.below hb4)
  clear hown4 hl4 hbel4 hHeld cv1 HRP
  refine hK.out _ _ ?_ (fun _ => ?_)
  · exact cv3
  clear hK K
  refine wpAnyH_switch (fun W => (convert 22 9 (.slice A4 zs.length c4)).run Tryd.prog W = .ok (.string (textOf zs)) W ∧ (convert 22 9 (.slice A3 zs.length c3)).run Tryd.prog W = .ok (.string (textOf zs)) W) (fun _ h => h.2) _ _ _ _ ?_
  have hHeld := And.intro cv2 cv3
  clear cv2 cv3
  refine held_take 5 40 (v := ?v5) rfl rfl (by kernel_rfl) (by kernel_rfl) (by kernel_rfl) (fun _ _ _ h => h) hHeld (Or.inl ⟨by rfl, ?y5⟩) ?r5
  case y5 => intro w hSw; (try dsimp only at hSw); go_simp; (try with_reducible rfl)
  simp only [List.setIfInBounds_toArray, List.set_cons_zero, List.set_cons_succ]
  refine held_take 6 41 (v := ?v6) rfl rfl (by kernel_rfl) (by kernel_rfl) (by kernel_rfl) (fun _ _ _ h => h) hHeld (Or.inl ⟨by rfl, ?y6⟩) ?r6
  case y6 => intro w hSw; (try dsimp only at hSw); go_simp; (try with_reducible rfl)
  simp only [List.setIfInBounds_toArray, List.set_cons_zero, List.set_cons_succ]
  refine held_take 7 42 (v := ?v7) rfl rfl (by kernel_rfl) (by kernel_rfl) (by kernel_rfl) (fun _ _ _ h => h) hHeld (Or.inl ⟨by rfl, ?y7⟩) ?r7
  case y7 => intro w hSw; (try dsimp only at hSw); go_simp; (try with_reducible rfl)
  simp only [List.setIfInBounds_toArray, List.set_cons_zero, List.set_cons_succ]
  refine held_take 8 43 (v := ?v8) rfl rfl (by kernel_rfl) (by kernel_rfl) (by kernel_rfl) (fun _ _ _ h => h) hHeld (Or.inl ⟨by rfl, ?y8⟩) ?r8
  case y8 => intro w hSw; (try dsimp only at hSw); go_simp; (try with_reducible rfl)
  simp only [List.setIfInBounds_toArray, List.set_cons_zero, List.set_cons_succ]
  refine held_take 9 44 (v := ?v9) rfl rfl (by kernel_rfl) (by kernel_rfl) (by kernel_rfl) (fun _ _ _ h => h) hHeld (Or.inl ⟨by rfl, ?y9⟩) ?r9
  case y9 => intro w hSw; (try dsimp only at hSw); go_simp; (try with_reducible rfl)
  simp only [List.setIfInBounds_toArray, List.set_cons_zero, List.set_cons_succ]
  refine held_take 10 45 (v := ?v10) rfl rfl (by kernel_rfl) (by kernel_rfl) (by kernel_rfl) (fun _ _ _ h => h) hHeld (Or.inl ⟨by rfl, ?y10⟩) ?r10
  case y10 => intro w hSw; (try dsimp only at hSw); go_simp; (try with_reducible rfl)
  simp only [List.setIfInBounds_toArray, List.set_cons_zero, List.set_cons_succ]
  refine held_take 11 46 (v := ?v11) rfl rfl (by kernel_rfl) (by kernel_rfl) (by kernel_rfl) (fun _ _ _ h => h) hHeld (Or.inl ⟨by rfl, ?y11⟩) ?r11
  case y11 => intro w hSw; (try dsimp only at hSw); go_simp; (try with_reducible rfl)
  simp only [List.setIfInBounds_toArray, List.set_cons_zero, List.set_cons_succ]
  refine held_take 12 47 (v := ?v12) rfl rfl (by kernel_rfl) (by kernel_rfl) (by kernel_rfl) (fun _ _ _ h => h) hHeld (Or.inl ⟨by rfl, ?y12⟩) ?r12
  case y12 => intro w hSw; (try dsimp only at hSw); go_simp; (try with_reducible rfl)
  simp only [List.setIfInBounds_toArray, List.set_cons_zero, List.set_cons_succ]
  refine held_take 13 48 (v := ?v13) rfl rfl (by kernel_rfl) (by kernel_rfl) (by kernel_rfl) (fun _ _ _ h => h) hHeld (Or.inl ⟨by rfl, ?y13⟩) ?r13
  case y13 => intro w hSw; (try dsimp only at hSw); go_simp; (try with_reducible rfl)
  simp only [List.setIfInBounds_toArray, List.set_cons_zero, List.set_cons_succ]
  refine wpAnyH_done (by kernel_rfl) ?_ _
  clear hHeld
  have hl5 := (hl3.below hb4).cut (n := xs.length) hc3
  obtain ⟨b3, off3, rfl, _, _⟩ := hl3.at_ (j := 0) (by omega)
  rw [HZD.out, if_neg (by omega), Option.map_some, add_lit] at hl5
  have b14 : Below w1.heap.size w1 w4 := b13.trans (hb4.mono b13.size)
  have bw4 : Below w.heap.size w w4 := hbel.trans (b14.mono hbel.size)
  have hms := hl'.below bw4
  have lp4 := (lp3.below hb4).more hb4.size
  have hh4 := hh1.below b14 hh1.pos
  have z1 := Lib.hid (show fs.length = zs.length - xs.length by have := HZL.out; omega)
  have hsub : ((zs.length : Int) - (xs.length : Int)) = (fs.length : Int) := by have := HZL.out; omega
  have hcx : ¬ c3 = xs.length := by omega
  have heq : ((fs.length : Int) == (zs.length : Int) - (xs.length : Int)) = true := by rw [hsub]; simp
  obtain ⟨T, hTE⟩ : ∃ T, textOf ps = T := ⟨_, rfl⟩
  have hTT : (T.toList == T.toList) = true := by simp
  have HTE := Lib.hid hTE
  clear hTE hT hl hl1 hl3 lb3 lp3 HN HZ HZL HZD hlt hsub hlp hlp1 hl' b13 hb4 b14 hbel hh hh1
  go_wp2_with (first
    | (at_builtin; refine wpList_append_ints rfl (.const (.slice none 0 0)) (.tmp 53) 22 rfl w4.heap.size 5 .u8 i0 1 Tryd.underlying22 hi0 hz0 hz1 hz2 (by decide) (.slice none 0 0) [] rfl Own.nil w3.heap.size (some ⟨b3, off3 + xs.length, none⟩) (zs.length - xs.length) (c3 - xs.length) fs rfl z1.out (by omega) hl5 (by simp; omega) (Nat.le_refl _) (by simp) ?_; intro v5 w5 hown5 hgr5 hob5; rw [List.nil_append] at hown5; have b45 : Below w4.heap.size w4 w5 := (Own.nil (k := .u8) (e := 5) (w := w4) (base := w4.heap.size)).grown_below hgr5 (Nat.le_refl _); have hms5 := hms.below (b45.mono bw4.size); clear hgr5 hob5)
    | (at_builtin; refine wpList_append_ints rfl (.tmp 54) (.tmp 55) 22 rfl w4.heap.size 5 .u8 i0 1 Tryd.underlying22 hi0 hz0 hz1 hz2 (by decide) v5 fs rfl hown5 w.heap.size a2 ms.length cap2 ms rfl rfl hc' hms5 (by omega) b45.size HN'.out ?_; intro v6 w6 hown6 hgr6 hob6; have b56 := hown5.grown_below hgr6 b45.size; clear hgr6 hob6; obtain ⟨A6, c6, rfl, hc6, hm6, hl6⟩ := hown6.parts))
  have hby6 : IsBytes (fs ++ ms) := fun q hq => by
    rcases List.mem_append.1 hq with h | h
    · exact HFB.out q h
    · exact hby' q h
  have b46 := b45.trans b56
  have hh6 := hh4.below b46 hh4.pos
  have hget := fget_any A6 (fs ++ ms) c6 w6 hh6 hl6 hby6 hc6 hm6
  rw [HGF.out] at hget
  rw [List.length_append] at hget
  refine hget.mono ?_
  rintro e w7 ⟨v7, rfl, hown7, b67⟩
  clear hget hown6 hl6
  dsimp only at hown7
  obtain ⟨A7, c7, rfl, _, _, l7⟩ := hown7.parts
  have lp7 := lp4.below (b46.trans (b67.mono b46.size))
  have cv7 := CV.out w7 _ A7 ps c7 l7
  have cv8 := CV.out w7 _ a1 ps cap1 lp7
  rw [HTE.out] at cv7 cv8
  clear hown7 l7 lp7 CV
  go_wp2_with fail
  refine (num_any _ _).mono ?_
  rintro e w8 ⟨rfl, rfl⟩
  go_wp2
  go_ret
  have b2 := bw4.trans (b46.mono bw4.size)
  exact ⟨rfl, b2.trans (b67.mono b2.size)⟩

set_option maxRecDepth 100000 in
theorem lifted (os : Os) (started : os.Started) (H : Type) (enc : TypeId × Value → H) :
    ReturnsInHanded {} Tryd.checked os 3 .any (fun w args => (Rows.framePutsSpec.pre enc Tryd.prog Tryd.f3 [] false w args ∧ laidMetH Tryd.prog laid1 w) ∧ sizedMet enc Tryd.prog Tryd.f3 (OpenSpec.ofChange Rows.framePutsSpec) false w args) (Rows.framePutsSpec.post enc Tryd.prog Tryd.f3 false true false false) := by
  refine returnsInHanded_of_change_and (C := Tryd.checked) (X := fun w _ => laidMetH Tryd.prog laid1 w) (fun _ _ _ hh h => h.of_heap hh) own started (by kernel_rfl) Tryd.func3
    (ChangeSpec.witness_shaped (enc := enc) (C := Tryd.checked) (os := os) (X := fun w _ => laidMetH Tryd.prog laid1 w) false (World.doorLaid Tryd.prog 400 os) #[.slice none 0 0, .slice none 0 0, .slice none 0 0] 8 rfl (World.shaped_of_RefB (by kernel_rfl) (by kernel_rfl)) (by kernel_rfl) (by kernel_rfl) (by kernel_rfl) (door_met os _)) ?_
  intro W base args ds gs before hval0 hW _ _ hL _
  have hval : ∀ (j : Nat) t v, Tryd.f3.params[j]? = some t → args[j]? = some v → Value.okWide Tryd.prog W .any base t v := hval0
  have hW' := hW
  obtain ⟨p, q, hA0, hV, rfl, hfz, hnd⟩ := hW
  have hA : DataW.TrodAll enc Tryd.prog W 0 (fun _ => true) true Tryd.f3.params.toList args.toList ds p := hA0
  rw [Tryd.params3] at hA hval
  obtain ⟨v0, vs0, d0, ds0, p0, q0, hargs, rfl, rfl, h0, r0⟩ := trodAll_cons hA
  obtain ⟨v1, vs1, d1, ds1, p1, q1, rfl, rfl, rfl, h1, r1⟩ := trodAll_cons r0
  obtain ⟨v2, vs2, d2, ds2, p2, q2, rfl, rfl, rfl, h2, r2⟩ := trodAll_cons r1
  obtain ⟨rfl, rfl, rfl⟩ := trodAll_nil r2
  obtain rfl : args = #[v0, v1, v2] := by cases args; simp_all
  obtain ⟨rfl, rfl⟩ := trodVars_none hV
  obtain ⟨a0, len0, cap0, rfl⟩ := okWide_slice Tryd.underlying22 (hval 0 22 v0 rfl rfl)
  have k0 := h0
  have lt0 : ∀ x ∈ p0, x.block < W.heap.size := by obtain ⟨m, hm⟩ := k0; exact DataW.trod_lt m _ _ _ hm
  obtain ⟨z0, w0⟩ : ∃ zs, IsRow .u8 W a0 len0 cap0 zs := by
    obtain ⟨fuel, hf⟩ := h0
    rcases open_ints Tryd.underlying22 Tryd.underlying5 (by kernel_rfl) hf with ⟨hcs, _⟩ | ⟨x, l, c, zs, hcs, _, hl, hm, hz, _, hcell, hwz⟩
    · simp [Value.cells] at hcs
      obtain ⟨rfl, rfl, rfl⟩ := hcs
      exact ⟨[], .inl ⟨rfl, rfl, rfl, rfl⟩⟩
    · simp [Value.cells] at hcs
      obtain ⟨rfl, rfl, rfl⟩ := hcs
      exact ⟨zs, .inr ⟨_, rfl, hl, hm, by simpa using hz, hcell, hwz⟩⟩
  obtain ⟨a1, len1, cap1, rfl⟩ := okWide_slice Tryd.underlying22 (hval 1 22 v1 rfl rfl)
  have k1 := h1
  have lt1 : ∀ x ∈ p1, x.block < W.heap.size := by obtain ⟨m, hm⟩ := k1; exact DataW.trod_lt m _ _ _ hm
  obtain ⟨z1, w1⟩ : ∃ zs, IsRow .u8 W a1 len1 cap1 zs := by
    obtain ⟨fuel, hf⟩ := h1
    rcases open_ints Tryd.underlying22 Tryd.underlying5 (by kernel_rfl) hf with ⟨hcs, _⟩ | ⟨x, l, c, zs, hcs, _, hl, hm, hz, _, hcell, hwz⟩
    · simp [Value.cells] at hcs
      obtain ⟨rfl, rfl, rfl⟩ := hcs
      exact ⟨[], .inl ⟨rfl, rfl, rfl, rfl⟩⟩
    · simp [Value.cells] at hcs
      obtain ⟨rfl, rfl, rfl⟩ := hcs
      exact ⟨zs, .inr ⟨_, rfl, hl, hm, by simpa using hz, hcell, hwz⟩⟩
  obtain ⟨a2, len2, cap2, rfl⟩ := okWide_slice Tryd.underlying22 (hval 2 22 v2 rfl rfl)
  have k2 := h2
  have lt2 : ∀ x ∈ p2, x.block < W.heap.size := by obtain ⟨m, hm⟩ := k2; exact DataW.trod_lt m _ _ _ hm
  obtain ⟨z2, w2⟩ : ∃ zs, IsRow .u8 W a2 len2 cap2 zs := by
    obtain ⟨fuel, hf⟩ := h2
    rcases open_ints Tryd.underlying22 Tryd.underlying5 (by kernel_rfl) hf with ⟨hcs, _⟩ | ⟨x, l, c, zs, hcs, _, hl, hm, hz, _, hcell, hwz⟩
    · simp [Value.cells] at hcs
      obtain ⟨rfl, rfl, rfl⟩ := hcs
      exact ⟨[], .inl ⟨rfl, rfl, rfl, rfl⟩⟩
    · simp [Value.cells] at hcs
      obtain ⟨rfl, rfl, rfl⟩ := hcs
      exact ⟨zs, .inr ⟨_, rfl, hl, hm, by simpa using hz, hcell, hwz⟩⟩
  clear hA0 hval0
  refine (walk a0 len0 cap0 z0 a1 len1 cap1 z1 a2 len2 cap2 z2 W (of_laid hL) w0 w1 w2).mono fun e W' ⟨he, bel⟩ => ?_
  subst he
  exact ⟨_, rfl, _, _, _, [], _, [], hW', trodAll_mk1 (shut_bool Tryd.underlying4 _), (trodAll_cons_mk (Below.trod laidOut (by kernel_rfl) (of_decide_eq_true (by kernel_rfl)) k0 bel lt0) (trodAll_cons_mk (Below.trod laidOut (by kernel_rfl) (of_decide_eq_true (by kernel_rfl)) k1 bel lt1) (trodAll_cons_mk (Below.trod laidOut (by kernel_rfl) (of_decide_eq_true (by kernel_rfl)) k2 bel lt2) trodAll_mk0))), rfl, bel.frame _, fun h => by cases h⟩

theorem over : Rows.framePutsRow.holds Tryd.pinned (OpenSpec.ofChange Rows.framePutsSpec) :=
  OpenClaim.holds_of_wide 3 Tryd.f3 rfl rfl rfl rfl rfl rfl rfl ⟨rfl, rfl, rfl, rfl, rfl⟩ rfl rfl rfl rfl rfl (by kernel_rfl) Tryd.func3 (by kernel_rfl)
    (of_decide_eq_true (by kernel_rfl)) (by unfold Func.isWrapper; first | (rw [if_pos (by decide +kernel)]; kernel_rfl) | (rw [if_neg (by decide +kernel)]; exact ⟨rfl, rfl⟩))
    (fun os started H enc _ => lifted os started H enc)

theorem proved : Rows.FramePutsCardSaid :=
  Claim7.holds_tied_plain_at .later [] [.data] true (true, "9e107c22ca914675d5dce9c957400d25d739763ef1521b3ddb2c86944bce0472") false
    over (fun _ h => by cases h) (by kernel_rfl) (fun _ h => by cases h) framePuts_row_tie rfl ⟨rfl, rfl⟩ (by kernel_rfl) rfl
    (fun f fn hf hfn => by
      obtain rfl : f = 3 := Option.some.inj ((show Tryd.prog.funcNamed "cooperage/cooperagelaw5.FramePuts" = some 3 by kernel_rfl).symm.trans hf) |>.symm
      obtain rfl : fn = Tryd.f3 := (Option.some.inj (Tryd.func3.symm.trans hfn)).symm
      exact ⟨by kernel_rfl, fun j t ht => by
        rw [Tryd.params3] at ht
        have hm : t ∈ [22, 22, 22] := by simpa using Array.mem_of_getElem? ht
        have hall : ([22, 22, 22].all fun u => !Tryd.prog.wantsStandIn u) = true := by kernel_rfl
        exact (show Tryd.prog.wantsStandIn t = false by simpa using List.all_eq_true.1 hall t hm)⟩)
    (by kernel_rfl)
#print axioms proved
end Go.Proofs.YtfkkfnanhknlbaaDoor.framePuts
